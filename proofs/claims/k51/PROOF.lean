import PyProof.Rows.All
import Wide.All
import OpenK.AllK
import Wide.FinOn
import Lean
import PyProof.EqAt
import PyProof.EqKinds
import PyProof.TupleCall
import PyProof.ReprRoads
import PyProof.FitsInt
import PyProof.FitsBits
import PyProof.Rows.IntMath
import PyProof.ConsumeWalk
import PyProof.WalkInts
import PyProof.ListRange
import PySem.SetTable
import PyProof.SetKind
import PyProof.TupleKey
import PyProof.DictKinds
import PyProof.IsRules
import PyProof.Rows.SetFrom
import PyProof.CollectIter
import PyProof.ForAny
import PyProof.Rows.SortRuns
import PyProof.Rows.SortKey
import KE.KSortTup
import PyProof.ZipIter
import PyProof.Draws
import PyProof.EnumMake
import PyProof.TupleIter
import PyProof.P3Eq
import PyProof.StrCalls2
import PyProof.StrCalls3
import PyProof.FString
import PyProof.SetRoads
import PyProof.Rows.SeqMore
import PyProof.CallFns
import PyProof.StrOps
import PyProof.Rows.Chain
import PyProof.Rows.TupDisplay
import PySem.Challenge.RW_fewfills_k51_whole_fill_by_all_orders
set_option Elab.async false
set_option bootstrap.genMatcherCode false
set_option compiler.extract_closed false
set_option genSizeOf false
set_option linter.all false
set_option maxRecDepth 100000
noncomputable section
local macro_rules|`(command|def $i:declId $s:optDeclSig $v:declVal)=>`(command|noncomputable def $i:declId $s:optDeclSig $v:declVal)
local macro_rules|`(command|abbrev $i:declId $s:optDeclSig $v:declVal)=>`(command|noncomputable abbrev $i:declId $s:optDeclSig $v:declVal)
open PySem
abbrev _root_.WM:=List Str
abbrev _root_.WN:=List Int
abbrev _root_.WP:=List (List Int)
abbrev _root_.WQ:=List Nat
abbrev _root_.WS:=List Addr
abbrev _root_.WT:=List Value
abbrev _root_.WU:=List (Addr×Obj)
abbrev _root_.WV:=Option Value
abbrev _root_.WW:=Option Int
abbrev _root_.WX:=List Expr
abbrev _root_.WA:=Value->Shared->Prop
abbrev _root_.WB:=Str->Option Value
abbrev _root_.WD:=Option Nat
abbrev e_:=@wpAny_bind
abbrev kx:=@List.getElem?_eq_some_iff
abbrev h_:=@PySem.W.Frag
abbrev k_:=@Heap.get?_push_of_some
abbrev mw:=@List.mem_cons_of_mem
abbrev i4:=@Nat.le_refl
abbrev n2:=@List.mem_append_right
abbrev c_:=@if_pos
abbrev n9:=@List.getElem?_set_ne
abbrev q7:=@List.getElem?_append_left
abbrev i5:=@wpAny_pure
abbrev nw:=@Bool.false_eq_true
abbrev ml:=@List.mem_append
abbrev q_:=@List.getElem?_eq_getElem
abbrev n6:=@List.set_cons_succ
abbrev lb:=@List.mem_cons
abbrev f_:=@if_neg
abbrev og:=@List.set_cons_zero
abbrev oy:=@Nat.lt_of_lt_of_le
abbrev oe:=@List.getElem?_map
abbrev tr:=@Option.map_eq_some_iff
abbrev oh:=@List.size_toArray
abbrev rT:=@List.mem_append_left
abbrev l_:=@Heap.lt_size
abbrev rb:=@Heap.get?_push_size
abbrev mm:=@List.mem_map
abbrev vv:=@List.mem_iff_getElem?
abbrev pk:=@List.length_cons
abbrev y4:=@List.getElem?_set_self
abbrev oF:=@List.length_map
abbrev wj:=@List.mem_of_getElem?
abbrev y6:=@Array.getElem?_toList
abbrev ny:=@Nat.le_trans
abbrev Eb:=@List.getElem?_append_right
abbrev xg:=@List.mem_cons_self
abbrev oI:=@List.map_cons
abbrev o0:=@Nat.zero_add
abbrev wl:=@List.mem_filter
abbrev z_:=@Int.toNat_natCast
abbrev xv:=@List.length_nil
abbrev Aa:=@Option.bind_some
abbrev DB:=@Array.length_toList
abbrev ED:=@Option.bind_eq_some_iff
abbrev tt:=@Nat.ne_of_lt
abbrev EF:=@List.getElem?_eq_none
abbrev wr:=@Nat.le_of_lt
abbrev t0:=@Nat.zero_le
abbrev Em:=@List.length_append
abbrev EW:=@List.take_append_drop
abbrev En:=@List.append_assoc
abbrev Ee:=@List.getElem_mem
abbrev Eo:=@List.length_drop
abbrev HQ:=@List.drop_eq_getElem_cons
abbrev HR:=@List.pairwise_iff_getElem
abbrev Ft:=@List.take_of_length_le
abbrev CA:=@List.map_map
abbrev Fv:=@List.length_filter_le
abbrev Ep:=@Heap.size_push
abbrev Er:=@List.take_succ
abbrev EX:=@List.getElem_drop
abbrev DL:=@Nat.ne_of_gt
abbrev Ef:=@Nat.lt_irrefl
abbrev Fh:=@List.mem_filterMap
abbrev EG:=@List.mem_range
abbrev Fi:=@List.nodup_append
abbrev Je:=@List.length_eq_zero_iff
abbrev Fj:=@Bool.not_eq_true'
abbrev HU:=@List.mem_iff_getElem
abbrev HV:=@Nat.add_sub_cancel'
abbrev Fw:=@List.ext_getElem?
abbrev Fx:=@Array.toList_push
abbrev Mz:=@List.getElem?_replicate
abbrev ET:=@Bool.not_true
abbrev Jf:=@List.mem_of_mem_drop
abbrev Fy:=@List.lookup_cons
abbrev Ng:=@Array.getElem?_eq_some_iff
abbrev MB:=@List.drop_eq_nil_of_le
abbrev HW:=@Nat.le_of_lt_succ
abbrev Jg:=@Array.toList_append
abbrev Jh:=@List.getElem_of_mem
abbrev HX:=@List.getElem?_inj
abbrev Nh:=@Array.getElem?_eq_getElem
abbrev Fz:=@List.nodup_cons
abbrev MC:=@List.getElem?_toArray
abbrev FA:=@Array.size_push
abbrev MD:=@List.eq_replicate_iff
abbrev Ji:=@Nat.sub_add_cancel
abbrev Jj:=@List.pairwise_cons
abbrev Jk:=@Int.lt_or_gt_of_ne
abbrev HY:=@List.length_take
abbrev HZ:=@List.not_mem_nil
abbrev H_:=@List.perm_middle
abbrev Ia:=@List.take_length
abbrev Ib:=@Array.toList_inj
abbrev Ic:=@List.mem_flatMap
abbrev Ie:=@List.filter_cons
abbrev MF:=@List.replicate_succ
abbrev Ig:=@List.map_append
abbrev Ni:=@Array.getElem?_extract
abbrev Qx:=@List.perm_ext_iff_of_nodup
abbrev Qy:=@List.perm_append_singleton
abbrev Qz:=@Int.fmod_eq_emod_of_nonneg
abbrev QA:=@List.take_subset_take_left
abbrev Jl:=@Nat.succ_le_succ
abbrev Jm:=@Nat.le_add_right
abbrev Nj:=@List.length_replicate
abbrev Nk:=@Heap.get?_update_self
abbrev MK:=@List.mem_singleton
abbrev Nl:=@Nat.le_sub_one_of_lt
abbrev Jn:=@List.append_nil
abbrev QB:=@List.getElem?_take_of_lt
abbrev Jo:=@Option.map_some
abbrev ML:=@Nat.lt_succ_of_lt
abbrev MN:=@Nat.le_of_succ_le
abbrev QC:=@List.length_filterMap_le
abbrev QD:=@List.getElem?_cons_succ
abbrev Nm:=@Heap.get?_update_ne
abbrev No:=@List.map_congr_left
abbrev MP:=@Bool.and_eq_true
abbrev MQ:=@Nat.lt_succ_self
abbrev QE:=@Heap.get?_update_other
abbrev Np:=@Bool.false_ne_true
abbrev Nq:=@Nat.pos_of_ne_zero
abbrev MU:=@Nat.min_eq_left
abbrev Nr:=@Array.size_append
abbrev Nt:=@List.pairwise_map
abbrev Fk:=@Nat.sub_le
abbrev RF:=@Array.getElem?_eq_none_iff
abbrev RG:=@Array.perm_iff_toList_perm
abbrev QF:=@List.pairwise_append
abbrev QG:=@Array.toList_extract
abbrev RI:=@List.extract_eq_take_drop
abbrev Nu:=@Nat.sub_sub_self
abbrev Nv:=@Nat.le_of_not_lt
abbrev QH:=@List.filterMap_cons
abbrev Ih:=@Nat.le_succ
abbrev QI:=@Nat.sub_le_sub_left
abbrev QJ:=@Nat.add_lt_add_left
abbrev QK:=@List.length_pos_iff
abbrev RJ:=@List.pairwise_filterMap
abbrev QL:=@List.getElem?_drop
abbrev QM:=@Nat.lt_of_le_of_lt
abbrev Nw:=@List.range_succ
abbrev RK:=@List.range_succ_eq_map
abbrev RL:=@List.pairwise_lt_range
abbrev RM:=@List.filter_eq_nil_iff
abbrev RN:=@List.length_pos_of_mem
abbrev UD:=@List.eraseIdx_eq_take_drop_succ
abbrev QN:=@List.drop_sublist
abbrev Ii:=@Nat.sub_lt
abbrev Jp:=@Nat.one_pos
abbrev QO:=@List.all_eq_true
abbrev UE:=@List.take_append_of_le_length
abbrev RQ:=@List.mem_of_mem_take
abbrev RT:=@List.getElem?_zipIdx
abbrev RU:=@List.getElem?_range
abbrev RV:=@Bool.not_eq_false'
abbrev RW:=@Int.lt_of_le_of_lt
abbrev UF:=@List.exists_mem_of_ne_nil
abbrev RX:=@List.getElem_take
abbrev QP:=@List.any_cons
abbrev UG:=@Nat.add_sub_cancel_left
abbrev UH:=@List.pairwise_mergeSort
abbrev RY:=@List.nodup_range
abbrev RZ:=@Nat.min_eq_right
abbrev R0:=@Nat.lt_of_not_le
abbrev R1:=@List.zipIdx_cons
abbrev R3:=@List.any_eq_true
abbrev UI:=@Array.getElem?_eq_none
abbrev UJ:=@List.getElem_cons_drop
abbrev UK:=@Nat.sub_eq_zero_iff_le
abbrev UL:=@Nat.eq_zero_of_not_pos
abbrev R4:=@List.of_mem_zip
abbrev R5:=@List.foldl_cons
abbrev R6:=@List.forIn_cons
abbrev UM:=@List.set_append_right
abbrev UN:=@Nat.le_sub_of_add_le'
abbrev UO:=@List.perm_append_comm
abbrev UP:=@Nat.le_of_sub_eq_zero
abbrev UQ:=@Bool.beq_eq_decide_eq
abbrev R7:=@Bool.and_false
abbrev R8:=@List.nodup_nil
abbrev R9:=@Nat.sub_add_eq
abbrev QQ:=@Nat.mod_lt
abbrev R_:=@List.map_nil
abbrev Sa:=@Nat.le_of_eq
abbrev Sb:=@Nat.lt_trans
abbrev Sd:=@Int.le_trans
noncomputable section
local macro_rules | `(tactic| ext) => `(tactic| omega)
local instance (priority:=1) cdec (p:Prop):Decidable p:=Classical.propDecidable p
local macro_rules | `(⋯) => `(by lia)
open Option renaming some->J,none->Y
open Bool renaming true->I,false->T
local macro_rules | `(tactic| ac_rfl)=>`(tactic| first | exact λ_ _ _ _ _ _=>$(Lean.mkIdent `Rt) λ_=>rfl | exact λ_ _ _ _ _ _=>$(Lean.mkIdent `TF) λ_ _=>rfl | exact λ_ _ _ _ _ _=>$(Lean.mkIdent `TJ) λ_ _ _=>rfl | exact λ_ _ _ _ _ _=>$(Lean.mkIdent `TL) λ_ _ _ _=>rfl | exact λ_ _ _ _ _ _=>$(Lean.mkIdent `ar5) λ_ _ _ _ _=>rfl)
local macro_rules | `(tactic| nofun)=>`(tactic| exact⟨rfl,rfl,rfl,by decide +kernel,rfl,by decide +kernel,by decide +kernel⟩)
namespace L2
open PySem.Spec PyProof.Rows
abbrev Eg:=Sum Int Str
def Ij:Eg->Value->Bool
 |.inl k,v=>Value.isInt k v
 |.inr x,v=>Value.isStrOf x v
def Se(w:World):Eg->Int
 |.inl k=>hashInt k
 |.inr x=>hashStr w x
def cv:∀{k:Eg}{v:Value},Ij k v=I->(∃i t,k=Sum.inl i/\v=Value.int i t)\/(∃x t,k=Sum.inr x/\v=Value.str x t)
 |.inl i,v,h=>by
  obtain⟨t,e⟩:=Value.isInt_shape h;exact .inl ⟨i,t,rfl,e⟩
 |.inr x,v,h=>by
  obtain⟨t,e⟩:=Value.isStrOf_shape h;exact .inr ⟨x,t,rfl,e⟩
def Jq(a b:Int):decide ((Sum.inl a:Eg)=Sum.inl b)=(a==b):=by
 by_cases e:a=b
 .subst e;simp
 .have h:¬(Sum.inl a:Eg)=Sum.inl b:=λq=>e (Sum.inl.inj q);rw[decide_eq_false h];exact(beq_eq_false_iff_ne.mpr e).symm
def Jr(a b:Str):decide ((Sum.inr a:Eg)=Sum.inr b)=decide (a=b):=by simp
def Js(a:Int)(b:Str):decide ((Sum.inl a:Eg)=Sum.inr b)=T:=decide_eq_false (λq=>nomatch q)
def Jt(a:Str)(b:Int):decide ((Sum.inr a:Eg)=Sum.inl b)=T:=decide_eq_false (λq=>nomatch q)
def sB(prog:Program)(w:World):PySem.KeyKind prog w Eg where
 is:=Ij
 hash:=Se w
 inj:=λv a b r f=>by
  rcases cv r with⟨i,t,rfl,rfl⟩|⟨x,t,rfl,rfl⟩
  .rcases cv f with⟨j,u,rfl,e⟩|⟨y,u,rfl,e⟩
   .injection e with e1 _;rw[e1]
   .exact nomatch e
  .rcases cv f with⟨j,u,rfl,e⟩|⟨y,u,rfl,e⟩
   .exact nomatch e
   .injection e with e1 _;rw[e1]
 byValue:=λk v h=>by
  rcases cv h with⟨i,t,rfl,rfl⟩|⟨x,t,rfl,rfl⟩<;>rfl
 pyHash:=λhv h=>by
  rcases cv hv with⟨i,t,rfl,rfl⟩|⟨x,t,rfl,rfl⟩
  .exact wpAny_pyHash_int h
  .exact wpAny_pyHash_str h
 eqBool:=λl hv h=>by
  rcases cv l with⟨i,t,rfl,rfl⟩|⟨x,t,rfl,rfl⟩
  .rcases cv hv with⟨j,u,rfl,rfl⟩|⟨y,u,rfl,rfl⟩
   .rw[Jq]at h;exact wpAny_eqBool_int h
   .rw[Js]at h;exact SeqAt.EqAt.int_str i t y u _ _ _ _ h
  .rcases cv hv with⟨j,u,rfl,rfl⟩|⟨y,u,rfl,rfl⟩
   .rw[Jt]at h;exact SeqAt.EqAt.str_int x t j u _ _ _ _ h
   .rw[Jr]at h;exact wpAny_eqBool_str h
 «strs»:=λk x t v h=>by
  rcases cv h with⟨i,u,rfl,e⟩|⟨y,u,rfl,e⟩
  .exact nomatch e
  .injection e with e1 _
   subst e1;cases v<;>rfl
inductive V where
 |non | bl (b:Bool) | int (i:Int) | str (x:Str) | byt (b:Array UInt8) | flt (b:UInt64) | ref (a:Addr) | ty (n:String)
 deriving DecidableEq
def aZ:V->Value->Prop
 |.non,u=>u=Value.none
 |.bl b,u=>u=Value.bool b
 |.int i,u=>∃t,u=Value.int i t
 |.str x,u=>∃t,u=Value.str x t
 |.byt b,u=>∃t,u=Value.bytes b t
 |.flt b,u=>∃t,u=Value.float b t
 |.ref a,u=>u=Value.ref a
 |.ty n,u=>u=Value.type n
abbrev aD:List V->WT->Prop:=Paired aZ
def aD.length(r:aD xs us):xs.length=us.length:=Paired.length r
def aD.get{xs:List V}{a:WT}{i:Nat}{x:V}(r:aD xs a)(e:xs[i]?=J x):∃u,a[i]?=J u/\aZ x u:=by
 induction r generalizing i with
 |nil=>cases e
 |cons r t f =>
  cases i with
  |zero=>cases e;exact⟨_,rfl,r⟩
  |succ i=>have z:=@f i e;exact z
def aD.set(r:aZ x u)(i:Nat)(q:aD xs us):aD (xs.set i x) (us.set i u):=by
 induction q generalizing i with
 |nil=>exact .nil
 |cons a t f =>
  cases i with
  |zero=>exact .cons r t
  |succ i=>exact .cons a (f i)
def aD.append(r:aD xs us)(s:aD ys ws):aD (xs++ys) (us++ws):=by
 induction r with
 |nil=>exact s
 |cons r t a=>exact .cons r a
def aD.take(n:Nat)(r:aD xs us):aD (xs.take n) (us.take n):=by
 induction r generalizing n with
 |nil=>cases n<;>exact .nil
 |cons a t f =>
  cases n with
  |zero=>exact .nil
  |succ n=>exact .cons a (f n)
def aD.drop(n:Nat)(r:aD xs us):aD (xs.drop n) (us.drop n):=by
 induction r generalizing n with
 |nil=>cases n<;>exact .nil
 |cons a t f =>
  cases n with
  |zero=>exact .cons a t
  |succ n=>exact f n
def Nx:Option V->WV->Prop
 |some v,J u=>aZ v u
 |none,Y=>True
 |_,_=>False
def KV{κ:Type}:List (κ×V)->List (κ×Value)->Prop:=Paired λ(p:κ×V)(q:κ×Value)=>p.1=q.1/\aZ p.2 q.2
def kV:Eg->V
 |.inl i=>.int i
 |.inr x=>.str x
inductive HO where
 |lst(xs:List V)
 |tup(xs:List V)
 |dK(kvs:List (Eg×V)) | dT (kvs:List (List Eg×V))
 |set(S:Int->Bool)(n:Nat)
 |ins(C dx:Addr)(fs:List (Str×V))
 |own(x:Addr)
 |xd(fs:List (Str×V))
 |met(f x:Addr)
 |rng(lo hi:Int)
 |frz(o:Obj)(u:HO)
 |tbl(ps:Array Value)
 |ext(φ:Heap->Prop)
abbrev Hp:=Addr->Option HO
def ky(H:Hp)(a:Addr)(o:HO):Hp:=λb=>if b=a then J o else H b
def cg:ky H a o a=J o:=by delta ky;rw[c_ rfl]
def bh(h:b≠a):ky H a o b=H b:=by delta ky;rw[f_ h]
def b7{H:Hp}{a b:Addr}{o:HO}(h:H a=J o)(f:H b=Y):a≠b:=by intro e;subst e;rw[h]at f;cases f
def jH(h:Heap)(a:Addr)(f:Array Value):Prop:=∃o,h.get? a=J o/\o.cls=.type "tuple"/\(∃n,o.data=.seq f n)/\o.dict=Y
def jH.tup(t:jH h a its):IsTup h a its:=let⟨o,e,c,d,_⟩:=t;⟨o,e,c,d⟩
def jH.lt(t:jH h a its):a<h.objs.size:=t.tup.lt
def jH.new(h:Heap)(a:Array Value):jH (h.push { cls:=.type "tuple",data:=.seq a}) h.objs.size a:=⟨_,rb h rfl,rfl,⟨_,rfl⟩,rfl⟩
section
variable(P:Program)(w:World)
def ObjOk(H:Hp)(h:Heap)(a:Addr):HO->Prop
 |.lst xs=>xs.length<=sizeLine/\∃(j:WT) (n:Nat),aD xs j/\h.get? a=J { cls:=.type "list",data:=.seq j.toArray n}
 |.tup xs=>xs.length<=sizeLine/\∃j:WT,aD xs j/\jH h a j.toArray
 |.dK i=>i.length<=sizeLine/\(a==sysModules)=T/\∃B,KV i B/\h.DictOf (sB P w) a B
 |.dT i=>i.length<=sizeLine/\(a==sysModules)=T/\∃xs:List (List Eg×Addr×Value),
   Paired (λ(p:List Eg×V)(q:List Eg×Addr×Value)=>p.1=q.1/\H q.2.1=J (.tup (p.1.map kV))/\aZ p.2 q.2.2) i xs /\
   ∃o E F,h.get? a=J o/\o.ExactDict/\o.data=.dict E F/\E.toList=xs.map (entryOfKey (tupleKind (sB P w)))/\(xs.map (·.1)).Nodup
 |.set S n=>h.SetOf (intKind P w) a S n
 |.ins C r fs=>H r=J (.own a)/\fs.length<=1000/\r≠a/\h.get? a=J (PySem.W.instObj C r) /\
   ∃l,h.Ns1 r l/\(∀f,Nx (fs.lookup f) (l f))/\PySem.Within l (fs.map (·.1))
 |.own _=>∃o,h.get? a=J o
 |.xd fs=>∃l,h.Ns1 a l/\∀f,Nx (fs.lookup f) (l f)
 |.rng lo G=>∃t u v,h.get? a=J { cls:=.type "range",data:=.fields #[.int lo t,.int G u,.int 1 v]}
 |.frz o u=>h.get? a=J o/\ObjOk H h a u
 |.tbl L=>h.get? a=J { cls:=.none,data:=.fields L}
 |.met f x=>h.get? a=J (PySem.W.methodObj (.ref f) (.ref x))
 |.ext φ=>φ h/\(∃o,h.get? a=J o)/\∀z y:Heap,φ z->(∀o,z.get? a=J o->y.get? a=J o)->φ y
def HOk(H:Hp)(h:Heap):Prop:=∀a o,H a=J o->ObjOk P w H h a o
end
section
variable{P:Program}{w:World}{H H':Hp}{h h':Heap}{a:Addr}{o:HO}
def ObjOk.lt(x:ObjOk P w H h a o):a<h.objs.size:=by
 cases o with
 |lst xs=>obtain⟨_,_,_,_,e⟩:=x;exact l_ e
 |tup xs=>obtain⟨_,_,_,p⟩:=x;exact p.lt
 |dK i=>obtain⟨_,_,_,_,o,_,_,e,_⟩:=x;exact l_ e
 |dT i=>obtain⟨_,_,_,_,o,_,_,e,_⟩:=x;exact l_ e
 |set S n=>obtain⟨o,_,_,_,e,_⟩:=x;exact l_ e
 |ins C l fs=>obtain⟨_,_,_,e,_⟩:=x;exact l_ e
 |own y=>obtain⟨_,e⟩:=x;exact l_ e
 |xd fs=>obtain⟨_,⟨_,_,_,e,_⟩,_⟩:=x;exact l_ e
 |rng lo r=>obtain⟨_,_,_,e⟩:=x;exact l_ e
 |frz j u=>obtain⟨e,_⟩:=x;exact l_ e
 |tbl z=>exact l_ (x)
 |met f y=>exact l_ (x)
 |ext φ=>obtain⟨_,⟨_,e⟩,_⟩:=x;exact l_ e
def Paired.mapP{α β:Type}{F G:α->β->Prop}{j:List α}{i:List β}(r:Paired F j i)(f:∀a b,F a b->G a b):Paired G j i:=by
 induction r with
 |nil=>exact .nil
 |cons r t l=>exact .cons (f _ _ r) l
def ObjOk.stay(x:ObjOk P w H h a o)(k:∀b u,(b=a\/H b=J (.own a))->h.get? b=J u->h'.get? b=J u)(L:∀b,H b=J (.own a)->H' b=J (.own a))(M:∀b xs,H b=J (.tup xs)->H' b=J (.tup xs)):ObjOk P w H' h' a o:=by
 induction o with
 |lst xs=>obtain⟨z,B,n,r,e⟩:=x;exact⟨z,B,n,r,k _ _ (.inl rfl) e⟩
 |tup xs=>obtain⟨z,B,r,i,e,c⟩:=x;exact⟨z,B,r,i,k _ _ (.inl rfl) e,c⟩
 |dK E=>obtain⟨z,y,Q,r,i,l,j,e,c⟩:=x;exact⟨z,y,Q,r,i,l,j,k _ _ (.inl rfl) e,c⟩
 |dT E =>
  obtain⟨z,y,xs,r,i,l,j,e,c⟩:=x;exact⟨z,y,xs,Paired.mapP r λp q z=>⟨z.1,M _ _ z.2.1,z.2.2⟩,i,l,j,k _ _ (.inl rfl) e,c⟩
 |set S n=>obtain⟨i,l,j,t,e,c⟩:=x;exact⟨i,l,j,t,k _ _ (.inl rfl) e,c⟩
 |ins C R fs =>
  obtain⟨d,z,ne,e,F,⟨G,l,j,e2,c⟩,r⟩:=x;exact⟨L _ d,z,ne,k _ _ (.inl rfl) e,F,⟨G,l,j,k _ _ (.inr d) e2,c⟩,r⟩
 |own y=>obtain⟨i,e⟩:=x;exact⟨i,k _ _ (.inl rfl) e⟩
 |xd fs=>obtain⟨F,⟨G,l,j,e,c⟩,r⟩:=x;exact⟨F,⟨G,l,j,k _ _ (.inl rfl) e,c⟩,r⟩
 |rng lo U=>obtain⟨t,u,v,e⟩:=x;exact⟨t,u,v,k _ _ (.inl rfl) e⟩
 |frz i u O=>obtain⟨e,q⟩:=x;exact⟨k _ _ (.inl rfl) e,O q⟩
 |tbl W =>
  have e:=x;exact k a _ (.inl rfl) e
 |met f y =>
  have e:=x;exact k a _ (.inl rfl) e
 |ext φ=>obtain⟨p,⟨o,e⟩,st⟩:=x;exact⟨st _ _ p λo q=>k _ _ (.inl rfl) q,⟨o,k _ _ (.inl rfl) e⟩,st⟩
def HOk.lt(x:HOk P w H h)(e:H a=J o):a<h.objs.size:=(x a o e).lt
def HOk.fresh(x:HOk P w H h)(e:h.objs.size<=a):H a=Y:=by
 cases q:H a with
 |none=>rfl
 |some u=>exact absurd (oy (x.lt q) e) (Ef _)
def HOk.kept(x:HOk P w H h)(k:∀b u,h.get? b=J u->h'.get? b=J u):HOk P w H h':=λa o e =>
 (x a o e).stay (λb u _ q=>k b u q) (λ_ q=>q) λ_ _ q=>q
def HOk.laid(x:HOk P w H h)(k:∀b u,h.get? b=J u->h'.get? b=J u)(j:h.objs.size<=a)(new:ObjOk P w (ky H a o) h' a o):HOk P w (ky H a o) h':=λb u e=>by
 have f:=x.fresh j;by_cases i:b=a
 .subst i;rw[cg]at e;cases e;exact new
 .rw[bh i]at e;exact(x b u e).stay (λc v _ q=>k c v q) (λc q=>by rw[bh (b7 q f)];exact q) λc xs q=>by rw[bh (b7 q f)];exact q
end
def Rd(H:Hp)(a:Addr)(u:HO):Prop:=H a=J u\/∃o,H a=J (.frz o u)
def Rd.ok(r:Rd H a u)(x:HOk P w H h):ObjOk P w H h a u:=by
 rcases r with r|⟨o,r⟩
 .exact x a u r
 .obtain⟨_,q⟩:=x a _ r;exact q
def QR:Option HO->Prop
 |some (.lst _)=>True
 |some (.dK _)=>True
 |some (.dT _)=>True
 |some (.set _ _)=>True
 |some (.ins _ _ _)=>True
 |some (.ext _)=>True
 |_=>False
section
variable{P:Program}{w:World}{H:Hp}{h h':Heap}{x e:Addr}{o':HO}
def HOk.write(ok:HOk P w H h)(j:QR (H x))(E:e=x\/H e=J (.own x))(k:∀b u,b≠e->h.get? b=J u->h'.get? b=J u)(l:∃u,h'.get? e=J u)(new:ObjOk P w (ky H x o') h' x o'):HOk P w (ky H x o') h':=λb u q=>by
 have i:∀c y,H c=J (.own y)->c≠x:=λc y r z=>by subst z;rw[r]at j;exact j
 have f:∀c xs,H c=J (.tup xs)->c≠x:=λc xs r z=>by subst z;rw[r]at j;exact j
 by_cases B:b=x
 .subst B;rw[cg]at q;cases q;exact new
 .rw[bh B]at q;by_cases a:b=e
  .have C:H b=J (.own x):=by
    rcases E with z|z
    .exact absurd (a.trans z) B
    .rw[a];exact z
   rw[q]at C;cases C;obtain⟨v,hv⟩:=l;exact⟨v,by rw[a];exact hv⟩
  .refine (ok b u q).stay (λc v F r=>k c v ?_ r) (λc r=>by rw[bh (i c b r)];exact r) λc xs r=>by rw[bh (f c xs r)];exact r
   grind
end
structure Un(fs ex:WS)(H H':Hp)(h h':Heap):Prop where
 keep:∀b o,h.get? b=J o->H b=Y->b∉fs->b∉ex->h'.get? b=J o
 slot:∀b o,h.get? b=J o->H b=Y->b∈fs->b∉ex->∃sl,h'.get? b=J { o with slots:=sl}
 free:∀b o,h.get? b=J o->H b=Y->b∉ex->H' b=Y
 there:∀b o,h.get? b=J o->b∉ex->∃o',h'.get? b=J o'
 tups:∀b xs,H b=J (.tup xs)->H' b=J (.tup xs)
 frzs:∀b o u,H b=J (.frz o u)->H' b=J (.frz o u)
 tbls:∀b ps,H b=J (.tbl ps)->∃more,H' b=J (.tbl (ps++more))
section
variable{fs fs' ex ex':WS}{H H1 H2:Hp}{h h1 h2 h':Heap}{a x e:Addr}{o:HO}
def Un.any(u:Un fs ex H H1 h h1)(q:h.get? b=J ob)(n:H b=Y)(f:b∉ex):∃sl,h1.get? b=J { ob with slots:=sl}:=by
 by_cases i:b∈fs
 .exact u.slot b ob q n i f
 .exact⟨ob.slots,u.keep b ob q n i f⟩
def Un.kept(k:∀b u,h.get? b=J u->h'.get? b=J u):Un fs ex H H h h' :=
 ⟨λb f q _ _ _=>k b f q,λb f q _ _ _=>⟨f.slots,k b f q⟩,λ_ _ _ n _=>n,λb f q _=>⟨f,k b f q⟩,λ_ _ q=>q,λ_ _ _ q=>q,λ_ i q=>⟨#[],by rw[q];simp⟩⟩
def Un.refl:Un fs ex H H h h:=Un.kept λ_ _ q=>q
def Un.laid(k:∀b u,h.get? b=J u->h'.get? b=J u)(i:h.objs.size<=a)(f:H a=Y):Un fs ex H (ky H a o) h h' where
 keep:=λb u q _ _ _=>k b u q
 slot:=λb u q _ _ _=>⟨u.slots,k b u q⟩
 free:=λb u q n _=>by rw[bh (tt (oy (l_ q) i))];exact n
 there:=λb u q _=>⟨u,k b u q⟩
 tups:=λb xs q=>by rw[bh (b7 q f)];exact q
 frzs:=λb u xs q=>by rw[bh (b7 q f)];exact q
 tbls:=λb j q=>⟨#[],by rw[bh (b7 q f),q];simp⟩
def Un.write(i:QR (H x))(C:e=x\/H e=J (.own x))(k:∀b u,b≠e->h.get? b=J u->h'.get? b=J u)(j:∃u,h'.get? e=J u):Un fs ex H (ky H x o) h h':=by
 have B:∀b,H b=Y->b≠x:=λb n z=>by subst z;rw[n]at i;exact i
 have r:∀b,H b=Y->b≠e:=λb n z=>by
  simp_all
 have l:∀b u,H b=J u->¬QR (J u)->b≠x:=λb u q y z=>by subst z;rw[q]at i;exact y i
 refine⟨λb u q n _ _=>k b u (r b n) q,λb u q n _ _=>⟨u.slots,k b u (r b n) q⟩,λb u q n _=>by rw[bh (B b n)];exact n,λb u q _=>?_,
  λb xs q=>by rw[bh (l b _ q λz=>z)];exact q,λb u xs q=>by rw[bh (l b _ q λz=>z)];exact q,λb E q=>⟨#[],by rw[bh (l b _ q λz=>z),q];simp⟩⟩
 by_cases f:b=e
 .subst f;exact j
 .exact⟨u,k b u f q⟩
end
def QS(h:Heap)(H:Hp):WS:=(List.range h.objs.size).filter λa=>(H a).isSome
def mj(h:Heap)(H:Hp):Heap:=PySem.W.hideAll h (QS h H)
def BN(h:Heap)(H:Hp):(mj h H).objs.size=h.objs.size:=PySem.W.hideAll_size _ _
def C4(e:h.get? b=J o)(n:H b=Y):(mj h H).get? b=J o :=
 PySem.W.hideAll_get _ e λa=>by
  have q:=(wl.mp a).2;rw[n]at q;simp at q
def FC(e:(mj h H).get? b=J o):h.get? b=J o/\H b=Y:=by
 have a:=PySem.W.of_hideAll (QS h H) e;refine⟨a,?_⟩
 cases q:H b with
 |none=>rfl
 |some x =>
  have f:b∈QS h H:=wl.mpr ⟨EG.mpr (l_ a),by simp[q]⟩;have z:(mj h H).get? b=Y:=PySem.W.hideAll_none (QS h H) f;rw[z]at e;cases e
structure Mod(K:h_)(mg:WB)(base:Heap):Prop where
 kin:K.In base
 glob:base.Ns mainGlobals mg
 blt:∃mb,base.Ns builtinsNs mb/\∀x:Str,x≠"__name__"->mb x=bootBuiltins x
 nolimit:base.NoLimit
structure Cx where
 prog:Program
 w:World
 K:h_
 mg:Str->WV
 base:Heap
 A:Around
 N:WM
 s₀:Shared
 H₀:Hp
 env:Env
 outer:List Env
 stack:List Env
 ex:WS
 fn:Str->Bool
 calm:Bool
 pn:WU
 xe:Value->Shared->Prop
def y_(l:List Env):WS:=l.filterMap (·.frame)
abbrev Cx.fs(X:Cx):WS:=y_ X.outer
def QT(a:Scope)(x:Str):Prop:=a.names.lookup x=J .local\/a.names.lookup x=J .cell\/a.names.lookup x=J .free
def Loc(a:Scope)(x:Str):Prop:=a.names.lookup x=J .local\/a.names.lookup x=J .cell
def Look(env:Env)(h:Heap)(m:WB)(x:Str)(u:Value):Prop :=
 (env.kindOf x=J .local/\m x=J u)\/((env.kindOf x=J .cell\/env.kindOf x=J .free)/\∃c,env.cells.lookup x=J c/\h.IsCell c (J u))
structure Cx.Ok(X:Cx):Prop where
 mod:Mod X.K X.mg X.base
 kind:X.env.scope.kind=.function
 glob:X.env.globals=mainGlobals
 blt:X.env.builtins=builtinsNs
 above:X.s₀.heap.objs.size<=X.env.locals
 inj:∀x y c,X.env.cells.lookup x=J c->X.env.cells.lookup y=J c->x=y
 has:∀x,(X.env.kindOf x=J .cell\/X.env.kindOf x=J .free)->∃c,X.env.cells.lookup x=J c
 cab:∀x c,X.fn x=I->X.env.cells.lookup x=J c->X.s₀.heap.objs.size<=c
 hd:X.calm=I->X.A.handled=Y
 frames:X.A.frames=J X.stack
 stk:X.stack=X.outer\/(X.stack=X.env::X.outer/\X.env.frame=J X.env.locals)
 exf:∀b∈X.ex,b≠X.env.locals/\∀x c,X.env.cells.lookup x=J c->c≠b
 bs:∀b o,X.base.get? b=J o->X.s₀.heap.get? b=J o/\X.H₀ b=Y
 bsz:X.base.objs.size<=X.s₀.heap.objs.size
 noex:∀b o,X.base.get? b=J o->b∉X.ex
 exfs:∀b∈X.ex,b∉X.fs
 funs:X.s₀.heap.FunFrames X.base X.outer
 frf:∀b∈X.fs,X.H₀ b=Y
structure Inv(X:Cx)(Oa:WU)(Z:List (Option V))(H:Hp)(s:Shared):Prop where
 ok:X.Ok
 os:s.os=X.s₀.os
 bare:AllBare s.gens
 base:Un X.fs X.ex X.H₀ H X.s₀.heap s.heap
 loc:∃m,s.heap.Ns X.env.locals m/\∀(i:Nat)(x:Str)(v:V),X.N[i]?=J x->Z[i]?=J (J v)->QT X.env.scope x->∃u,aZ v u/\Look X.env s.heap m x u
 cell:∀x c,X.env.cells.lookup x=J c->∃v,s.heap.IsCell c v
 free:H X.env.locals=Y
 freeC:∀x c,X.env.cells.lookup x=J c->H c=Y
 pin:∀p∈X.pn++Oa,s.heap.get? p.1=J p.2/\H p.1=Y/\p.1≠X.env.locals/\p.1∉X.fs/\∀v,p.2.data≠.cell v
 hok:HOk X.prog X.w H s.heap
 len:Z.length=X.N.length
section
variable{X:Cx}{Oa:List (Addr × Obj)}{Z:List (Option V)}{H H':Hp}{s:Shared}{h':Heap}
def Cx.Ok.nofr(ok:X.Ok)(e:X.base.get? b=J o):b∉X.fs:=λa=>by
 have:=(ok.funs.mem a).1
 rw[e]at this;cases this
def Inv.bs(a:Inv X Oa Z H s):∀b o,X.base.get? b=J o->s.heap.get? b=J o/\H b=Y:=λb o e =>
 ⟨a.base.keep b o (a.ok.bs b o e).1 (a.ok.bs b o e).2 (a.ok.nofr e) (a.ok.noex b o e),a.base.free b o (a.ok.bs b o e).1 (a.ok.bs b o e).2 (a.ok.noex b o e)⟩
def Inv.bk(a:Inv X Oa Z H s):∀b o,X.base.get? b=J o->s.heap.get? b=J o:=λb o e=>(a.bs b o e).1
def Inv.mod(a:Inv X Oa Z H s):Mod X.K X.mg X.base:=a.ok.mod
def Inv.kIn(a:Inv X Oa Z H s):X.K.In s.heap:=a.ok.mod.kin.keeps a.bk
def Inv.lt(a:Inv X Oa Z H s):X.env.locals<s.heap.objs.size:=let⟨_,f,_⟩:=a.loc;f.lt
def Inv.sz(a:Inv X Oa Z H s):X.s₀.heap.objs.size<=s.heap.objs.size:=ny a.ok.above (wr a.lt)
def Inv.nofs(f:Inv X Oa Z H s){a:Addr}(h:s.heap.objs.size<=a):a∉X.fs:=λj=>by
 obtain⟨_,o,i,_⟩:=f.ok.funs.mem j;exact absurd (oy (l_ i) (ny f.sz h)) (Ef _)
def Inv.cne(a:Inv X Oa Z H s):∀x c,X.env.cells.lookup x=J c->c≠X.env.locals:=λx c e z=>by
 obtain⟨v,o,j,hd⟩:=a.cell x c e;obtain⟨m,⟨u,r,l,f,i,_⟩,_⟩:=a.loc;rw[z,f]at j;cases j;rw[i]at hd;cases hd
def Inv.funs(a:Inv X Oa Z H s):s.heap.FunFrames X.base X.outer:=by
 have all:∀(l:List Env),(∀b∈y_ l,b∈X.fs)->X.s₀.heap.FunFrames X.base l->s.heap.FunFrames X.base l:=by
  intro l
  induction l with
  |nil=>intro _ _;trivial
  |cons env r y =>
   intro i E;obtain⟨C,⟨L,o,hf,B,u,hd⟩,j⟩:=E;have hL:=i L (by delta y_;rw[QH,hf];exact xg);obtain⟨sl,e⟩:=a.base.slot L o u (a.ok.frf L hL) hL λz=>a.ok.exfs L z hL;exact⟨C,⟨L,_,hf,B,e,hd⟩,y (λb f=>i b (by delta y_;rw[QH,hf];exact mw _ f)) j⟩
 exact all X.outer (λ_ f=>f) a.ok.funs
def Inv.stack(a:Inv X Oa Z H s):s.heap.FunFrames X.base X.stack:=by
 rcases a.ok.stk with e|⟨e,hf⟩
 .rw[e];exact a.funs
 .rw[e];obtain⟨m,f,_⟩:=a.loc;refine .cons (by rw[a.ok.kind];decide) hf f ?_ a.funs;exact Heap.get?_none_of_le (ny a.ok.bsz a.ok.above)
def Inv.stkSub(f:Inv X Oa Z H s):∀b∈y_ X.stack,b∈X.env.locals::X.fs:=λb a=>by
 rcases f.ok.stk with e|⟨e,hf⟩
 .rw[e]at a;exact mw _ a
 .rw[e]at a;unfold y_ at a;rw[QH,hf]at a;exact a
def Inv.stkFree(a:Inv X Oa Z H s):∀b∈y_ X.stack,H b=Y:=λb f=>by
 rcases lb.mp (a.stkSub b f)with e|f
 .rw[e];exact a.free
 .obtain⟨_,o,i,_⟩:=a.ok.funs.mem f;exact a.base.free b o i (a.ok.frf b f) λz=>a.ok.exfs b z f
def Inv.step{g':Array GenState}{t':Nat}{d':Drawn}{ch:WS}(a:Inv X Oa Z H s)(y:∀b∈ch,(b∈X.ex\/X.s₀.heap.objs.size<=b)/\b≠X.env.locals/\(∀x c,X.env.cells.lookup x=J c->c≠b)/\∀p∈X.pn++Oa,p.1≠b)(keep:∀b o,b≠X.env.locals->b∉X.fs->b∉ch->s.heap.get? b=J o->H b=Y->h'.get? b=J o)(slot:∀b o,b≠X.env.locals->b∈X.fs->b∉ch->s.heap.get? b=J o->H b=Y->∃sl,h'.get? b=J { o with slots:=sl})(free:∀b o,b∉ch->s.heap.get? b=J o->H b=Y->H' b=Y)(there:∀b o,b∉ch->s.heap.get? b=J o->∃G,h'.get? b=J G)(tups:∀b xs,H b=J (.tup xs)->H' b=J (.tup xs))(frzs:∀b o u,H b=J (.frz o u)->H' b=J (.frz o u))(tbls:∀b M,H b=J (.tbl M)->∃more,H' b=J (.tbl (M++more)))(ns:∀m,s.heap.Ns X.env.locals m->h'.Ns X.env.locals m)(hok:HOk X.prog X.w H' h')(U:AllBare g'):
  Inv X Oa Z H' { s with heap:=h',gens:=g',drawn:=d',toks:=t'}:=by
 have L:∀b o,X.s₀.heap.get? b=J o->b≠X.env.locals:=λb o e=>tt (oy (l_ e) a.ok.above);have C:∀b o,X.s₀.heap.get? b=J o->b∉X.ex->b∉ch:=λb o e f E=>by
  rcases(y b E).1 with z|z
  .exact f z
  .exact absurd (oy (l_ e) z) (Ef _)
 have B:∀x c,X.env.cells.lookup x=J c->∀v,s.heap.IsCell c v->h'.IsCell c v:=λx c e v ⟨o,F,hd⟩=>by
  have j:c∉ch:=λz=>(y c z).2.2.1 x c e rfl;by_cases P:c∈X.fs
  .obtain⟨sl,q⟩:=slot c o (a.cne x c e) P j F (a.freeC x c e);exact⟨_,q,hd⟩
  .exact⟨o,keep c o (a.cne x c e) P j F (a.freeC x c e),hd⟩
 refine⟨a.ok,a.os,U,⟨λb o e n E f=>?_,λb o e n E f=>?_,λb o e n f=>?_,λb o e f=>?_,λb xs e=>tups b xs (a.base.tups b xs e),λb o xs e=>frzs b o xs (a.base.frzs b o xs e),λb M e=>?_⟩,?_,λx c e=>?_,?_,λx c e=>?_,λp Q=>?_,hok,a.len⟩
 .exact keep b o (L b o e) E (C b o e f) (a.base.keep b o e n E f) (a.base.free b o e n f)
 .obtain⟨sl,e1⟩:=a.base.slot b o e n E f;obtain⟨O,e2⟩:=slot b _ (L b o e) E (C b o e f) e1 (a.base.free b o e n f);exact⟨O,e2⟩
 .obtain⟨G,e1⟩:=a.base.there b o e f;exact free b G (C b o e f) e1 (a.base.free b o e n f)
 .obtain⟨G,e1⟩:=a.base.there b o e f;exact there b G (C b o e f) e1
 .obtain⟨m1,e1⟩:=a.base.tbls b M e;obtain⟨S,e2⟩:=tbls b _ e1;exact⟨m1++S,by rw[e2,Array.append_assoc]⟩
 .obtain⟨m,W,hl⟩:=a.loc;refine⟨m,ns m W,λi x v e1 e2 e3=>?_⟩;obtain⟨u,r,l⟩:=hl i x v e1 e2 e3;refine⟨u,r,?_⟩;rcases l with l|⟨k,c,e,z⟩
  .exact .inl l
  .exact .inr ⟨k,c,e,B x c e _ z⟩
 .obtain⟨v,z⟩:=a.cell x c e;exact⟨v,B x c e v z⟩
 .obtain⟨m,⟨o,_,_,F,_⟩,_⟩:=a.loc;exact free _ o (λz=>(y _ z).2.1 rfl) F a.free
 .obtain⟨v,o,F,hd⟩:=a.cell x c e;exact free c o (λz=>(y c z).2.2.1 x c e rfl) F (a.freeC x c e)
 .obtain⟨e,n,ne,R,d⟩:=a.pin p Q;have j:p.1∉ch:=λz=>(y p.1 z).2.2.2 p Q rfl;exact⟨keep p.1 p.2 ne R j e n,free p.1 p.2 j e n,ne,R,d⟩
def Inv.un{t':Nat}(a:Inv X Oa Z H s)(u:Un X.fs [] H H' s.heap h')(hok:HOk X.prog X.w H' h'):Inv X Oa Z H' { s with heap:=h',toks:=t'}:=by
 obtain⟨m,⟨o,L,E,y,r⟩,_⟩:=id a.loc;obtain⟨sl,hL⟩:=u.any y a.free (by simp)
 exact a.step (g':=s.gens) (d':=s.drawn) (ch:=[]) (λ_ z=>nomatch z) (λb o _ i _ e n=>u.keep b o e n i (by simp)) (λb o _ i _ e n=>u.slot b o e n i (by simp)) (λb o _ e n=>u.free b o e n (by simp)) (λb o _ e=>u.there b o e (by simp)) u.tups u.frzs u.tbls (λF C=>by
  obtain⟨G,j,l,f,B⟩:=C;rw[y]at f;cases f
  exact⟨_,j,l,hL,B⟩) hok a.bare
def Inv.call{g':Array GenState}{t':Nat}{d':Drawn}{ch:WS}(a:Inv X Oa Z H s)(u:Un (y_ X.stack) ch H H' s.heap h')(hok:HOk X.prog X.w H' h')(G:AllBare g')(j:∀b∈ch,(b∈X.ex\/X.s₀.heap.objs.size<=b)/\b≠X.env.locals/\(∀x c,X.env.cells.lookup x=J c->c≠b)/\∀p∈X.pn++Oa,p.1≠b):
  Inv X Oa Z H' { s with heap:=h',gens:=g',drawn:=d',toks:=t'}:=by
 obtain⟨m,⟨o,P,L,B,r⟩,_⟩:=id a.loc;obtain⟨sl,hL⟩:=u.any B a.free λz=>(j _ z).2.1 rfl
 exact a.step j (λb o hL F f e n=>u.keep b o e n (λz=>(lb.mp (a.stkSub b z)).elim hL F) f) (λb o _ _ f e n=>u.any e n f) (λb o f e n=>u.free b o e n f) (λb o f e=>u.there b o e f) u.tups u.frzs u.tbls (λM E=>by
  obtain⟨O,l,y,i,C⟩:=E;rw[B]at i;cases i
  exact⟨_,l,y,hL,C⟩) hok G
def Inv.turned{t':Nat}{a:Addr}(i:Inv X Oa Z H s)(k:∀b o,b≠a->s.heap.get? b=J o->h'.get? b=J o)(G:H a=Y)(hL:a≠X.env.locals)(F:a∈X.ex\/X.s₀.heap.objs.size<=a)(l:∀x c,X.env.cells.lookup x=J c->c≠a)(L:∀p∈X.pn++Oa,p.1≠a):Inv X Oa Z H { s with heap:=h',toks:=t'}:=by
 have j:∀b u,H b=J u->b≠a:=λb u e z=>by rw[z,G]at e;cases e
 refine i.step (g':=s.gens) (d':=s.drawn) (ch:=[a]) (λb B=>?_) (λb o _ _ f e _=>k b o (λz=>f (by simp[z])) e) (λb o _ _ f e _=>⟨o.slots,k b o (λz=>f (by simp[z])) e⟩) (λ_ _ _ _ n=>n)
  (λb o f e=>⟨o,k b o (λz=>f (by simp[z])) e⟩) (λ_ _ e=>e) (λ_ _ _ e=>e) (λb O e=>⟨#[],by rw[e];simp⟩) (λm y=>?_) (λb u e=>?_) i.bare
 .have e:b=a:=by simpa using B
  subst e;exact⟨F,hL,l,L⟩
 .obtain⟨o,M,C,E,r⟩:=y;exact⟨o,M,C,k _ o (Ne.symm hL) E,r⟩
 .refine (i.hok b u e).stay (λc v f q=>k c v ?_ q) (λ_ q=>q) λ_ _ q=>q;rcases f with z|z
  .rw[z];exact j b u e
  .exact j c _ z
def Inv.tok(a:Inv X Oa Z H s)(t:Nat):Inv X Oa Z H { s with toks:=t}:=a.un (h':=s.heap) (t':=t) Un.refl a.hok
def Inv.kept(a:Inv X Oa Z H s)(k:∀b u,s.heap.get? b=J u->h'.get? b=J u):Inv X Oa Z H { s with heap:=h',toks:=t'}:=a.un (Un.kept k) (a.hok.kept k)
def Inv.laid{a:Addr}{o:HO}{t':Nat}(f:Inv X Oa Z H s)(k:∀b u,s.heap.get? b=J u->h'.get? b=J u)(i:s.heap.objs.size<=a)(new:ObjOk X.prog X.w (ky H a o) h' a o):
  Inv X Oa Z (ky H a o) { s with heap:=h',toks:=t'}:=f.un (Un.laid k i (f.hok.fresh i)) (f.hok.laid k i new)
def Inv.write(f:Inv X Oa Z H s)(i:QR (H x))(j:e=x\/H e=J (.own x))(k:∀b u,b≠e->s.heap.get? b=J u->h'.get? b=J u)(a:∃u,h'.get? e=J u)(new:ObjOk X.prog X.w (ky H x o) h' x o):Inv X Oa Z (ky H x o) { s with heap:=h',toks:=t'}:=f.un (Un.write i j k a) (f.hok.write i j k a new)
def Inv.pins_of(a:Inv X Oa Z H s)(h:∀p∈f,s.heap.get? p.1=J p.2/\H p.1=Y/\p.1≠X.env.locals/\p.1∉X.fs/\∀v,p.2.data≠.cell v):Inv X f Z H s :=
 ⟨a.ok,a.os,a.bare,a.base,a.loc,a.cell,a.free,a.freeC,λp i=>(ml.mp i).elim (λz=>a.pin p (rT _ z)) (h p),a.hok,a.len⟩
def vp{N:WM}(hN:N.Nodup){i j:Nat}{x:Str}(a:N[i]?=J x)(b:N[j]?=J x):i=j:=by obtain⟨f,e1⟩:=kx.mp a;obtain⟨l,e2⟩:=kx.mp b;exact(List.getElem_inj hN).mp (e1.trans e2.symm)
def Cb{M:Model}{A:Around}{E:WA}{i:Nat}{x:Str}{v:V}{u:Value}{Q:Unit->Shared->Prop}(f:Inv X Oa Z H s)(hN:X.N.Nodup)(hi:X.N[i]?=J x)(F:Loc X.env.scope x)(r:aZ v u)(h:∀s',Inv X Oa (Z.set i (J v)) H s'->(∃a,Heap.SameBut a s.heap s'.heap/\(a=X.env.locals\/X.env.cells.lookup x=J a))->Q () s')(hf:X.fn x=I\/X.env.scope.names.lookup x=J .local:=by first | exact .inl rfl | exact .inr rfl | assumption):wpAny M A (storeName X.env x u) Q E s:=by
 obtain⟨m,hn,hl⟩:=id f.loc;have W:(X.env.scope.kind == .class||(X.env.scope.kind == .module&&X.env.locals != X.env.globals))=T:=by rw[f.ok.kind];rfl
 have L:i<Z.length:=by rw[f.len];exact(kx.mp hi).1
 have cne:=f.cne;have B:∀{a:Addr}{h':Heap},(∃o,s.heap.get? a=J o/\H a=Y)->Heap.SameBut a s.heap h'->HOk X.prog X.w H h':=λ{a h'} ha l b ob e=>by
  obtain⟨_,_,G⟩:=ha;refine(f.hok b ob e).stay (λc w' C q=>(l.2 c ?_).trans q) (λ_ q=>q) λ_ _ q=>q;rintro rfl;rcases C with rfl|C
  .rw[G]at e;cases e
  .rw[G]at C;cases C
 rcases F with O|O
 .refine wpAny_storeName_local O hn (λh' as l=>?_) W;obtain⟨oL,_,_,ap,_⟩:=id hn;refine h _ ⟨f.ok,f.os,f.bare,⟨λb o e n P F=>?_,λb o e n P F=>?_,f.base.free,λb o e F=>?_,f.base.tups,f.base.frzs,f.base.tbls⟩,⟨_,as,λj y v' e1 e2 e3=>?_⟩,λy c e=>?_,f.free,f.freeC,λp hp=>?_,B ⟨oL,ap,f.free⟩ l,by simpa using f.len⟩ ⟨_,l,.inl rfl⟩
  .exact (l.2 b (tt (oy (l_ e) f.ok.above))).trans (f.base.keep b o e n P F)
  .obtain⟨sl,e1⟩:=f.base.slot b o e n P F;exact⟨sl,(l.2 b (tt (oy (l_ e) f.ok.above))).trans e1⟩
  .obtain⟨o',e1⟩:=f.base.there b o e F;exact⟨o',(l.2 b (tt (oy (l_ e) f.ok.above))).trans e1⟩
  .by_cases R:j=i
   .subst R;rw[hi]at e1;cases e1;rw[y4 L]at e2;cases e2;exact⟨u,r,.inl ⟨O,by simp⟩⟩
   .rw[n9 (Ne.symm R)]at e2;obtain⟨u',r',q⟩:=hl j y v' e1 e2 e3;refine⟨u',r',?_⟩;rcases q with⟨k,e⟩|⟨k,c,e,z⟩
    .refine .inl ⟨k,?_⟩
     have:y≠x:=λe=>R (vp hN e1 (e▸hi))
     simp[this,e]
    .exact .inr ⟨k,c,e,z.sameBut l (cne y c e)⟩
  .obtain⟨w',z⟩:=f.cell y c e;exact⟨w',z.sameBut l (cne y c e)⟩
  .obtain⟨e,n,ne,nf,d⟩:=f.pin p hp;exact⟨(l.2 p.1 ne).trans e,n,ne,nf,d⟩
 .have KD:X.fn x=I:=by
   rcases hf with z|z
   .exact z
   .rw[z]at O;cases O
  obtain⟨c,C⟩:=f.ok.has x (.inl O);obtain⟨w',z⟩:=f.cell x c C;refine wpAny_storeName_cell f.ok.kind O C z (λh' U l=>?_);obtain⟨oc,S,al⟩:=id z;refine h { s with heap:=h'} ⟨f.ok,f.os,f.bare,⟨λb o e n P F=>?_,λb o e n P F=>?_,f.base.free,λb o e F=>?_,f.base.tups,f.base.frzs,f.base.tbls⟩,⟨m,hn.sameBut l (Ne.symm (cne x c C)),λj y v' e1 e2 e3=>?_⟩,λy c' e=>?_,f.free,f.freeC,λp hp=>?_,B ⟨oc,S,f.freeC x c C⟩ l,by simpa using f.len⟩ ⟨c,l,.inr C⟩
  .exact (l.2 b (tt (oy (l_ e) (f.ok.cab x c KD C)))).trans (f.base.keep b o e n P F)
  .obtain⟨sl,e1⟩:=f.base.slot b o e n P F;exact⟨sl,(l.2 b (tt (oy (l_ e) (f.ok.cab x c KD C)))).trans e1⟩
  .obtain⟨o',e1⟩:=f.base.there b o e F;exact⟨o',(l.2 b (tt (oy (l_ e) (f.ok.cab x c KD C)))).trans e1⟩
  .by_cases R:j=i
   .subst R;rw[hi]at e1;cases e1;rw[y4 L]at e2;cases e2;exact⟨u,r,.inr ⟨.inl O,c,C,U⟩⟩
   .rw[n9 (Ne.symm R)]at e2;obtain⟨u',r',q⟩:=hl j y v' e1 e2 e3;refine⟨u',r',?_⟩;rcases q with q|⟨k,c',e,z'⟩
    .exact .inl q
    .refine .inr ⟨k,c',e,z'.sameBut l ?_⟩;rintro rfl;exact R (vp hN e1 (f.ok.inj _ _ _ e C▸hi))
  .by_cases an:c'=c
   .subst an;exact⟨_,U⟩
   .obtain⟨w2,z2⟩:=f.cell y c' e;exact⟨w2,z2.sameBut l an⟩
  .obtain⟨e,n,ne,nf,d⟩:=f.pin p hp;refine⟨(l.2 p.1 ?_).trans e,n,ne,nf,d⟩;intro q;rw[q,S]at e;have q':oc=p.2:=Option.some.inj e;exact d w' (by rw[<-q'];exact al)
def wk(f:Inv X Oa Z H s)(hN:X.N.Nodup)(y:X.N[i]?=J x)(l:Loc X.env.scope x)(r:aZ v u)(h:∀a,Inv X Oa (Z.set i (J v)) H a->Q () a)(hf:X.fn x=I\/X.env.scope.names.lookup x=J .local:=by first | exact .inl rfl | exact .inr rfl | assumption):wpAny M A (storeName X.env x u) Q E s :=
 Cb f hN y l r (λa j _=>h a j) hf
def Inv.call'(a:Inv X Oa Z H s)(j:s'.os=s.os)(u:Un (y_ X.stack) ch H H' s.heap s'.heap)(hok:HOk X.prog X.w H' s'.heap)(l:AllBare s'.gens)(f:∀b∈ch,(b∈X.ex\/X.s₀.heap.objs.size<=b)/\b≠X.env.locals/\(∀x c,X.env.cells.lookup x=J c->c≠b)/\∀p∈X.pn++Oa,p.1≠b):Inv X Oa Z H' s':=by
 obtain⟨h',r,i,y,z⟩:=s';have e:=j;subst e;exact a.call (g':=r) (t':=y) (d':=i) u hok l f
end
abbrev XK:=Value->Option Addr->Hp->Prop
abbrev St:=List (Option V)
abbrev VK:=V->Hp->Prop
abbrev TE:=St->Hp->VK->Prop
abbrev TT:=St->Hp->(Bool->Hp->Prop)->Prop
abbrev TA:=St->Hp->(List V->Hp->Prop)->Prop
structure Ends where
 nx:St->Hp->Prop
 rt:VK
 bk:St->Hp->Prop:=λ_ _=>False
 ct:St->Hp->Prop:=λ_ _=>False
abbrev TS:=Ends->St->Hp->Prop
inductive EP(X:Cx)(Oa:WU)(Z:St)(Q:VK)(u:Value)(s':Shared):Prop
 |mk(v:V)(H':Hp)(i:Inv X Oa Z H' s')(r:aZ v u)(q:Q v H'):EP X Oa Z Q u s'
inductive TP(X:Cx)(Oa:WU)(Z:St)(Q:Bool->Hp->Prop)(b:Bool)(s':Shared):Prop
 |mk(H':Hp)(i:Inv X Oa Z H' s')(q:Q b H'):TP X Oa Z Q b s'
inductive AP(X:Cx)(Oa:WU)(Z:St)(Q:List V->Hp->Prop)(us:WT)(s':Shared):Prop
 |mk(vs:List V)(H':Hp)(i:Inv X Oa Z H' s')(r:aD vs us)(q:Q vs H'):AP X Oa Z Q us s'
inductive SN(X:Cx)(Oa:WU)(Q:St->Hp->Prop)(s':Shared):Prop
 |mk(Z':St)(H':Hp)(i:Inv X Oa Z' H' s')(q:Q Z' H'):SN X Oa Q s'
inductive SR(X:Cx)(Oa:WU)(Q:VK)(u:Value)(s':Shared):Prop
 |mk(v:V)(Z':St)(H':Hp)(i:Inv X Oa Z' H' s')(r:aZ v u)(q:Q v H'):SR X Oa Q u s'
def SP(X:Cx)(a:WU)(D:Ends)(f:Flow)(i:Shared):Prop :=
 match f with
 |.next=>SN X a D.nx i
 |.brk=>SN X a D.bk i
 |.cont=>SN X a D.ct i
 |.ret u=>SR X a D.rt u i
def PE(X:Cx)(e:Expr)(t:TE):Prop :=
 ∀(a:WU)(s:Shared)(Z:St)(H:Hp)(Q:VK),Inv X a Z H s->t Z H Q->wpAny (model X.prog X.w) X.A (eval e X.env) (EP X a Z Q) X.xe s
def PT(X:Cx)(e:Expr)(t:TT):Prop :=
 ∀(a:WU)(s:Shared)(Z:St)(H:Hp)(Q:Bool->Hp->Prop),Inv X a Z H s->t Z H Q->wpAny (model X.prog X.w) X.A (isTrue e X.env (eval e X.env)) (TP X a Z Q) X.xe s
def PW(X:Cx)(e:Expr)(t:TT):Prop :=
 ∀(a:Sem Value)(f:WU)(s:Shared)(Z:St)(H:Hp)(Q:Bool->Hp->Prop),Inv X f Z H s->t Z H Q->wpAny (model X.prog X.w) X.A (isTrue e X.env a) (TP X f Z Q) X.xe s
def PW.pt(h:PW X e t):PT X e t:=h _
def PA(X:Cx)(i:WX)(t:TA):Prop :=
 ∀(a:Pos)(f:WU)(s:Shared)(Z:St)(H:Hp)(Q:List V->Hp->Prop),Inv X f Z H s->t Z H Q->wpAny (model X.prog X.w) X.A (spliced (backTo a (starEach i X.env))) (AP X f Z Q) X.xe s
def PS(X:Cx)(st:Stmt)(t:TS):Prop :=
 ∀(a:WU)(s:Shared)(Z:St)(H:Hp)(D:Ends),Inv X a Z H s->t D Z H->wpAny (model X.prog X.w) X.A (exec st X.env) (SP X a D) X.xe s
def PSs(X:Cx)(st:List Stmt)(t:TS):Prop :=
 ∀(a:WU)(s:Shared)(Z:St)(H:Hp)(D:Ends),Inv X a Z H s->t D Z H->wpAny (model X.prog X.w) X.A (execs st X.env) (SP X a D) X.xe s
def ki(h:wpAny M A t Q E s)(f:∀a s,Q a s->Q' a s):wpAny M A t Q' E s:=wpAny_mono h f λ_ _ x=>x
section
variable{X:Cx}
def Sf(i:Nat):TE:=λZ H Q=>∃v,Z[i]?=J (J v)/\Q v H
def tC(v:V):TE:=λ_ H Q=>Q v H
def Ju{i:Nat}{x:Str}{z:Pos}(hN:X.N[i]?=J x)(hv:QT X.env.scope x)(hd:(x==("__debug__":Str))=T:=by decide)(y:(x==("__classdict__":Str))=T:=by decide):PE X (.Name x z) (Sf i):=by
 intro F s Z H Q a h;obtain⟨v,e,h⟩:=h;obtain⟨m,E,G⟩:=a.loc;obtain⟨u,r,l⟩:=G i x v hN e hv;have fin:EP X F Z Q u s:=⟨v,H,a,r,h⟩;rcases l with⟨j,C⟩|⟨j,c,B,f⟩
 .exact wpAny_Name (wpAny_loadName_local a.ok.kind j E C fin) hd
 .rcases j with j|j
  .exact wpAny_Name (wpAny_loadName_cell a.ok.kind j B f fin) hd
  .exact wpAny_Name (wpAny_loadName_free a.ok.kind j B f fin y) hd
def Jv{i j pos}:PE X (.Constant (.int i) j pos) (tC (.int i)):=λ_ _ _ H _ a h=>wpAny_Constant_int ⟨.int i,H,a.tok _,⟨_,rfl⟩,h⟩
def Ny{b j pos}:PE X (.Constant (.bool b) j pos) (tC (.bl b)):=λ_ _ _ H _ a h=>Constant_bool ⟨.bl b,H,a,rfl,h⟩
def Jw{j pos}:PE X (.Constant .none j pos) (tC .non):=λ_ _ _ H _ a h=>Constant_none ⟨.non,H,a,rfl,h⟩
def Jx{x j pos}:PE X (.Constant (.str x) j pos) (tC (.str x)):=λ_ _ _ H _ a h=>Calls.Constant_str ⟨.str x,H,a.tok _,⟨_,rfl⟩,h⟩
def Gl(X:Cx)(x:Str):Prop:=X.env.kindOf x=J .globalImplicit
def FD{E:WA}{j:WU}{s:Shared}{Z:St}{H:Hp}{x:Str}{u:Value}{f:Pos}{Q:WA}(a:Inv X j Z H s)(i:Gl X x)(l:X.mg x=J u)(h:Q u s)(hd:(x==("__debug__":Str))=T:=by decide):wpAny (model X.prog X.w) X.A (eval (.Name x f) X.env) Q E s :=
 Calls.Name_function_global a.ok.kind i (Calls.loadGlobal_global (by rw[a.ok.glob];exact a.mod.glob.keeps a.bk) l h) hd
def iO{E:WA}{z:WU}{s:Shared}{Z:St}{H:Hp}{x:Str}{u:Value}{f:Pos}{Q:WA}(a:Inv X z Z H s)(r:Gl X x)(j:X.mg x=Y)(hv:bootBuiltins x=J u)(h:Q u s)(y:x≠"__name__":=by decide)(hd:(x==("__debug__":Str))=T:=by decide):wpAny (model X.prog X.w) X.A (eval (.Name x f) X.env) Q E s:=by
 obtain⟨B,l,i⟩:=a.mod.blt;exact Calls.Name_function_global a.ok.kind r (Calls.loadGlobal_builtin (by rw[a.ok.glob];exact a.mod.glob.keeps a.bk) j (by rw[a.ok.blt];exact l.keeps a.bk) ((i x y).trans hv) h) hd
def sO{x:Str}{v:V}{u:Value}{f:Pos}(i:Gl X x)(l:X.mg x=Y)(hv:bootBuiltins x=J u)(r:aZ v u)(j:x≠"__name__":=by decide)(hd:(x==("__debug__":Str))=T:=by decide):PE X (.Name x f) (tC v) :=
 λ_ _ _ H _ a h=>iO a i l hv ⟨v,H,a,r,h⟩ j hd
variable{a b:Expr}{ta tb:TE}{pos:Pos}
def tB(t:TE):TT:=λZ H Q=>t Z H λx f=>∃c,x=.bl c/\Q c f
def Jy(h:PE X e t)(y:∀f,isTrue e X.env f=(do let v <-f;standAt e.pos;holding [v] (truthy v)):=by intro _;rfl):PT X e (tB t):=by intro z s Z H Q i l;refine isTrue_plain (ki (h z s Z H _ i l) λv C ⟨x,u,r,B,j⟩=>?_) (y _);obtain⟨d,rfl,q⟩:=j;cases B;exact wpAny_truthy_bool ⟨u,r,q⟩
variable{tA tB':TT}{rest:WX}
def Sg(t u:TT):TT:=λZ H Q=>t Z H λc f=>if c=I then u Z f Q else Q T f
def VO(t u:TT):TT:=λZ H Q=>t Z H λc f=>if c=I then Q I f else u Z f Q
def Sh(t:TT):TT:=λZ H Q=>t Z H λc f=>Q (!c) f
def FE(i:PT X a tA):PW X (.BoolOp .And [a] pos) tA:=by
 intro r j s Z H Q f h;refine isTrue_and (ki (i j s Z H Q f h) λc l e=>?_)
 cases c with
 |true=>exact isTrue_and_nil e
 |false=>exact e
def Jz(i:PT X a tA):PW X (.BoolOp .Or [a] pos) tA:=by
 intro r j s Z H Q f h;refine isTrue_or (ki (i j s Z H Q f h) λc l e=>?_)
 cases c with
 |false=>exact isTrue_or_nil e
 |true=>exact e
def JA(u:PT X a tA)(B:PW X (.BoolOp .And (b::rest) pos) tB'):PW X (.BoolOp .And (a::b::rest) pos) (Sg tA tB'):=by
 intro z r s Z H Q f h;refine isTrue_and (ki (u r s Z H _ f h) λc y ⟨i,j,l⟩=>?_)
 cases c with
 |true=>exact B z r y Z i Q j l
 |false=>exact⟨i,j,l⟩
def Nz(u:PT X a tA)(B:PW X (.BoolOp .Or (b::rest) pos) tB'):PW X (.BoolOp .Or (a::b::rest) pos) (VO tA tB'):=by
 intro z r s Z H Q f h;refine isTrue_or (ki (u r s Z H _ f h) λc y ⟨i,j,l⟩=>?_)
 cases c with
 |true=>exact⟨i,j,l⟩
 |false=>exact B z r y Z i Q j l
def JB(r:PT X a tA):PT X (.UnaryOp .Not a pos) (Sh tA):=by intro l s Z H Q i h;exact isTrue_not (ki (r l s Z H (λc f=>Q (!c) f) i h) λ_ _ ⟨f,j,q⟩=>⟨f,j,q⟩)
def NA(ta tb:TE):TE:=λZ H Q=>ta Z H λx f=>∃c,x=.bl c/\if c=I then tb Z f Q else Q (.bl T) f
def NB(ta:TE):TE:=λZ H Q=>ta Z H λx f=>∃c,x=.bl c/\Q (.bl (!c)) f
def JC{op}(h:PE X a t):PE X (.BoolOp op [a] pos) t:=λi s Z H Q f j=>BoolOp_one (h i s Z H Q f j)
def JD(z:PE X a ta)(u:PE X (.BoolOp .And (b::rest) pos) tb):PE X (.BoolOp .And (a::b::rest) pos) (NA ta tb):=by
 intro r s Z H Q i h;refine BoolOp_and (ki (z r s Z H _ i h) λv y ⟨x,l,j,B,f⟩=>?_);obtain⟨c,rfl,f⟩:=f;cases B;refine wpAny_truthy_bool ?_
 cases c with
 |true=>exact u r y Z l Q j f
 |false=>exact⟨.bl T,l,j,rfl,f⟩
def JE(j:PE X a ta):PE X (.UnaryOp .Not a pos) (NB ta):=by intro u s Z H Q i h;refine UnaryOp_ (ki (j u s Z H _ i h) λv z ⟨x,l,r,y,f⟩=>?_);obtain⟨c,rfl,f⟩:=f;cases y;exact not_of (wpAny_truthy_bool ⟨.bl (!c),l,r,rfl,f⟩)
end
def SqL(K:h_)(H:Hp)(a:Addr)(xs:List V):Prop :=
 Rd H a (.lst xs) \/
  ∃(o:Obj) (f:Array Value) (n:Nat),K.lookup a=J o/\o.cls=.type "list"/\o.dict=Y/\o.data=.seq f n/\f.size<=sizeLine/\aD xs f.toList
def SqT(K:h_)(H:Hp)(a:Addr)(xs:List V):Prop :=
 Rd H a (.tup xs) \/
  ∃(o:Obj) (f:Array Value) (n:Nat),K.lookup a=J o/\o.cls=.type "tuple"/\(o.data=.seq f n/\o.dict=Y)/\f.size<=sizeLine/\aD xs f.toList
def Si:Value->Option V
 |.none=>J .non
 |.bool b=>J (.bl b)
 |.int i _=>J (.int i)
 |.str x _=>J (.str x)
 |.bytes b _=>J (.byt b)
 |.float b _=>J (.flt b)
 |.ref a=>J (.ref a)
 |.type n=>J (.ty n)
 |_=>Y
def aZ.abs(r:aZ x u):Si u=J x:=by
 cases x with
 |non=>cases r;rfl
 |bl _=>cases r;rfl
 |int _=>obtain⟨t,rfl⟩:=r;rfl
 |str _=>obtain⟨t,rfl⟩:=r;rfl
 |byt _=>obtain⟨t,rfl⟩:=r;rfl
 |flt _=>obtain⟨t,rfl⟩:=r;rfl
 |ref _=>cases r;rfl
 |ty _=>cases r;rfl
def aZ.inj(r:aZ x u)(q:aZ y u):x=y:=Option.some.inj (r.abs.symm.trans q.abs)
def aD.inj(r:aD xs us)(q:aD ys us):xs=ys:=by
 induction r generalizing ys with
 |nil=>cases q;rfl
 |cons r t a=>cases q with|cons f i=>rw[r.inj f,a i]
section
variable{X:Cx}{Oa:List (Addr × Obj)}{Z:St}{H:Hp}{s:Shared}{a:Addr}{xs ys:List V}
def SqL.of{K:h_}(h:H a=J (.lst xs)):SqL K H a xs:=.inl (.inl h)
def SqT.of{K:h_}(h:H a=J (.tup xs)):SqT K H a xs:=.inl (.inl h)
def Inv.list(i:Inv X Oa Z H s)(h:SqL X.K H a xs):∃f:WT,aD xs f/\PlainL s.heap a f.toArray/\xs.length<=sizeLine:=by
 rcases h with h|⟨o,f,n,l,j,hd,u,y,r⟩
 .obtain⟨z,f,n,r,e⟩:=h.ok i.hok;exact⟨f,r,⟨_,n,e,rfl,rfl,rfl⟩,z⟩
 .refine⟨f.toList,r,⟨o,n,i.kIn a o l,j,hd,by simpa using u⟩,?_⟩;have e:=r.length
  grind
def Inv.tupleN(i:Inv X Oa Z H s)(h:SqT X.K H a xs):∃f:WT,aD xs f/\jH s.heap a f.toArray/\xs.length<=sizeLine:=by
 rcases h with h|⟨o,f,n,u,l,j,y,r⟩
 .obtain⟨z,f,r,p⟩:=h.ok i.hok;exact⟨f,r,p,z⟩
 .refine⟨f.toList,r,⟨o,i.kIn a o u,l,⟨n,by simpa using j.1⟩,j.2⟩,?_⟩;have e:=r.length
  grind
def Inv.tuple(i:Inv X Oa Z H s)(h:SqT X.K H a xs):∃f:WT,aD xs f/\IsTup s.heap a f.toArray/\xs.length<=sizeLine :=
 let⟨f,r,p,z⟩:=i.tupleN h
 ⟨f,r,p.tup,z⟩
def Inv.list_inj(i:Inv X Oa Z H s)(h:SqL X.K H a xs)(z:SqL X.K H a ys):xs=ys:=by
 obtain⟨j,r,⟨o,n,e,_,_,d⟩,_⟩:=i.list h;obtain⟨f,y,⟨C,B,l,_,_,u⟩,_⟩:=i.list z;rw[e]at l;cases l;rw[d]at u;injection u with d1 _
 have:j=f:=by simpa using congrArg Array.toList d1
 subst this;exact r.inj y
def Inv.tuple_inj(i:Inv X Oa Z H s)(h:SqT X.K H a xs)(z:SqT X.K H a ys):xs=ys:=by
 obtain⟨j,r,⟨o,e,_,n,d⟩,_⟩:=i.tuple h;obtain⟨f,y,⟨C,l,_,B,u⟩,_⟩:=i.tuple z;rw[e]at l;cases l;rw[d]at u;injection u with d1 _
 have:j=f:=by simpa using congrArg Array.toList d1
 subst this;exact r.inj y
end
section
variable{X:Cx}{Oa:List (Addr × Obj)}{Z:St}{H:Hp}{s:Shared}{E:WA}
end
section
variable{X:Cx}{st:Stmt}{rest:List Stmt}{t u:TS}{e:Expr}{te:TE}{pos:Pos}
def NC:TS:=λD Z H=>D.nx Z H
def Sj(t u:TS):TS:=λD Z H=>t { D with nx:=u D} Z H
def FF:PSs X [] NC:=λ_ _ Z H _ a h=>wpAny_execs_nil ⟨Z,H,a,h⟩
def C6(y:PS X st t)(l:PSs X rest u):PSs X (st::rest) (Sj t u):=by
 intro i s Z H D a h;refine wpAny_execs_cons (ki (y i s Z H { D with nx:=u D} a h) λf z q=>?_)
 cases f with
 |next =>
  obtain⟨j,r,B,q⟩:=q;exact l i z j r D B q
 |ret v=>exact q
 |brk=>exact q
 |cont=>exact q
def FG(i:PS X st t):PSs X [st] t:=by
 intro j s Z H D a h;refine wpAny_execs_cons (ki (i j s Z H D a h) λf l q=>?_)
 cases f with
 |next=>exact wpAny_execs_nil q
 |ret v=>exact q
 |brk=>exact q
 |cont=>exact q
def Inv.quiet{f:WU}{Z:St}{H:Hp}{s:Shared}(a:Inv X f Z H s):interactive X.env=T:=by simp[interactive,a.ok.kind]
def ND(te:TE):TS:=λD Z H=>te Z H λ_ a=>D.nx Z a
def FH(r:PE X e te)(y:swapsWith e Y pos.line X.env=pure T:=by rfl):PS X (.Expr e pos) (ND te):=by intro l s Z H D a h;exact wpAny_Expr_any (ki (r l s Z H _ a h) λv z ⟨x,f,i,B,j⟩=>⟨Z,f,i,j⟩) a.quiet y
def Sk(te:TE):TS:=λD Z H=>te Z H D.rt
def JF(y:PE X e te):PS X (.Return (J e) pos) (Sk te):=by intro l s Z H D a h;exact wpAny_Return_some (ki (y l s Z H _ a h) λv z ⟨x,f,i,r,j⟩=>⟨x,Z,f,i,r,j⟩)
def Sl(c:TT)(t u:TS):TS:=λD Z H=>c Z H λb a=>if b=I then t D Z a else u D Z a
def NE(B:PT X c tc)(z:PSs X a t)(C:PSs X b u):PS X (.If c a b pos) (Sl tc t u):=by
 intro f s Z H D i h;refine wpAny_If (ki (B f s Z H _ i h) λd j ⟨l,r,y⟩=>?_)
 cases d with
 |true=>exact z f j Z l D r y
 |false=>exact C f j Z l D r y
end
abbrev TG:=V->St->Hp->(St->Hp->Prop)->Prop
abbrev MV:=List V->St->Hp->(St->Hp->Prop)->Prop
def PG(X:Cx)(a:Expr)(t:TG):Prop :=
 ∀(f:WU)(s:Shared)(Z:St)(H:Hp)(v:V)(u:Value)(Q:St->Hp->Prop),Inv X f Z H s->aZ v u->t v Z H Q ->
  wpAny (model X.prog X.w) X.A (assign a X.env u) (λ_ i=>SN X f Q i) X.xe s
def PGs(X:Cx)(j:WX)(t:MV):Prop :=
 ∀(f:WU)(s:Shared)(Z:St)(H:Hp)(i:List V)(a:WT)(Q:St->Hp->Prop),Inv X f Z H s->aD i a->t i Z H Q ->
  wpAny (model X.prog X.w) X.A (assignInOrder ((assignEach j X.env).map (·.2)) a) (λ_ l=>SN X f Q l) X.xe s
abbrev eK:=V->V->V->Hp->(Hp->Prop)->Prop
inductive SE(X:Cx)(Oa:WU)(Z:St)(Q:Hp->Prop)(s':Shared):Prop
 |mk(H':Hp)(i:Inv X Oa Z H' s')(q:Q H'):SE X Oa Z Q s'
def NF(X:Cx)(t:eK):Prop :=
 ∀(f:WU)(s:Shared)(Z:St)(H:Hp)(o i v:V)(a j u:Value)(Q:Hp->Prop),Inv X f Z H s->aZ o a->aZ i j->aZ v u->t o i v H Q ->
  wpAny (model X.prog X.w) X.A (setItem a j u) (λ_ l=>SE X f Z Q l) X.xe s
section
variable{X:Cx}{pos:Pos}
def Ik(i:Nat):TG:=λv Z H Q=>Q (Z.set i (J v)) H
def yy(hN:X.N.Nodup)(l:X.N[i]?=J x)(j:Loc X.env.scope x)(hf:X.fn x=I\/X.env.scope.names.lookup x=J .local:=by first | exact .inl rfl | exact .inr rfl | assumption):PG X (.Name x pos) (Ik i):=by intro y s Z H v u Q a r h;exact wpAny_assign_Name (wk a hN l j r (λz f=>⟨_,H,f,h⟩) hf)
def Sm:MV:=λa Z H Q=>a=[]/\Q Z H
def NG(t:TG)(u:MV):MV:=λi Z H Q=>∃v r,i=v::r/\t v Z H λa f=>u r a f Q
def FI:PGs X [] Sm:=by intro i s Z H j f Q a r h;obtain⟨e,h⟩:=h;subst e;cases r;exact assignInOrder_nil ⟨Z,H,a,h⟩
def DU(y:PG X e t)(j:PGs X es u)(F:(assignEach (e::es) X.env).map (·.2)=assign e X.env::(assignEach es X.env).map (·.2):=by rfl):PGs X (e::es) (NG t u):=by
 intro f s Z H L G Q a r h;obtain⟨v,M,e1,h⟩:=h;subst e1
 cases r with
 |cons r l =>
  rw[F];refine assignInOrder_cons (ki (y f s Z H _ _ _ a r h) λ_ z ⟨E,C,B,i⟩=>?_);exact j f z E C _ _ Q B l i
def Sn(K:h_)(n:Nat)(t:MV):TG:=λv Z H Q=>∃a xs,v=.ref a/\SqT K H a xs/\xs.length=n/\t xs Z H Q
def JG{i:WX}{k:Nat}{t:MV}{n:Nat}(z:X.calm=I)(h:PGs X i t)(G:(assignEach i X.env).length=n:=by rfl)(l:(assignEach i X.env).findIdx? (·.1)=Y:=by rfl):PG X (.Tuple i k pos) (Sn X.K n t):=by
 intro M s Z H v u Q f r j;obtain⟨a,xs,e1,E,O,j⟩:=j;subst e1;cases r;obtain⟨B,y,F,R⟩:=f.tuple E;refine assign_Tuple_tuple (f.ok.hd z) F (by simp[G,<-O,y.length]) l λP L=>?_;have C:=f.kept (t':=s.toks) λb o e=>L b o (tt (l_ e)) e;exact h M _ Z H xs _ Q C (by simpa using y) j
def So(r j:TE)(t:eK):TG:=λv Z H Q=>r Z H λo a=>j Z a λi f=>t o i v f λl=>Q Z l
def JH(C:PE X o to)(R:PE X i ti)(hs:NF X t)(ha:∀v,assign (.Subscript o i pos) X.env v=(do
   let a <-holding [v] (eval o X.env)
   let f <-holding [v,a] (eval i X.env)
   standAt pos
   holding [v,a,f] (setItem a f v)
   release [v,a,f] []):=by intro _;rfl):PG X (.Subscript o i pos) (So to ti t):=by
 intro l s Z H v u Q j r h;refine e_ (wpAny_holding (ki (C l s Z H _ j h) λa F ⟨x,O,G,r1,z⟩=>?_));refine e_ (wpAny_holding (ki (R l F Z O _ G z) λf W ⟨y,P,B,L,U⟩=>?_));refine e_ (wpAny_standAt (e_ (wpAny_holding (ki (hs l W Z P x y v a f u _ B r1 L r U) λ_ s3 ⟨S,E,M⟩=>?_))));exact wpAny_release ⟨Z,S,E,M⟩
def NH(f:TE)(g:TG):TS:=λD Z H=>f Z H λx a=>g x Z a D.nx
def JI(B:PE X e te)(u:PG X tg g)(E:swapsWithSole [tg] e pos.line X.env=pure T:=by rfl)(j:swappedStores [tg] e X.env=pure Y:=by rfl)(l:(assignEach [tg] X.env).map (·.2)=[assign tg X.env]:=by rfl):PS X (.Assign [tg] e pos) (NH te g):=by
 intro f s Z H D a h;refine wpAny_Assign_stores (ki (B f s Z H _ a h) λv r ⟨x,z,y,C,i⟩=>?_) E j;rw[l];exact ki (u f r Z z x v _ y C i) λ_ F q=>q
def JJ(hN:X.N.Nodup)(u:X.N[i]?=J x)(B:Loc X.env.scope x)(z:PE X e te)(F:swapsWith e (J (.Name x pos')) pos.line X.env=pure T:=by rfl)(hf:X.fn x=I\/X.env.scope.names.lookup x=J .local:=by first | exact .inl rfl | exact .inr rfl | assumption):
  PS X (.Assign [.Name x pos'] e pos) (NH te (Ik i)):=by
 intro C s Z H D a h;refine wpAny_Assign_Name (ki (z C s Z H _ a h) λv G ⟨y,r,l,E,f⟩=>?_) F;exact wk l hN u B E (λL j=>⟨_,r,j,f⟩) hf
def JK(c:TT)(tb:TS):TS:=λD Z H=>∃W:Nat->St->Hp->Prop,(∃m,W m Z H)/\∀m Z H,W m Z H ->
 c Z H λb i=>if b=I then ∃N:St->Hp->Prop,(∀a j,N a j->∃f,f<m/\W f a j)/\tb { D with nx:=N,ct:=N,bk:=D.nx} Z i else D.nx Z i
def CM(M:PassesOwn (model X.prog X.w) X.A X.env X.xe)(R:PT X c tc)(S:PSs X body tb):PS X (.While c body [] pos) (JK tc tb):=by
 intro E s Z H D y h;obtain⟨W,⟨m0,w0⟩,turn⟩:=h;refine wpAny_While (codeAny_whileLoop (λn s'=>∃G L,Inv X E G L s'/\W n G L) ?_ m0 ⟨Z,H,y,w0⟩);rintro n U ⟨r,P,I1,w1⟩;refine wpAny_passesOwn M (ki (R E U r P _ I1 (turn n r P w1)) λb s2 ⟨Q,O,l⟩=>?_)
 cases b with
 |true =>
  obtain⟨N,hN,l⟩:=l;refine wpAny_passesOwn M (ki (S E s2 r Q _ O l) λf s3 j=>?_)
  cases f with
  |next =>
   obtain⟨i,a,B,C⟩:=j;obtain⟨z,u,F⟩:=hN i a C;exact⟨z,u,i,a,B,F⟩
  |cont =>
   obtain⟨i,a,B,C⟩:=j;obtain⟨z,u,F⟩:=hN i a C;exact⟨z,u,i,a,B,F⟩
  |brk=>exact j
  |ret v=>exact j
 |false =>
  exact wpAny_execs_nil ⟨r,Q,O,l⟩
end
structure It where
 go:Nat->Hp->Prop
 yld:Nat->Hp->V->Hp->Prop
 stop:Nat->Hp->Prop
def jS(X:Cx)(a:WU)(H:Hp)(b:Addr):Prop :=
 H b=Y/\b≠X.env.locals/\b∉X.fs/\(b∈X.ex\/X.s₀.heap.objs.size<=b)/\(∀x c,X.env.cells.lookup x=J c->c≠b)/\∀p∈X.pn++a,p.1≠b
def Inv.fpOk{X:Cx}{i:WU}{Z:St}{H H':Hp}{s:Shared}{b:Addr}(a:Inv X i Z H s)(f:s.heap.objs.size<=b)(j:H' b=Y):jS X i H' b:=by
 refine⟨j,DL (oy a.lt f),a.nofs f,.inr (ny a.sz f),λx c e z=>?_,λp l z=>?_⟩
 .obtain⟨v,q⟩:=a.cell x c e;exact absurd (oy q.lt (by rw[z];exact f)) (Ef _)
 .exact absurd (oy (l_ (a.pin p l).1) (by rw[z];exact f)) (Ef _)
inductive UR(X:Cx)(Oa:WU)(Z:St)(u:Value)(Y:V->Hp->Prop)(n:Heap->Prop)(fp:WS)(s2:Shared):Prop
 |mk(x:V)(H':Hp)(i:Inv X Oa Z H' s2)(r:aZ x u)(y:Y x H')(t:n s2.heap)(f:∀b∈fp,H' b=none):UR X Oa Z u Y n fp s2
structure EH(P:Program)(w:World)(K:h_)(tg:Expr)(J:It)(fp:WS)(it:Addr)(tn:Nat->Heap->Prop):Prop where
 mem:it∈fp
 obj:∀i h,tn i h->∀b∈fp,∃o,h.get? b=some o/\∀v,o.data≠.cell v
 keep:∀i h h',tn i h->(∀b∈fp,∀o,h.get? b=some o->h'.get? b=some o)->tn i h'
 item:∀(X:Cx),X.prog=P->X.w=w->X.K=K->X.calm=I->∀(i:Nat)(Oa:WU)(s:Shared)(Z:St)(H:Hp)(E:WA),Inv X Oa Z H s->(∀b∈fp,jS X Oa H b)->tn i s.heap->J.go i H ->
  wpAny (model P w) X.A (pyNext (.ref it)) (λr s1=>∃u,r=some u /\
   wpAny (model P w) X.A (letOwnedTupleGo tg (.ref it) u) (λ_ s2=>UR X Oa Z u (J.yld i H) (tn (i+1)) fp s2) E s1) E s
 done:∀(X:Cx),X.prog=P->X.w=w->X.K=K->X.calm=I->∀(i:Nat)(Oa:WU)(s:Shared)(Z:St)(H:Hp)(E:WA),Inv X Oa Z H s->(∀b∈fp,jS X Oa H b)->tn i s.heap->J.stop i H ->
  wpAny (model P w) X.A (pyNext (.ref it)) (λr s1=>r=Y/\Inv X Oa Z H s1) E s
 self:∀(A:Around)(i:Nat)(s:Shared)(Q:WA)(E:WA),tn i s.heap->Q (.ref it) s->wpAny (model P w) A (pyIter (.ref it)) Q E s
abbrev TI:=St->Hp->(It->Hp->Prop)->Prop
inductive Sq(X:Cx)(Oa:WU)(Z:St)(tg:Expr)(R:It->Hp->Prop)(itv:Value)(s2:Shared):Prop
 |mk(it:Addr)(fp:WS)(tn:Nat->Heap->Prop)(J:It)(H':Hp)(e:itv=.ref it)(i:Inv X Oa Z H' s2)(t:EH X.prog X.w X.K tg J fp it tn)(n:tn 0 s2.heap)(f:∀b∈fp,jS X Oa H' b)(r:R J H'):Sq X Oa Z tg R itv s2
def PI(X:Cx)(i a:Expr)(l:TI):Prop :=
 ∀(f:WU)(s:Shared)(Z:St)(H:Hp)(R:It->Hp->Prop),Inv X f Z H s->l Z H R ->
  wpAny (model X.prog X.w) X.A (eval a X.env) (λv j=>wpAny (model X.prog X.w) X.A (pyIter v) (Sq X f Z i R) X.xe j) X.xe s
def Ad(f:s.heap.get? it=J o)(j:o.cls=.type n)(hd:o.data=.fields vs)(i:["enumerate","zip","dict_itemiterator","dict_reverseitemiterator","odict_iterator","itertools.zip_longest","itertools.pairwise"].contains n=T)(a:Q () s):wpAny M A (letOwnedTupleGo tg (.ref it) u) Q E s:=by
 cases tg<;>first
  |exact i5 a
  | (cases u<;>first
    |exact i5 a
    | (refine e_ (wpAny_load f ?_)
       rw[j,hd];show wpAny M A (if(["enumerate","zip","dict_itemiterator","dict_reverseitemiterator","odict_iterator","itertools.zip_longest","itertools.pairwise"].contains n&&vs[0]? == J (rawInt _))=I then _ else _) Q E s;rw[f_ (by intro h;rw[i]at h;cases h)]
       exact i5 a))
def Sr(K:h_)(a:Addr):It :=
 ⟨λi H=>∃xs x,SqL K H a xs/\xs[i]?=J x,λi H x f=>f=H/\∀xs,SqL K H a xs->xs[i]?=J x,λi H=>∃xs,SqL K H a xs/\xs.length<=i⟩
def US(K:h_)(a:Addr):It :=
 ⟨λi H=>∃xs x,SqT K H a xs/\xs[i]?=J x,λi H x f=>f=H/\∀xs,SqT K H a xs->xs[i]?=J x,λi H=>∃xs,SqT K H a xs/\xs.length<=i⟩
def NI(lo:Int)(n:Nat):It:=⟨λi _=>i<n,λi H x a=>a=H/\x=.int (lo+i),λi _=>n<=i⟩
def BX{P:Program}{w:World}{K:h_}{tg:Expr}(a l:Addr):EH P w K tg (Sr K a) [l] l (λi h=>h.IsListIter l a i) where
 mem:=by simp
 obj:=λi h st b j=>by
  have e:b=l:=by simpa using j
  subst e;obtain⟨o,e,c,d⟩:=st;exact⟨o,e,λv z=>by rw[d]at z;cases z⟩
 keep:=λi h h' st k=>st.at λo e=>k l (by simp) o e
 item:=by intro X B F L hc i Oa s Z H E f hf st M;subst B F L;obtain⟨xs,x,y,S⟩:=M;obtain⟨G,C,p,hz⟩:=f.list y;obtain⟨u,hu,ru⟩:=C.get S;obtain⟨W,U,f2,Q,R,O⟩:=hf l (by simp);refine wpAny_pyNext_list_item st p.isList (by simpa using hu) λh' r sb=>?_;have I1:=f.turned (t':=s.toks) (λb o j e=>(sb.2 b j).trans e) W U Q R O;obtain⟨o,e,c,d⟩:=id r;exact⟨u,rfl,Ad e c d (by decide) ⟨x,H,I1,ru,⟨rfl,λys hy=>by rw[f.list_inj hy y];exact S⟩,r,λb j=>(hf b j).1⟩⟩
 done:=by intro X B F L hc i Oa s Z H E f hf st M;subst B F L;obtain⟨xs,y,S⟩:=M;obtain⟨G,C,p,hz⟩:=f.list y;obtain⟨W,U,f2,Q,R,O⟩:=hf l (by simp);have hl:=C.length;exact wpAny_pyNext_list_end (f.ok.hd hc) st p.isList (by simp;lia) λh' eb=>⟨rfl,f.turned (t':=s.toks) (λb o j e=>eb b o j e) W U Q R O⟩
 self:=λ_ _ _ _ _ st h=>wpAny_pyIter_listiter st h
def yW{P:Program}{w:World}{K:h_}{tg:Expr}(a l:Addr):EH P w K tg (US K a) [l] l (λi h=>h.IsTupleIter l a i) where
 mem:=by simp
 obj:=λi h st b j=>by
  have e:b=l:=by simpa using j
  subst e;obtain⟨o,e,c,d⟩:=st;exact⟨o,e,λv z=>by rw[d]at z;cases z⟩
 keep:=λi h h' st k=>st.at λo e=>k l (by simp) o e
 item:=by intro X B F L hc i Oa s Z H E f hf st M;subst B F L;obtain⟨xs,x,y,S⟩:=M;obtain⟨G,C,p,hz⟩:=f.tuple y;obtain⟨u,hu,ru⟩:=C.get S;obtain⟨W,U,f2,Q,R,O⟩:=hf l (by simp);refine wpAny_pyNext_tuple_item st (p) (by simpa using hu) λh' r sb=>?_;have I1:=f.turned (t':=s.toks) (λb o j e=>(sb.2 b j).trans e) W U Q R O;obtain⟨o,e,c,d⟩:=id r;exact⟨u,rfl,Ad e c d (by decide) ⟨x,H,I1,ru,⟨rfl,λys hy=>by rw[f.tuple_inj hy y];exact S⟩,r,λb j=>(hf b j).1⟩⟩
 done:=by intro X B F L hc i Oa s Z H E f hf st M;subst B F L;obtain⟨xs,y,S⟩:=M;obtain⟨G,C,p,hz⟩:=f.tuple y;obtain⟨W,U,f2,Q,R,O⟩:=hf l (by simp);have hl:=C.length;exact wpAny_pyNext_tuple_end (f.ok.hd hc) st (p) (by simp;lia) λh' eb=>⟨rfl,f.turned (t':=s.toks) (λb o j e=>eb b o j e) W U Q R O⟩
 self:=λ_ _ _ _ _ st h=>wpAny_pyIter_tupleiter st h
def yR{P:Program}{w:World}{K:h_}{tg:Expr}(f:Addr)(lo:Int)(n:Nat):EH P w K tg (NI lo n) [f] f (λi h=>IsRangeIter h f (lo+(i:Nat)*1) ((n:Int)-(i:Nat)) 1) where
 mem:=by simp
 obj:=λi h st b j=>by
  have e:b=f:=by simpa using j
  subst e
  exact⟨_,st,λv z=>by
   have z':=z
   cases z'⟩
 keep:=λi h B st k=>k f (by simp) _ st
 item:=by intro X M O Q r i R s Z H E a hf st u;subst M O Q;obtain⟨L,G,S,C,F,y⟩:=hf f (by simp);have W:=Walks.range (prog:=X.prog) (w:=X.w) (a.ok.hd r) f lo 1 n;refine W.item i s _ _ u st λv B tk hv l kk=>?_;obtain⟨t,rfl⟩:=hv;have U:Inv X R Z H { s with heap:=B,toks:=tk}:=a.turned (λb o j e=>kk b o (by simpa using j) e) L G C F y;refine⟨_,rfl,Ad l rfl rfl (by decide) ⟨.int (lo+i),H,U,⟨t,?_⟩,⟨rfl,rfl⟩,l,λb j=>(hf b j).1⟩⟩;rw[Int.mul_one]
 done:=by intro X M O Q r i R s Z H E a hf st u;obtain⟨L,G,S,C,F,y⟩:=hf f (by simp);exact wpAny_pyNext_range_end (a.ok.hd r) st (by have:n<=i:=u;lia) λB eb=>⟨rfl,a.turned (t':=s.toks) (λb o j e=>eb b o j e) L G C F y⟩
 self:=λ_ _ _ _ _ st h=>wpAny_pyIter_rangeiter st h
section
variable{X:Cx}{tg:Expr}
def NJ(K:h_)(i:TE):TI:=λZ H R=>i Z H λx f=>∃a,x=.ref a/\(∃xs,SqL K f a xs)/\R (Sr K a) f
def Ss(K:h_)(i:TE):TI:=λZ H R=>i Z H λx f=>∃a,x=.ref a/\(∃xs,SqT K f a xs)/\R (US K a) f
def FJ{l:Expr}{r:TE}(G:PE X l r):PI X tg l (NJ X.K r):=by
 intro E s Z H R j h;refine ki (G E s Z H _ j h) λv f ⟨x,C,i,F,u⟩=>?_;obtain⟨a,e,⟨xs,B⟩,q⟩:=u;subst e;cases F;obtain⟨y,L,p,M⟩:=i.list B;refine wpAny_pyIter_list p.isList ?_;refine⟨f.heap.objs.size,[f.heap.objs.size],_,_,C,rfl,i.kept (t':=f.toks) λb o e=>k_ _ e,BX a _,⟨_,rb _ rfl,rfl,rfl⟩,λb z=>?_,q⟩;have e:b=f.heap.objs.size:=by simpa using z
 subst e;exact i.fpOk (i4 _) (i.hok.fresh (i4 _))
def JL{l:Expr}{r:TE}(G:PE X l r):PI X tg l (Ss X.K r):=by
 intro E s Z H R j h;refine ki (G E s Z H _ j h) λv f ⟨x,C,i,F,u⟩=>?_;obtain⟨a,e,⟨xs,B⟩,q⟩:=u;subst e;cases F;obtain⟨y,L,p,M⟩:=i.tuple B;refine wpAny_pyIter_tuple (p) ?_;refine⟨f.heap.objs.size,[f.heap.objs.size],_,_,C,rfl,i.kept (t':=f.toks) λb o e=>k_ _ e,yW a _,⟨_,rb _ rfl,rfl,rfl⟩,λb z=>?_,q⟩;have e:b=f.heap.objs.size:=by simpa using z
 subst e;exact i.fpOk (i4 _) (i.hok.fresh (i4 _))
def uR{l:WU}{Z:St}{H:Hp}{s:Shared}{R:It->Hp->Prop}{E:WA}{lo a:Int}{t u v:Tok}{j:Nat}(f:Inv X l Z H s)(z:-(2^62)<=lo)(r:lo<2^62)(B:-(2^62)<=a)(C:a<2^62)(q:R (NI lo (a-lo).toNat) H):wpAny (model X.prog X.w) X.A (pyIter (.ref s.heap.objs.size)) (Sq X l Z tg R) E { s with heap:=s.heap.push { cls:=.type "range",data:=.fields #[.int lo t,.int a u,.int 1 v]},toks:=j}:=by
 refine wpAny_pyIter_range (IsRange.new ..) (small_one z r B C) ?_;have i:Inv X l Z H { s with heap:=s.heap.push { cls:=.type "range",data:=.fields #[.int lo t,.int a u,.int 1 v]},toks:=j}:=f.kept λb o e=>k_ _ e
 refine⟨(s.heap.push { cls:=.type "range",data:=.fields #[.int lo t,.int a u,.int 1 v]}).objs.size,[(s.heap.push { cls:=.type "range",data:=.fields #[.int lo t,.int a u,.int 1 v]}).objs.size],_,_,H,rfl,
  i.kept (t':=j) λb o e=>k_ _ e,yR _ lo (a-lo).toNat,?_,λb y=>?_,q⟩
 .have e1:lo+((0:Nat):Int)*1=lo:=by simp
  have e2:(((a-lo).toNat:Nat):Int)-((0:Nat):Int)=Builtin.Range.rangeSize lo a 1:=by rw[rangeSize_one];split<;>lia
  rw[e1,e2];exact rb _ rfl
 .have e:b=(s.heap.push { cls:=.type "range",data:=.fields #[.int lo t,.int a u,.int 1 v]}).objs.size:=by simpa using y
  subst e;exact i.fpOk (i4 _) (i.hok.fresh (i4 _))
def NK(i:TA):TI:=λZ H R=>i Z H λf a=>∃j:Int,f=[.int j] /\ -(2^62)<=j/\j<2^62/\R (NI 0 j.toNat) a
def NL(l:TA):TI:=λZ H R=>l Z H λf a=>∃i j:Int,f=[.int i,.int j]/\(-(2^62)<=i/\i<2^62 /\ -(2^62)<=j/\j<2^62)/\R (NI i (j-i).toNat) a
def Cc{a:Expr}{u:TA}{p i:Pos}(B:Gl X "range")(y:X.mg "range"=Y)(E:PA X [a] u)(F:starEach [a] X.env=[(T,eval a X.env)]:=by rfl):PI X tg (.Call (.Name "range" p) [a] [] i) (NK u):=by
 intro L s Z H R f h;refine Call_ (iO f B y boot_range (PyProof.Rows.callWith_type1 (ki (E i L s Z H _ f h) λP O ⟨S,Q,C,M,l⟩=>?_) F rfl));obtain⟨j,e,l,G,q⟩:=l;subst e
 cases M with
 |cons r z =>
  cases z;obtain⟨t,rfl⟩:=r;exact call_range_1 (uR C ⋯ ⋯ l G (by simpa using q))
def Bp{a b:Expr}{B:TA}{p u:Pos}(G:Gl X "range")(E:X.mg "range"=Y)(O:PA X [a,b] B)(P:starEach [a,b] X.env=[(T,eval a X.env),(T,eval b X.env)]:=by rfl)(f:starEach [b] X.env=[(T,eval b X.env)]:=by rfl):
  PI X tg (.Call (.Name "range" p) [a,b] [] u) (NL B):=by
 intro S s Z H R l h;refine Call_ (iO l G E boot_range (PyProof.Rows.callWith_type1 (ki (O u S s Z H _ l h) λus W ⟨vs,H1,L,U,y⟩=>?_) (by rw[P,f]) (by rw[f];rfl)));obtain⟨i,j,e,⟨y,Q,M,F⟩,q⟩:=y;subst e
 cases U with
 |cons r z =>
  cases z with
  |cons C z =>
   cases z;obtain⟨t,rfl⟩:=r;obtain⟨t',rfl⟩:=C;exact call_range_2 (uR L y Q M F q)
def Su(z:TI)(g:TG)(tb:TS):TS:=λD Z H=>z Z H λa r=>∃W:Nat->Nat->St->Hp->Prop,(∃m,W 0 m Z r)/\∀i m Z H,W i m Z H ->
 (a.stop i H/\D.nx Z H)\/(a.go i H/\∃N:St->Hp->Prop,(∀j f,N j f->∃l,l<m/\W (i+1) l j f)/\∀x f,a.yld i H x f->g x Z f λu y=>tb { D with nx:=N,ct:=N,bk:=D.nx} u y)
def mU(a:WS)(h:Heap):WU:=a.filterMap λb=>(h.get? b).map λo=>(b,o)
def jo(a:b∈fp)(e:h.get? b=J o):(b,o)∈mU fp h:=Fh.mpr ⟨b,a,by rw[e];rfl⟩
def BP(f:p∈mU fp h):p.1∈fp/\h.get? p.1=J p.2:=by
 obtain⟨b,i,e⟩:=Fh.mp f
 cases q:h.get? b with
 |none=>rw[q]at e;cases e
 |some o =>
  rw[q]at e;have a:=Option.some.inj e;subst a;exact⟨i,q⟩
def Inv.pinned{i:WU}{Z:St}{H:Hp}{s:Shared}{f:WS}(a:Inv X i Z H s)(hf:∀b∈f,jS X i H b)(r:∀b∈f,∃o,s.heap.get? b=J o/\∀v,o.data≠.cell v):Inv X (i++mU f s.heap) Z H s :=
 a.pins_of λp l=>(ml.mp l).elim (λz=>a.pin p (n2 _ z)) λz=>by
  obtain⟨j,e⟩:=BP z;obtain⟨C,B,y,_⟩:=hf p.1 j;obtain⟨o,u,d⟩:=r p.1 j
  simp_all
def Inv.unpinned{Oa f:WU}{Z:St}{H:Hp}{s:Shared}(a:Inv X (Oa++f) Z H s):Inv X Oa Z H s:=a.pins_of λp i=>a.pin p (n2 _ (rT _ i))
def JM(P:PassesOwn (model X.prog X.w) X.A X.env X.xe)(hc:X.calm=I)(hi:PI X tg iter wi)(hg:PG X tg g)(j:PSs X body tb)(hs:∀x,foldedSetIterable iter X.env x=pure x:=by intro _;rfl):PS X (.For tg iter body [] pos) (Su wi g tb):=by
 intro G s Z H D al h;refine wpAny_For (ki (hi G s Z H _ al h) λv s1 h1=>ki h1 λay s2 h2=>?_) hs;obtain⟨it,O,tn,ax,H2,e,I2,B,an,f2,W,⟨m0,w0⟩,turn⟩:=h2;subst e;have l:∀{C:Hp},(∀b∈O,C b=Y)->∀b∈O,jS X G C b:=λhn b j=>⟨hn b j,(f2 b j).2⟩;refine codeAny_forLoop_any (λn s'=>∃i L C,Inv X G L C s'/\tn i s'.heap/\(∀b∈O,C b=Y)/\W i n L C) ?_ m0 ⟨0,Z,H2,I2,an,λb j=>(f2 b j).1,w0⟩;rintro n s3 ⟨i,S,U,I3,R,M,w3⟩;rcases turn i n S U w3 with⟨stop,qn⟩|⟨go,N,hN,step⟩
 .refine wpAny_passesOwn P (ki (B.done X rfl rfl rfl hc i G s3 S U X.xe I3 (l M) R stop) λr s4 ⟨hr,I4⟩=>?_);subst hr;exact wpAny_execs_nil ⟨S,U,I4,qn⟩
 .refine wpAny_passesOwn P (ki (B.item X rfl rfl rfl hc i G s3 S U X.xe I3 (l M) R go) λr s4 ⟨u,hr,h4⟩=>?_);subst hr;refine wpAny_passesOwn P (ki h4 λ_ s5 ⟨x,H5,I5,r5,y5,F,as⟩=>?_);have ap:=I5.pinned (l as) (B.obj _ _ F);refine wpAny_passesOwn P (ki (hg _ s5 S H5 x u _ ap r5 (step x H5 y5)) λ_ s6 ⟨Z6,H6,I6,q6⟩=>?_);refine wpAny_passesOwn P (ki (j _ s6 Z6 H6 _ I6 q6) λf s7 E=>?_);have again:∀{z:St}{y:Hp},Inv X (G++mU O s5.heap) z y s7->N z y->∃m,m<n/\∃i L C,Inv X G L C s7/\tn i s7.heap/\(∀b∈O,C b=Y)/\W i m L C:=λ{z y} a Q=>by
   obtain⟨m',hm,w7⟩:=hN z y Q;refine⟨m',hm,i+1,z,y,a.unpinned,B.keep _ _ _ F λb j o e=>(a.pin (b,o) (n2 _ (n2 _ (jo j e)))).1,λb j=>?_,w7⟩;obtain⟨o,e,d⟩:=B.obj _ _ F b j;exact(a.pin (b,o) (n2 _ (n2 _ (jo j e)))).2.1
  cases f with
  |next=>obtain⟨z,y,a,Q⟩:=E;exact again a Q
  |cont=>obtain⟨z,y,a,Q⟩:=E;exact again a Q
  |brk=>obtain⟨z,y,a,E⟩:=E;exact⟨z,y,a.unpinned,E⟩
  |ret v=>obtain⟨x7,z,y,a,r7,E⟩:=E;exact⟨x7,z,y,a.unpinned,r7,E⟩
end
abbrev R2:=V->V->Hp->VK->Prop
def OpR(X:Cx)(f:Value->Value->Sem Value)(r:R2):Prop :=
 ∀(a:WU)(s:Shared)(Z:St)(H:Hp)(x y:V)(v u:Value)(Q:VK),Inv X a Z H s->aZ x v->aZ y u->r x y H Q ->
  wpAny (model X.prog X.w) X.A (f v u) (EP X a Z Q) X.xe s
def QU(X:Cx)(f:Value->Sem Value)(r:V->Hp->VK->Prop):Prop :=
 ∀(a:WU)(s:Shared)(Z:St)(H:Hp)(x:V)(v:Value)(Q:VK),Inv X a Z H s->aZ x v->r x H Q ->
  wpAny (model X.prog X.w) X.A (f v) (EP X a Z Q) X.xe s
def cK(X:Cx)(f:Value)(r:List V->Hp->VK->Prop):Prop :=
 ∀(i:WU)(s:Shared)(Z:St)(H:Hp)(xs:List V)(a:WT)(Q:VK),Inv X i Z H s->aD xs a->r xs H Q ->
  wpAny (model X.prog X.w) X.A (call f a) (EP X i Z Q) X.xe s
def Sv(X:Cx)(r:V->Hp->(Bool->Hp->Prop)->Prop):Prop :=
 ∀(a:WU)(s:Shared)(Z:St)(H:Hp)(x:V)(v:Value)(Q:Bool->Hp->Prop),Inv X a Z H s->aZ x v->r x H Q ->
  wpAny (model X.prog X.w) X.A (truthy v) (TP X a Z Q) X.xe s
def NM(r:R2)(i tb:TE):TE:=λZ H Q=>i Z H λx a=>tb Z a λy f=>r x y f Q
def VP(r:V->Hp->VK->Prop)(f:TE):TE:=λZ H Q=>f Z H λx a=>r x a Q
def rI(C:Int->Int->Prop)(g:Int->Int->V):R2:=λx y H Q=>∃i j,x=.int i/\y=.int j/\C i j/\Q (g i j) H
def FK(g:Int->Int->V):R2:=λx y H Q=>∃i j,x=.int i/\y=.int j/\Q (g i j) H
def rU(g:Int->V):V->Hp->VK->Prop:=λx H Q=>∃i,x=.int i/\Q (g i) H
section
variable{X:Cx}{a b c:Expr}{ta tb tc:TE}{pos:Pos}
def JN(P:PE X a ta)(F:PE X b tb){z:WU}{s:Shared}{Z:St}{H:Hp}{R:V->V->Hp->Prop}(B:Inv X z Z H s)(h:ta Z H λx C=>tb Z C λy i=>R x y i){Q:WA}{f:Value->Value->Sem Value}(hf:∀v u r x y i,Inv X z Z i r->aZ x v->aZ y u->R x y i->wpAny (model X.prog X.w) X.A (f v u) Q X.xe r):
  wpAny (model X.prog X.w) X.A (eval a X.env) (λv l=>wpAny (model X.prog X.w) X.A (eval b X.env) (λu j=>wpAny (model X.prog X.w) X.A (f v u) Q X.xe j) X.xe l) X.xe s:=by
 refine ki (P z s Z H _ B h) λv L ⟨x,C,M,U,E⟩=>?_;refine ki (F z L Z C _ M E) λu r ⟨y,i,G,O,S⟩=>?_;exact hf v u r x y i G U O S
def NN{i:Operator}{r:R2}(B:OpR X (binaryOp i) r)(C:PE X a ta)(j:PE X b tb):PE X (.BinOp a i b pos) (NM r ta tb):=by intro L s Z H Q f h;exact wpAny_BinOp (JN C j f h λv u G x y E l z F q=>B L G Z E x y v u Q l z F q)
def NO(j:QU X (unaryOp op) r)(C:PE X a ta):PE X (.UnaryOp op a pos) (VP r ta):=by intro i s Z H Q f h;exact UnaryOp_ (ki (C i s Z H _ f h) λv l ⟨x,u,y,B,z⟩=>j i l Z u x v Q y B z)
def VQ{f:Value->Value->Sem Value}{C:Int->Int->Prop}{g:Int->Int->Int}(rule:∀(i j:Int)(t u:Tok)(s:Shared)(Q:WA)(E:WA),C i j->Q (.int (g i j) s.toks) { s with toks:=s.toks+1}->wpAny (model X.prog X.w) X.A (f (.int i t) (.int j u)) Q E s):
  OpR X f (rI C λi j=>.int (g i j)):=by
 intro G s Z H x y v u Q l z F h;obtain⟨i,j,rfl,rfl,r,q⟩:=h;obtain⟨t,rfl⟩:=z;obtain⟨B,rfl⟩:=F;exact rule i j t B s _ _ r ⟨.int (g i j),H,l.tok _,⟨_,rfl⟩,q⟩
def NP{f:Value->Value->Sem Value}{g:Int->Int->Int}(rule:∀(i j:Int)(t u:Tok)(s:Shared)(Q:WA)(E:WA),Q (.int (g i j) s.toks) { s with toks:=s.toks+1}->wpAny (model X.prog X.w) X.A (f (.int i t) (.int j u)) Q E s):
  OpR X f (FK λi j=>.int (g i j)):=by
 intro C s Z H x y v u Q l r B h;obtain⟨i,j,rfl,rfl,q⟩:=h;obtain⟨t,rfl⟩:=r;obtain⟨z,rfl⟩:=B;exact rule i j t z s _ _ ⟨.int (g i j),H,l.tok _,⟨_,rfl⟩,q⟩
def FL{f:Value->Value->Sem Value}{g:Int->Int->Bool}(rule:∀(i j:Int)(t u:Tok)(s:Shared)(Q:WA)(E:WA),Q (.bool (g i j)) s->wpAny (model X.prog X.w) X.A (f (.int i t) (.int j u)) Q E s):
  OpR X f (FK λi j=>.bl (g i j)):=by
 intro C s Z H x y v u Q l r B h;obtain⟨i,j,rfl,rfl,q⟩:=h;obtain⟨t,rfl⟩:=r;obtain⟨z,rfl⟩:=B;exact rule i j t z s _ _ ⟨.bl (g i j),H,l,rfl,q⟩
def jE(i j:Int):Prop:=0<=j/\j<=1000000/\i.natAbs<2^64
def JO:OpR X (binaryOp .Add) (FK λi j=>.int (i+j)):=NP λ_ _ _ _ _ _ _ q=>add_int q
def JP:OpR X (binaryOp .Sub) (FK λi j=>.int (i-j)):=NP λ_ _ _ _ _ _ _ q=>sub_int q
def JQ:OpR X (binaryOp .Pow) (rI jE λi j=>.int (i^j.toNat)):=VQ λ_ _ _ _ _ _ _ f q=>pow_int_small f.1 f.2.1 f.2.2 q
def VR{f:Value->Sem Value}{g:Int->Int}(rule:∀(i:Int)(t:Tok)(s:Shared)(Q:WA)(E:WA),Q (.int (g i) s.toks) { s with toks:=s.toks+1}->wpAny (model X.prog X.w) X.A (f (.int i t)) Q E s):
  QU X f (rU λi=>.int (g i)):=by
 intro r s Z H x v Q j l h;obtain⟨i,rfl,q⟩:=h;obtain⟨t,rfl⟩:=l;exact rule i t s _ _ ⟨.int (g i),H,j.tok _,⟨_,rfl⟩,q⟩
def JR:QU X (unaryOp .USub) (rU λi=>.int (-i)):=VR λ_ _ _ _ _ q=>neg_int q
def A3{i:WU}{Z:St}{H:Hp}{s:Shared}{Q:VK}{k j:Bool}(f:Inv X i Z H s)(q:Q (.bl k) H)(e:k=j):EP X i Z Q (.bool j) s:=by subst e;exact⟨.bl k,H,f,rfl,q⟩
def NQ:OpR X (compareOp .Lt) (FK λi j=>.bl (decide (i<j))):=FL λ_ _ _ _ _ _ _ q=>lt_int q
def NR:OpR X (compareOp .LtE) (FK λi j=>.bl (decide (i<=j))):=FL λ_ _ _ _ _ _ _ q=>le_int q
def NS:OpR X (compareOp .Gt) (FK λi j=>.bl (decide (j<i))):=FL λ_ _ _ _ _ _ _ q=>gt_int q
def NT:OpR X (compareOp .GtE) (FK λi j=>.bl (decide (j<=i))):=FL λ_ _ _ _ _ _ _ q=>ge_int q
def JS:OpR X (compareOp .Is) (λx y H Q=>y=.non/\Q (.bl (decide (x=.non))) H):=by
 intro l s Z H x y v u Q f j i h;obtain⟨rfl,q⟩:=h;cases i;refine is_none_gen (A3 f q ?_);cases x<;>first
  |(obtain⟨t,rfl⟩:=j;rfl)
def FM:OpR X (compareOp .IsNot) (λx y H Q=>y=.non/\Q (.bl (!decide (x=.non))) H):=by
 intro l s Z H x y v u Q f j i h;obtain⟨rfl,q⟩:=h;cases i;refine isnot_none_gen (A3 f q ?_);cases x<;>first
  |(obtain⟨t,rfl⟩:=j;rfl)
def EY(b:Expr)(h:op≠.In:=by decide)(f:op≠.NotIn:=by decide):behindInMarks op b=T:=by
 have e1:(op==CmpOp.In)=T:=by cases op<;>first | rfl | exact absurd rfl h
 have e2:(op==CmpOp.NotIn)=T:=by cases op<;>first | rfl | exact absurd rfl f
 cases b<;>simp[behindInMarks,e1,e2]
def FN{i:CmpOp}{r:R2}(C:OpR X (compareOp i) r)(E:PE X a ta)(l:PE X b tb)(j:behindInMarks i b=T):PE X (.Compare a [i] [b] pos) (NM r ta tb):=by intro M s Z H Q f h;exact wpAny_Compare1 (JN E l f h λv u L x y F z B G q=>C M L Z F x y v u Q z B G q) j
def NU(t:TE):TT:=λZ H Q=>t Z H λx f=>∃k,x=.bl k/\Q k f
def FO(E:OpR X (compareOp op) r)(P:PE X a ta)(B:PE X b tb)(l:behindInMarks op b=T):PT X (.Compare a [op] [b] pos) (NU (NM r ta tb)):=by
 intro i s Z H Q f h
 refine wpAny_isTrue_Compare1 (ki (P i s Z H _ f h) λv G ⟨x,R,L,r1,j⟩=>ki (B i G Z R _ L j) λu s2 ⟨y,S,C,M,q2⟩ =>
  ki (E i s2 Z S x y v u _ C r1 M q2) λc s3 ⟨z,W,F,U,k,e,O⟩=>?_) l
 subst e;cases U;exact wpAny_truthy_bool ⟨W,F,O⟩
def AO(r j:R2)(ta tb tc:TE):TE:=λZ H Q=>ta Z H λx i=>tb Z i λy l=>r x y l λz f=>∃k,z=.bl k /\
 (if k=I then tc Z f λu B=>j y u B Q else Q (.bl T) f)
def Dk(U:OpR X (compareOp op) r)(j:OpR X (compareOp op') r')(ha:PE X a ta)(P:PE X b tb)(M:PE X c tc)(O:lastMarks [op,op'] [b,c]=T:=by with_unfolding_all rfl):PE X (.Compare a [op,op'] [b,c] pos) (AO r r' ta tb tc):=by
 intro f s Z H Q i h
 refine Compare_chain (ki (ha f s Z H _ i h) λv W ⟨x,H1,I1,r1,L⟩=>chain_link (ki (P f W Z H1 _ I1 L) λu s2 ⟨y,H2,R,B,q2⟩ =>
  ki (U f s2 Z H2 x y v u _ R r1 B q2) λd F ⟨z,E,l,r3,k,e,C⟩=>?_)) O
 subst e;cases r3;refine wpAny_truthy_bool ?_
 cases k with
 |false=>exact ite_ff ⟨.bl T,E,l,rfl,C⟩
 |true=>exact ite_tt (chain_last (ki (M f F Z E _ l C) λw' s4 ⟨z',H4,G,r4,S⟩=>j f s4 Z H4 y z' u w' Q G B r4 S))
def JT(K:h_)(x:V)(H:Hp)(k:Bool):Prop :=
 match x with
 |.non=>k=T
 |.bl b=>k=b
 |.int i=>k=(i != 0)
 |.str y=>y.length<=sizeLine/\k=((y.length:Int) != 0)
 |.byt y=>y.size<=sizeLine/\k=((y.size:Int) != 0)
 |.ref p=>(∃xs,SqL K H p xs/\k=!xs.isEmpty)\/(∃xs,SqT K H p xs/\k=!xs.isEmpty)\/∃f,H p=J (.dK f)/\k=!f.isEmpty
 |_=>False
def Ak{κ:Type}{f:List (κ×V)}{i:List (κ×Value)}(r:KV f i):(!i.isEmpty)=!f.isEmpty:=by cases r<;>rfl
def rf(r:aD xs its):(!its.toArray.isEmpty)=!xs.isEmpty:=by cases r<;>simp
def qL:(sizeLine:Nat)<2^63:=by rw[sizeLine_eq];decide
def mR:Sv X (λx H Q=>∃k,JT X.K x H k/\Q k H):=by
 intro O s Z H x v Q f z h;obtain⟨k,e,q⟩:=h;have P:sizeLine=16777216:=sizeLine_eq
 cases x with
 |non =>
  cases z;have j:k=T:=e;subst j;exact truthy_none ⟨H,f,q⟩
 |bl b =>
  cases z;have j:k=b:=e;subst j;exact wpAny_truthy_bool ⟨H,f,q⟩
 |int i =>
  obtain⟨t,rfl⟩:=z;have j:k=(i != 0):=e;subst j;exact PySem.P.truthy_int ⟨H,f,q⟩
 |str y =>
  obtain⟨t,rfl⟩:=z;obtain⟨M,j⟩:y.length<=sizeLine/\k=((y.length:Int) != 0):=e;subst j;exact PySem.P.truthy_str ⋯ ⟨H,f.tok _,q⟩
 |byt y =>
  obtain⟨t,rfl⟩:=z;obtain⟨M,j⟩:y.size<=sizeLine/\k=((y.size:Int) != 0):=e;subst j;exact PySem.W.truthy_bytes ⋯ ⟨H,f.tok _,q⟩
 |ref p =>
  cases z;have j:(∃xs,SqL X.K H p xs/\k=!xs.isEmpty)\/(∃xs,SqT X.K H p xs/\k=!xs.isEmpty)\/∃l,H p=J (.dK l)/\k=!l.isEmpty:=e;rcases j with⟨xs,B,j⟩|⟨xs,B,j⟩|⟨l,B,j⟩
  .subst j;obtain⟨F,r,E,G⟩:=f.list B;have u:=r.length;exact wpAny_truthy_list E.isList (by simp only[oh];lia) ⟨H,f.tok _,by rw[rf r];exact q⟩
  .subst j;obtain⟨F,r,E,G⟩:=f.tuple B;have u:=r.length;exact truthy_tuple E (by simp only[oh];lia) ⟨H,f.tok _,by rw[rf r];exact q⟩
  .subst j;obtain⟨G,L,C,r,m⟩:l.length<=sizeLine/\(p==sysModules)=T/\∃C,KV l C/\s.heap.DictOf (sB X.prog X.w) p C:=f.hok p _ B;have u:l.length=C.length:=Paired.length r;exact wpAny_truthy_dict L m ⋯ ⟨H,f.tok _,by rw[Ak r];exact q⟩
 |_=>exact(show False from e).elim
def Dd(z:PE X a ta)(C:∀f,isTrue a X.env f=(do let v <-f;standAt a.pos;holding [v] (truthy v))):
  PT X a (λZ H Q=>ta Z H λx j=>∃k,JT X.K x j k/\Q k j):=by
 intro l s Z H Q i h;exact isTrue_plain (ki (z l s Z H _ i h) λv u ⟨x,B,y,E,r⟩=>mR l u Z B x v Q y E r) (C _)
def zK:OpR X (binaryOp .Add) (λx y H Q=>∃i j,x=.str i/\y=.str j/\i.length+j.length<=sizeLine/\Q (.str (i++j)) H):=by intro E s Z H x y v u Q f l B h;obtain⟨i,j,rfl,rfl,r,q⟩:=h;obtain⟨t,rfl⟩:=l;obtain⟨z,rfl⟩:=B;exact add_str (λz C=>⟨.str (i++j),H,f.tok _,⟨_,rfl⟩,q⟩) r
def fw(r:aD [x] us):∃u,us=[u]/\aZ x u:=by
 cases r with
 |cons i f=>cases f;exact⟨_,rfl,i⟩
def vals2(r:aD [x,y] us):∃u f,us=[u,f]/\aZ x u/\aZ y f:=by
 cases r with
 |cons l j =>
  cases j with
  |cons z i=>cases i;exact⟨_,_,rfl,l,z⟩
def Cj:cK X (.builtin "abs") (λxs H Q=>∃i,xs=[.int i]/\Q (.int (if i<0 then -i else i)) H):=by intro l s Z H xs j Q f r h;obtain⟨i,rfl,q⟩:=h;obtain⟨u,rfl,t,rfl⟩:=fw r;exact call_abs_int λu y=>⟨.int (if i<0 then -i else i),H,f.tok _,⟨_,rfl⟩,q⟩
def t7(y:X.calm=I):cK X (.builtin "max") (λxs H Q=>∃i j,xs=[.int i,.int j]/\Q (.int (if j>i then j else i)) H):=by
 intro G s Z H xs z Q f r h;obtain⟨i,j,rfl,q⟩:=h;obtain⟨u,E,rfl,⟨t,rfl⟩,⟨F,rfl⟩⟩:=vals2 r;refine max_two_ints (f.ok.hd y) λB C k=>⟨_,H,f.kept k,?_,q⟩;by_cases l:j>i
 .rw[c_ l,c_ l];exact⟨_,rfl⟩
 .rw[f_ l,f_ l];exact⟨_,rfl⟩
def tX(y:X.calm=I):cK X (.builtin "min") (λxs H Q=>∃i j,xs=[.int i,.int j]/\Q (.int (if j<i then j else i)) H):=by
 intro G s Z H xs z Q f r h;obtain⟨i,j,rfl,q⟩:=h;obtain⟨u,E,rfl,⟨t,rfl⟩,⟨F,rfl⟩⟩:=vals2 r;refine min_two_ints (f.ok.hd y) λB C k=>⟨_,H,f.kept k,?_,q⟩;by_cases l:j<i
 .rw[c_ l,c_ l];exact⟨_,rfl⟩
 .rw[f_ l,f_ l];exact⟨_,rfl⟩
def tE:cK X (.type "int") (λxs H Q=>(∃i,xs=[.int i]/\Q (.int i) H)\/∃k,xs=[.bl k]/\Q (.int (if k then 1 else 0)) H):=by
 intro y s Z H xs l Q f r h;rcases h with⟨i,rfl,q⟩|⟨k,rfl,q⟩
 .obtain⟨u,rfl,t,rfl⟩:=fw r;exact call_int_int ⟨.int i,H,f,⟨_,rfl⟩,q⟩
 .obtain⟨u,rfl,j⟩:=fw r;cases j;exact call_int_bool ⟨.int (if k then 1 else 0),H,f.tok _,⟨_,rfl⟩,q⟩
def Sw(K:h_)(x:V)(H:Hp)(n:Nat):Prop :=
 match x with
 |.str y=>y.length<=sizeLine/\n=y.length
 |.byt y=>y.size<=sizeLine/\n=y.size
 |.ref p=>(∃xs,SqL K H p xs/\n=xs.length)\/∃xs,SqT K H p xs/\n=xs.length
 |_=>False
def lP:cK X (.builtin "len") (λxs H Q=>∃x n,xs=[x]/\Sw X.K x H n/\Q (.int n) H):=by
 intro M s Z H xs L Q f r h;obtain⟨x,n,rfl,e,q⟩:=h;obtain⟨u,rfl,C⟩:=fw r;have O:=sizeLine_eq
 cases x with
 |str y =>
  obtain⟨t,rfl⟩:=C;obtain⟨G,j⟩:=e;subst j;exact len_str ⋯ ⟨.int _,H,f.tok _,⟨_,rfl⟩,q⟩
 |byt y =>
  obtain⟨t,rfl⟩:=C;obtain⟨G,j⟩:=e;subst j;exact PySem.W.len_bytes ⋯ ⟨.int _,H,f.tok _,⟨_,rfl⟩,q⟩
 |ref p =>
  cases C;have j:=e;rcases j with⟨xs,E,j⟩|⟨xs,E,j⟩
  .subst j;obtain⟨B,l,z,F⟩:=f.list E;have i:=l.length;exact Calls.call_len_list z.isList (by simp only[oh];lia) ⟨.int xs.length,H,f.tok _,⟨_,by simp only[oh];rw[i]⟩,q⟩
  .subst j;obtain⟨B,l,z,F⟩:=f.tuple E;have i:=l.length;exact len_tuple z (by simp only[oh];lia) ⟨.int xs.length,H,f.tok _,⟨_,by simp only[oh];rw[i]⟩,q⟩
 |_=>exact(e).elim
end
section
variable{prog:Program}{w:World}{A:Around}{E:WA}{s:Shared}{K:h_}{x dx C f:Addr}{mA:WB}{name:Str}{v:Value}
end
section
variable{P:Program}{w:World}{H H':Hp}{h h':Heap}{a C dx:Addr}{fs fs':List (Str × V)}
end
section
variable{X:Cx}{Oa:List (Addr × Obj)}{Z:St}{H:Hp}{s:Shared}{a C dx:Addr}{fs:List (Str × V)}{f:Str}{v:V}{A:Around}{E:WA}
end
section
variable{X:Cx}{o e value:Expr}{f:Str}{pos pos' tpos:Pos}{ta tv:TE}
end
section
variable{X:Cx}{Oa:List (Addr × Obj)}{Z:St}{H:Hp}{s:Shared}{A:Around}{E:WA}{Q:WA}{c:Value}{b:Bool}
end
structure Room(k:Nat)(A:Around):Prop where
 hd:A.handled=Y
 dp:A.depth+3*k+5<recursionLimit
 un:A.units+16*k+200<cLine
 gd:A.guards=J []
def Room.mono(r:Room k A)(h:j<=k):Room j A:=⟨r.hd,by have:=r.dp;lia,by have:=r.un;lia,r.gd⟩
def Room.deeper(r:Room (k+1) A)(env:Env):Room k (A.deeper env) :=
 ⟨r.hd,by have:=r.dp;show A.depth+1+3*k+5<_;lia,by have:=r.un;show A.units+3+16*k+200<_;lia,r.gd⟩
def Room.depth(r:Room k A):A.depth<recursionLimit:=by have:=r.dp;lia
def Room.units(r:Room k A):A.units+64<cLine:=by have:=r.un;lia
def Sx:TA:=λ_ H Q=>Q [] H
def NV(j:TE)(i:TA):TA:=λZ H Q=>j Z H λx a=>i Z a λxs f=>Q (x::xs) f
section
variable{X:Cx}{e:Expr}{es:WX}{te:TE}{t:TA}{pos:Pos}
def jA:PA X [] Sx:=λ_ _ _ _ H Q a h=>Calls.spliced_nil ⟨[],H,a,.nil,h⟩
def eJ(B:PE X e te)(j:PA X es t)(C:starEach (e::es) X.env=(T,eval e X.env)::starEach es X.env:=by rfl):PA X (e::es) (NV te t):=by intro pos f s Z H Q a h;rw[C];show wpAny _ _ (spliced ((T,eval e X.env)::backTo pos (starEach es X.env))) _ _ s;refine Calls.spliced_cons (ki (B f s Z H _ a h) λu r ⟨x,E,y,L,i⟩=>?_);exact ki (j pos f r Z E _ y i) λM O ⟨xs,F,l,z,G⟩=>⟨x::xs,F,l,.cons L z,G⟩
def Sy(t:TA):TE:=λZ H Q=>t Z H λxs a=>xs.length<=sizeLine/\∀p,a p=Y->Q (.ref p) (ky a p (.tup xs))
def Sz(t:TA):TE:=λZ H Q=>t Z H λxs a=>xs.length<=sizeLine/\∀p,a p=Y->Q (.ref p) (ky a p (.lst xs))
def BY{x1}(h:PA X es t):PE X (.Tuple es x1 pos) (Sy t):=by intro B s Z H Q a l;refine wpAny_Tuple_spliced (ki (h pos B s Z H _ a l) λj f ⟨xs,y,i,r,z,q⟩=>⟨by rw[<-r.length];exact z,?_⟩);have hf:=i.hok.fresh (i4 _);refine⟨.ref f.heap.objs.size,ky y f.heap.objs.size (.tup xs),i.laid (t':=f.toks) (λb u e=>k_ _ e) (i4 _) ?_,rfl,q _ hf⟩;exact⟨z,j,r,⟨_,rb _ rfl,rfl,⟨_,rfl⟩,rfl⟩⟩
def JU(h:PA X es t):PE X (.List es pos) (Sz t):=by intro B s Z H Q a l;refine wpAny_List_spliced (ki (h pos B s Z H _ a l) λj f ⟨xs,y,i,r,z,q⟩=>⟨by rw[<-r.length];exact z,?_⟩);have hf:=i.hok.fresh (i4 _);refine⟨.ref f.heap.objs.size,ky y f.heap.objs.size (.lst xs),i.laid (t':=f.toks) (λb u e=>k_ _ e) (i4 _) ?_,rfl,q _ hf⟩;exact⟨z,j,0,r,rb _ rfl⟩
end
abbrev Sp:=List V->Hp->VK->XK->Prop
abbrev EU:=List Env->Hp->Shared->XK->Value->Shared->Prop
structure FP(P:Program)(w:World)(K:h_)(mg:WB)(base:Heap)(A:Around)(outer:List Env)(s:Shared)(H:Hp):Prop where
 frames:A.frames=J outer
 mod:Mod K mg base
 bs:∀b o,base.get? b=J o->s.heap.get? b=J o/\H b=Y
 bsz:base.objs.size<=s.heap.objs.size
 funs:s.heap.FunFrames base outer
 frf:∀b∈y_ outer,H b=Y
 hok:HOk P w H s.heap
 bare:AllBare s.gens
inductive CE(outer:List Env)(P:Program)(w:World)(H:Hp)(s:Shared)(Q:VK)(u:Value)(s':Shared):Prop
 |mk(v:V)(H':Hp)(o:s'.os=s.os)(b:AllBare s'.gens)(n:Un (y_ outer) [] H H' s.heap s'.heap)(k:HOk P w H' s'.heap)(r:aZ v u)(q:Q v H'):CE outer P w H s Q u s'
def CR(f:EU)(outer:List Env)(P:Program)(w:World)(H:Hp)(s:Shared)(Q:VK)(E:XK)(r:Result)(a:Shared):Prop :=
 match r with
 |.ok (.ret u)=>CE outer P w H s Q u a
 |.ok _=>False
 |.error e=>f outer H s E e a
structure FnOk(P:Program)(w:World)(K:h_)(mg:WB)(base:Heap)(CX:EU)(k:Nat)(f:Addr)(fd:FuncData)(ps:WM)(sp:Sp):Prop where
 len:∀vs H Q E,sp vs H Q E->vs.length=ps.length
 run:∀(A:Around)(outer:List Env)(s:Shared)(H:Hp)(args:Args)(us:WT)(vs:List V)(Q:VK)(E:XK),Room k A->FP P w K mg base A outer s H->BindsTo s fd args (ps.zip us)->aD vs us->sp vs H Q E ->
  codeAny (model P w) A (.call (.ref f) args) (CR CX outer P w H s Q E) s
def FnOk.mono{P:Program}{w:World}{K:h_}{mg:WB}{base:Heap}{l:EU}{j k:Nat}{f:Addr}{fd:FuncData}{r:WM}{i:Sp}(F:FnOk P w K mg base l j f fd r i)(h:j<=k):
  FnOk P w K mg base l k f fd r i:=⟨F.len,λA outer s H a y z Q E u=>F.run A outer s H a y z Q E (u.mono h)⟩
def FnOk.imp{P:Program}{w:World}{K:h_}{mg:WB}{base:Heap}{r:EU}{k:Nat}{f:Addr}{fd:FuncData}{u:WM}{l i:Sp}(F:FnOk P w K mg base r k f fd u l)(h:∀a H Q E,i a H Q E->l a H Q E):FnOk P w K mg base r k f fd u i :=
 ⟨λa H Q E q=>F.len a H Q E (h _ _ _ _ q),λA outer s H j B a Q E y C z hv G=>F.run A outer s H j B a Q E y C z hv (h _ _ _ _ G)⟩
section
variable{X:Cx}{Oa:List (Addr × Obj)}{Z:St}{H:Hp}{s s':Shared}
def Inv.env0(a:Inv X Oa Z H s):FP X.prog X.w X.K X.mg X.base X.A X.stack s H :=
 ⟨a.ok.frames,a.ok.mod,a.bs,ny a.ok.bsz a.sz,a.stack,a.stkFree,a.hok,a.bare⟩
def Inv.after(a:Inv X Oa Z H s)(h:CE X.stack X.prog X.w H s Q u s'):EP X Oa Z Q u s':=by obtain⟨v,j,os,bare,un,hok,r,q⟩:=h;obtain⟨i,g,d,t,f⟩:=s';obtain rfl:=os;exact⟨v,j,a.call (h':=i) (g':=g) (d':=d) (t':=t) un hok bare (λb z=>absurd z (by simp)),r,q⟩
end
def qR(K:h_)(fd:FuncData)(i:WM)(f:WT):Prop :=
 ∀(s:Shared)(a:WT),K.In s.heap->(a++f).length=i.length->BindsTo s fd ⟨a,[]⟩ (i.zip (a++f))
def qR.all{K:h_}{fd:FuncData}{f:WM}(h:∀a:WT,a.length=f.length->bindArgs fd ⟨a,[]⟩=pure (f.zip a)):qR K fd f []:=λs a _ i=>by
 rw[Jn]at i ⊢;exact .of_eq (h a i)
section
variable{X:Cx}{CX:EU}{k:Nat}{f C:Addr}{fd:FuncData}{ps:WM}{sp:Sp}{dvs:List V}{ds:WT}{E:XK}{x m:Str}{p pos apos:Pos}{e o:Expr}{es:WX}{ta:TE}{t:TA}
end
section
variable{X:Cx}{CX:EU}{k:Nat}{f C:Addr}{fd:FuncData}{ps ks:WM}{sp:Sp}{E:XK}{x m:Str}{p pos apos kpos:Pos}{e o:Expr}{es:WX}{kws:List Keyword}{te ta:TE}{t tk:TA}{nm:Option Str}{g:WT->WT->WT}{gV:List V->List V->List V}
end
structure n_(N P:WM)(sc:Scope):Prop where
 kind:sc.kind=.function
 co:sc.isCoroutine=T
 gen:sc.isGenerator=T
 nd:N.Nodup
 pre:N.take P.length=P
 par:∀x∈P,sc.names.lookup x=J .local\/sc.names.lookup x=J .cell
 nofree:∀y∈sc.names,y.2≠.free
def t6{kindOf:Str->Option NameKind}{x:Str}:∀{binds:List (Str×Value)}{m:WB},(∀v,(x,v)∉binds)->bindL kindOf binds m x=m x
 |[],_,_=>rfl
 |(n,v)::r,m,h=>by
  unfold bindL;rw[t6 λw a=>h w (mw _ a)];split
  .have:x≠n:=by rintro rfl;exact h v xg
   simp[this]
  .rfl
def sY{kindOf:Str->Option NameKind}{x:Str}:∀{binds:List (Str×Value)}{m:WB},(∀v,(x,v)∉binds)->bindC kindOf binds m x=m x
 |[],_,_=>rfl
 |(n,v)::r,m,h=>by
  unfold bindC;rw[sY λw a=>h w (mw _ a)];split
  .rfl
  .have:x≠n:=by rintro rfl;exact h v xg
   simp[this]
def tW{kindOf:Str->Option NameKind}{x:Str}{v:Value}:∀{P:WM}{a:WT}{i:Nat}{m:WB},P.Nodup->P[i]?=J x->a[i]?=J v->kindOf x=J .local ->
  bindL kindOf (P.zip a) m x=J v
 |p::P,w::a,0,m,nd,f,j,l=>by
  simp at f j;subst f;subst j;show bindL kindOf ((p,w)::P.zip a) m p=_;unfold bindL;rw[t6 λv hv=>(Fz.mp nd).1 (R4 hv).1,c_ l];simp
 |p::P,w::a,i+1,m,nd,f,j,l=>by
  unfold bindL;exact tW (Fz.mp nd).2 (by simpa using f) (by simpa using j) l
def tZ{kindOf:Str->Option NameKind}{x:Str}{v:Value}:∀{P:WM}{a:WT}{i:Nat}{m:WB},P.Nodup->P[i]?=J x->a[i]?=J v->kindOf x≠J .local ->
  bindC kindOf (P.zip a) m x=J v
 |p::P,w::a,0,m,nd,f,j,l=>by
  simp at f j;subst f;subst j;show bindC kindOf ((p,w)::P.zip a) m p=_;unfold bindC;rw[sY λv hv=>(Fz.mp nd).1 (R4 hv).1,f_ l];simp
 |p::P,w::a,i+1,m,nd,f,j,l=>by
  unfold bindC;exact tZ (Fz.mp nd).2 (by simpa using f) (by simpa using j) l
def start(N:WM)(a:List V):St:=a.map J++List.replicate (N.length-a.length) Y
def vq(r:EU)(P:Program)(w:World)(K:h_)(mg:WB)(base:Heap)(N:WM)(i:Str)(a:Scope)(f:Addr)(l:Value)(A:Around)(outer:List Env)(s:Shared)(H:Hp)(E:XK):Cx where
 prog:=P
 w:=w
 K:=K
 mg:=mg
 base:=base
 A:=A.deeper (envOfC i a s.heap.objs.size f l)
 N:=N
 s₀:=s
 H₀:=H
 env:=envOfC i a s.heap.objs.size f l
 outer:=outer
 stack:=envOfC i a s.heap.objs.size f l::outer
 ex:=[]
 calm:=I
 fn:=λ_=>I
 pn:=[]
 xe:=λe y=>wpAny (model P w) (A.deeper (envOfC i a s.heap.objs.size f l)) (leaving (envOfC i a s.heap.objs.size f l) e) (λ_ j=>r outer H s E e j) (λu j=>r outer H s E u j) y
def wA{a:Scope}{n:Nat}{x:Str}(h:a.names.lookup x=J .cell):∃c,(cellsFrom n a.names []).lookup x=J c:=by have q:=PySem.W.cellsFrom_some a.names n [] (.inl h);exact Option.isSome_iff_exists.mp q
def B9{CX:EU}{P:Program}{w:World}{K:h_}{mg:WB}{base:Heap}{N L:WM}{l:Str}{j:Scope}{f:Addr}{W:Value}{A:Around}{outer:List Env}{s Z:Shared}{H:Hp}{E:XK}{X:WT}{F:List V}(S:n_ N L j)(hd:A.handled=Y)(C:FP P w K mg base A outer s H)(hl:F.length=L.length)(r:aD F X)(x:InCallC s s.heap.objs.size (bindL (envOfC l j s.heap.objs.size f W).kindOf (L.zip X) λ_=>Y) (cellsFrom (s.heap.objs.size+1) j.names []) (bindC (envOfC l j s.heap.objs.size f W).kindOf (L.zip X) λ_=>Y) Z):
  Inv (vq CX P w K mg base N l j f W A outer s H E) [] (start N F) H Z:=by
 have al:L.length<=N.length:=by have:=congrArg List.length S.pre;rw[HY]at this;lia
 obtain⟨R,tk,rfl,hk⟩:=x.done;have G:∀b:Addr,b∉(vq CX P w K mg base N l j f W A outer s H E).ex:=λb z=>absurd (show b∈([]:WS)from z) (by simp)
 refine⟨⟨C.mod,S.kind,rfl,rfl,i4 _,λy z c R B=>?_,λy Q=>?_,λy c _ h=>?_,λ_=>hd,Around.frames_deeper C.frames,.inr ⟨rfl,rfl⟩,λb z=>absurd z (G b),C.bs,C.bsz,λb _ _=>G b,λb z=>absurd z (G b),C.funs,C.frf⟩,
  rfl,C.bare,Un.kept hk,⟨_,x.toInCall.ns,λi y v R B h3=>?_⟩,λy c h=>⟨_,x.cell y c h⟩,C.hok.fresh (i4 _),λy c h=>?_,λp M=>absurd (show p∈([]:WU)from M) (by simp),C.hok.kept hk,?_⟩
 .exact name_of_addr x.apart (PySem.mem_of_lookup R) (PySem.mem_of_lookup B)
 .rcases Q with Q|Q
  .exact wA Q
  .exact absurd rfl (S.nofree _ (PySem.mem_of_lookup Q))
 .exact wr (x.above y c (PySem.mem_of_lookup h))
 .have U:i<F.length:=by
   unfold start at B;by_cases U:i<F.length
   .exact U
   .rw[Eb (by simpa using U)]at B;rw[Mz]at B
    split at B<;>cases B
  have ha:F[i]?=J v:=by
   unfold start at B;rw[q7 (by simpa using U),oe]at B
   cases e:F[i]? with
   |none=>rw[e]at B;cases B
   |some a=>rw[e]at B;cases B;rfl
  obtain⟨u,hu,rv⟩:=r.get ha;have M:L[i]?=J y:=by rw[<-S.pre,QB ⋯];exact R
  have O:L.Nodup:=by rw[<-S.pre];exact S.nd.sublist (List.take_sublist _ _)
  refine⟨u,rv,?_⟩;rcases S.par y (wj M)with k|k
  .exact .inl ⟨k,tW O M hu k⟩
  .obtain⟨c,e⟩:=wA k;refine .inr ⟨.inl k,c,e,?_⟩;have q:=x.cell y c e;rw[tZ O M hu (by show j.names.lookup y≠_;rw[k];decide)]at q;exact q
 .exact C.hok.fresh (wr (x.above y c (PySem.mem_of_lookup h)))
 .delta start;show _=N.length;rw[Em,oF,Nj];lia
def NW{CX:EU}{P:Program}{w:World}{K:h_}{mg:WB}{base:Heap}{k:Nat}{f:Addr}{G i:Str}{z:Arguments}{B:List Stmt}{a:Scope}{dV kV U pm l ct oc:Value}{an od:Option Addr}{as:Array (WV)}{N Z:WM}{sp:Sp}(lk:K.lookup f=J ⟨oc,od,.func (PySem.W.fnOf G i z B a dV kV U pm an l ct),as⟩)(ap:PySem.W.codeIn K l i=I)(S:n_ N Z a)(len:∀C H Q E,sp C H Q E->C.length=Z.length)(M:∀(A:Around)(outer:List Env)(s:Shared)(H:Hp)(C:List V)(Q:VK)(E:XK),Room k (A.deeper (envOfC i a s.heap.objs.size f l))->sp C H Q E ->
   ∃t,PSs (vq CX P w K mg base N i a f l A outer s H E) B t/\t { nx:=λ_ F=>Q .non F,rt:=Q} (start N C) H):
  FnOk P w K mg base CX (k+1) f (PySem.W.fnOf G i z B a dV kV U pm an l ct) Z sp:=by
 refine⟨len,λA outer s H ay us C Q E hr R hb r W=>?_⟩;have hl:=len _ _ _ _ W;have KX:=R.mod.kin.keeps λb o e=>(R.bs b o e).1;have ax:=R.mod.nolimit.keeps λb o e=>(R.bs b o e).1;have L:∀y∈Z.zip us,a.names.lookup y.1=J .local\/(a.names.lookup y.1=J .cell/\((cellsFrom (s.heap.objs.size+1) a.names []).lookup y.1).isSome=I):=λ⟨n,v⟩ hy=>by
  rcases S.par n (R4 hy).1 with q|q
  .exact .inl q
  .exact .inr ⟨q,PySem.W.cellsFrom_some _ _ _ (.inl q)⟩
 refine codeAny_call_function hr.depth (KX _ _ lk) rfl S.co S.gen rfl (PySem.W.codeRec_of KX ap) (hb _ _ _ _ ?_);refine wpAny_newFunctionEnv_cells S.kind L λenv he s1 x=>?_;subst he;refine⟨ax.keeps x.toInCall.keep,codeAny_func ?_⟩;obtain⟨t,ht,hq⟩:=M A outer s H C Q E (hr.deeper _) W;have al:Inv (vq CX P w K mg base N i a f l A outer s H E) [] (start N C) H s1:=B9 S hr.hd R hl r x;refine wpAny_mono (ht [] s1 (start N C) H _ al hq) (λfl s' O=>?_) λe s' O=>O;have fin:∀{X:St}{F:Hp}{v:V}{u:Value},Inv (vq CX P w K mg base N i a f l A outer s H E) [] X F s'->aZ v u->Q v F->CE outer P w H s Q u s' :=
  λ{X F v u} j rv q=>⟨v,F,j.os,j.bare,j.base,j.hok,rv,q⟩
 cases fl with
 |ret u =>
  obtain⟨v,X,F,j,rv,q⟩:=O;exact fin j rv q
 |next =>
  obtain⟨X,F,j,q⟩:=O;exact fin (v:=V.non) j rfl q
 |brk =>
  obtain⟨_,_,_,q⟩:=O;exact False.elim q
 |cont =>
  obtain⟨_,_,_,q⟩:=O;exact False.elim q
section
variable{X:Cx}{x:Str}{p pos:Pos}{e:Expr}{es:WX}{t:TA}{id T:String}{r:List V->Hp->VK->Prop}
def SA(r:List V->Hp->VK->Prop)(t:TA):TE:=λZ H Q=>t Z H λf a=>r f a Q
def jZ(u:cK X (.builtin id) r)(B:Gl X x)(y:X.mg x=Y)(hv:bootBuiltins x=J (.builtin id))(F:PA X (e::es) t)(L:x≠"__name__":=by decide)(i:(x==("__debug__":Str))=false:=by decide)(O:starEach (e::es) X.env=(false,eval e X.env)::starEach es X.env:=by rfl)(f:(backTo pos (starEach es X.env)).any (·.1)=false:=by rfl):PE X (.Call (.Name x p) (e::es) [] pos) (SA r t):=by
 intro j s Z H Q a h;refine wpAny_Call_Name_kw (iO a B y hv ?_ L i);exact PyProof.Rows.callWith_builtin1 (ki (F pos j s Z H _ a h) λC z ⟨M,G,E,P,l⟩=>u j z Z G M C Q E P l) O f
def j6(u:cK X (.type T) r)(B:Gl X x)(y:X.mg x=Y)(hv:bootBuiltins x=J (.type T))(F:PA X (e::es) t)(L:x≠"__name__":=by decide)(i:(x==("__debug__":Str))=false:=by decide)(O:starEach (e::es) X.env=(false,eval e X.env)::starEach es X.env:=by rfl)(f:(backTo pos (starEach es X.env)).any (·.1)=false:=by rfl):PE X (.Call (.Name x p) (e::es) [] pos) (SA r t):=by
 intro j s Z H Q a h;refine wpAny_Call_Name_kw (iO a B y hv ?_ L i);exact PyProof.Rows.callWith_type1 (ki (F pos j s Z H _ a h) λC z ⟨M,G,E,P,l⟩=>u j z Z G M C Q E P l) O f
end
end L2
namespace HT
open PyProof.Rows
section
open PySem.SeqAt
open PySem.AutoSeq1 (wpAny_loadPart')
open PySem.MeetsSeq PySem.MeetsSeq2 PySem.MeetsSeq3
end
section
variable{prog:Program}{w:World}{A:Around}{E:WA}{s:Shared}
def FQ(M:IsTup s.heap t vs.toArray)(H:IsTup s.heap b ws.toArray)(hv:vs≠[])(L:ws=[]->Q (.ref t) s)(F:ws≠[]->Q (.ref s.heap.objs.size) { s with heap:=s.heap.push { cls:=.type "tuple",data:=.seq (vs++ws).toArray}})(r:vs.length+ws.length<=sizeLine):wpAny (model prog w) A (binaryOp .Add (.ref t) (.ref b)) Q E s:=by
 obtain⟨⟨cls,C,data,sl⟩,l,G,n,hd⟩:=id M;obtain⟨⟨B,i,data2,f⟩,a,u,z,y⟩:=id H;subst G hd u y;have e:vs.toArray++ws.toArray=(vs++ws).toArray:=by simp
 by_cases j:ws=[]
 .exact concat_meets ⟨_,l,rfl⟩ ⟨_,a,rfl⟩ noFill_tuple_add seq_tuple_add PySem.F.slot_tuple_add PySem.F.entry_tuple_add (PySem.F.args_tuple_add_2 _ _)
   (tuple_addW1 t b vs.toArray ws.toArray n z C i sl f (by simpa using hv) (by simp[j])) ⟨l,a,L j⟩
 .refine concat_meets ⟨_,l,rfl⟩ ⟨_,a,rfl⟩ noFill_tuple_add seq_tuple_add PySem.F.slot_tuple_add PySem.F.entry_tuple_add (PySem.F.args_tuple_add_2 _ _)
   (tuple_addW2 t b vs.toArray ws.toArray n z C i sl f (by simpa using hv) (by simpa using j) (by exact r)) ⟨l,a,?_⟩
  rw[e];exact F j
def k0(n d:Nat):WW->Nat
 |none=>d
 |some v=>if v<0 then(v+(n:Int)).toNat else min v.toNat n
def uL(n d:Nat):k0 n d Y=d:=rfl
def xF(n d k:Nat):k0 n d (J (k:Int))=min k n:=rfl
def xq(v:Int)(n d:Nat):(if v<0 then max (v+(n:Int)) 0 else min v (n:Int))=((k0 n d (J v):Nat):Int):=by
 show(if v<0 then max (v+(n:Int)) 0 else min v (n:Int))=(((if v<0 then(v+(n:Int)).toNat else min v.toNat n):Nat):Int)
 grind
def zv(lo a:WW)(n:Nat):Builtin.Slice.sliceAdjust lo a 1 (n:Int)=(((k0 n 0 lo:Nat):Int),((k0 n n a:Nat):Int)):=by
 refine Prod.ext ?_ ?_
 .cases lo with
  |none=>rfl
  |some v=>exact xq v n 0
 .cases a with
  |none=>rfl
  |some v=>exact xq v n n
def zH(i j:Nat):Builtin.Slice.slicePlaces (i:Int) (j:Int) 1=j-i:=by
 unfold Builtin.Slice.slicePlaces;have a:(1:Int)>0:=by lia
 simp only[a,if_true,Int.ediv_one]
 split<;>lia
def qz(p:IsPart v o)(h:Q o s):wpAny (model prog w) A (Builtin.Slice.slicePartIndex v) Q E s:=by
 cases p with
 |none=>exact slicePart_none h
 |int i t=>exact slicePart_int h
def pD{sl:Addr}{l j:Value}{lo a:WW}{n:Nat}{Q:Int×Int×Nat->Shared->Prop}(r:s.heap.IsSliceOf sl l j .none)(y:IsPart l lo)(u:IsPart j a)(h:Q (((k0 n 0 lo:Nat):Int),1,k0 n n a-k0 n 0 lo) s):wpAny (model prog w) A (Builtin.Slice.sliceApplied (.ref sl) (pure (n:Int))) Q E s:=by
 obtain⟨os,f,z,i⟩:=id r;refine e_ (e_ (wpAny_field f i rfl (e_ (wpAny_field f i rfl (e_ (wpAny_field f i rfl (i5 ?_)))))));refine e_ (slicePart_none ?_);refine e_ (qz y (e_ (qz u (e_ (i5 ?_)))));show wpAny _ _ (match Builtin.Slice.sliceAdjust lo a 1 (n:Int)with | (lo,a)=>pure (lo,(1:Int),Builtin.Slice.slicePlaces lo a 1)) _ _ s;rw[zv lo a n];show wpAny _ _ (pure (((k0 n 0 lo:Nat):Int),(1:Int),Builtin.Slice.slicePlaces ((k0 n 0 lo:Nat):Int) ((k0 n n a:Nat):Int) 1)) _ _ s;rw[zH];exact i5 h
def C7(xs:Array Value)(i k:Nat):((List.range k).filterMap λ(m:Nat)=>xs[((i:Int)+(m:Int)*1).toNat]?).toArray=((xs.toList.drop i).take k).toArray:=by
 have e:(λ(m:Nat)=>xs[((i:Int)+(m:Int)*1).toNat]?)=λm=>xs[i+m]?:=by grind
 rw[e]
 have:=pick_run xs i k
 rw[List.filterMap_map]at this;have e2:((λx=>xs[x]?)∘λx=>i+x)=λm=>xs[i+m]?:=rfl;rw[e2]at this;rw[this]
def oV{t sl:Addr}{items:Array Value}{B y:Value}{lo a:WW}{Q:WA}(i:IsTup s.heap t items)(z:s.heap.IsSliceOf sl B y .none)(G:IsPart B lo)(H:IsPart y a)(F:¬(k0 items.size 0 lo=0/\k0 items.size items.size a=items.size))(h:Q (.ref s.heap.objs.size) { s with heap:=s.heap.push { cls:=.type "tuple",data:=.seq ((items.toList.drop (k0 items.size 0 lo)).take (k0 items.size items.size a-k0 items.size 0 lo)).toArray}})(C:items.size<=sizeLine):wpAny (model prog w) A (getItem (.ref t) (.ref sl)) Q E s:=by
 have f:sizeOk (.seq ((items.toList.drop (k0 items.size 0 lo)).take (k0 items.size items.size a-k0 items.size 0 lo)).toArray):=by show((items.toList.drop (k0 items.size 0 lo)).take (k0 items.size items.size a-k0 items.size 0 lo)).toArray.size<=sizeLine;rw[oh,HY,Eo,DB];lia
 obtain⟨os,j,l,L⟩:=id z;have r:s.TypeIs (.ref sl) "slice":=⟨os,j,l⟩;unfold getItem
 try with_reducible refine wpAny_holding ?_
 refine e_ (wpAny_sequenceKey i.typeIs (by decide) ?_)
 refine e_ (wpAny_callSpecial?_slot i.typeIs PyProof.Rows.slot_tuple_getitem
  (wpAny_call_entry PyProof.Rows.slot_tuple_getitem i.typeIs entry_tuple_getitem ?_ (args_tuple_getitem _ _)))
 show wpAny _ _ (Builtin.Tuple.tupleItemsOf (.ref t) >>= _) _ _ s;refine e_ (tupleItemsOf_ i ?_);refine e_ (wpAny_typeOf r ?_);refine e_ (pD z G H ?_);have u:¬((((k0 items.size 0 lo:Nat):Int)==0&&(1:Int)==1&&(k0 items.size items.size a-k0 items.size 0 lo)==items.size)=I):=by intro q;rw[MP,MP]at q;have M:=eq_of_beq q.1.1;have O:=eq_of_beq q.2;exact F ⟨⋯,⋯⟩
 show wpAny _ _ (if(((k0 items.size 0 lo:Nat):Int)==0&&(1:Int)==1&&(k0 items.size items.size a-k0 items.size 0 lo)==items.size)=I then _ else _) _ _ s;rw[f_ u,C7]
 first
  |exact e_ (m:=Builtin.Tuple.tupleExact _) (wpAny_newObj_type (e_ (i5 (i5 ⟨_,rfl,i5 h⟩))) f)
end
end HT
namespace L2
open PySem.Spec PyProof.Rows
abbrev TO:=St->Hp->(WW->Hp->Prop)->Prop
def PO(X:Cx)(e:Option Expr)(t:TO):Prop :=
 ∀(a:WU)(s:Shared)(Z:St)(H:Hp)(Q:WW->Hp->Prop),Inv X a Z H s->t Z H Q ->
  wpAny (model X.prog X.w) X.A (evalPart e X.env) (λu i=>∃o f,Inv X a Z f i/\IsPart u o/\Q o f) X.xe s
def FR:TO:=λ_ H Q=>Q Y H
def NX(t:TE):TO:=λZ H Q=>t Z H λx a=>∃i,x=.int i/\Q (J i) a
def zg:∀{a:WT},aD (ns.map V.int) a->IntsAre a ns:=by
 induction ns with
 |nil=>intro a r;cases r;exact .nil
 |cons n ns f =>
  intro a r
  cases r with
  |cons j i =>
   obtain⟨t,e⟩:=j;subst e;exact .cons n t (f i)
section
variable{X:Cx}{e:Expr}{te:TE}{lo hi:Option Expr}{tl th:TO}{pos p2:Pos}
def FS:PO X Y FR:=by intro f s Z H Q a h;rw[evalPart_none];exact i5 ⟨Y,H,a,.none,h⟩
def FT(h:PE X e te):PO X (J e) (NX te):=by intro y s Z H Q a j;refine ki (h y s Z H _ a j) λu B ⟨x,r,l,z,f⟩=>?_;obtain⟨i,rfl,q⟩:=f;obtain⟨t,rfl⟩:=z;exact⟨J i,r,l,.int i t,q⟩
def QV(X:Cx)(r:V->WW->WW->Hp->VK->Prop):Prop :=
 ∀(f:WU)(s:Shared)(Z:St)(H:Hp)(x:V)(v j i:Value)(lo hi:WW)(sl:Addr)(Q:VK),Inv X f Z H s->aZ x v->s.heap.IsSliceOf sl j i .none->IsPart j lo->IsPart i hi->r x lo hi H Q ->
  ∃a id,typeLookup (.type a) "__getitem__"=pure (J (.builtin id))/\s.TypeIs v a/\wpAny (model X.prog X.w) X.A (getItem v (.ref sl)) (EP X f Z Q) X.xe s
def VS(r:V->WW->WW->Hp->VK->Prop)(te:TE)(tl th:TO):TE:=λZ H Q=>te Z H λx a=>tl Z a λl f=>th Z f λu i=>r x l u i Q
def Ci(E:QV X r)(he:PE X e te)(hl:PO X lo tl)(R:PO X hi th):PE X (.Subscript e (.Slice lo hi Y p2) pos) (VS r te tl th):=by intro f s Z H Q i h;refine Subscript_ (ki (he f s Z H _ i h) λv M ⟨x,W,P,r1,C⟩=>?_);refine wpAny_Slice (ki (hl f M Z W _ P C) λy s2 ⟨l,H2,G,F,q2⟩=>ki (R f s2 Z H2 _ G q2) λj a ⟨u,z,L,pu,U⟩=>?_);refine i5 ?_;have B:Inv X f Z z { a with heap:=a.heap.push { cls:=.type "slice",data:=.fields #[y,j,.none]}}:=L.kept (t':=a.toks) λb ob q=>k_ _ q;obtain⟨al,id,hT,S,O⟩:=E f { a with heap:=a.heap.push { cls:=.type "slice",data:=.fields #[y,j,.none]}} Z z x v y j l u a.heap.objs.size Q B r1 (Heap.IsSliceOf.new ..) F pu U;exact tail_any S hT O (by with_unfolding_all rfl)
def pB(xs:List V)(lo hi:WW):List V:=(xs.drop (HT.k0 xs.length 0 lo)).take (HT.k0 xs.length xs.length hi-HT.k0 xs.length 0 lo)
def oX(xs:List V)(lo hi:WW):(pB xs lo hi).length<=xs.length:=by delta pB;rw[HY,Eo];lia
def SD(K:h_):V->WW->WW->Hp->VK->Prop:=λx lo hi H Q=>∃a xs,x=.ref a/\SqT K H a xs /\
 ¬(HT.k0 xs.length 0 lo=0/\HT.k0 xs.length xs.length hi=xs.length)/\∀p,H p=Y->Q (.ref p) (ky H p (.tup (pB xs lo hi)))
def JV:QV X (SD X.K):=by
 intro O s Z H x v M G lo hi sl Q i B F z C h;obtain⟨a,xs,rfl,E,y,q⟩:=h;cases B;obtain⟨j,r,l,u⟩:=i.tuple E;have f:j.toArray.size=xs.length:=by exact r.length.symm
 refine⟨"tuple",_,PyProof.Rows.slot_tuple_getitem.lookup,l.typeIs,?_⟩;refine HT.oV l F z C (by rw[f];exact y) ?_ (by rw[f];exact u);rw[f];refine⟨.ref s.heap.objs.size,_,i.laid (t':=s.toks) (λb L q=>k_ _ q) (i4 _) ?_,rfl,q _ (i.hok.fresh (i4 _))⟩;exact⟨ny (oX xs lo hi) u,_,(r.drop (HT.k0 xs.length 0 lo)).take (HT.k0 xs.length xs.length hi-HT.k0 xs.length 0 lo),jH.new _ _⟩
def NY(K:h_):R2:=λx y H Q=>∃a b xs ys,x=.ref a/\y=.ref b/\SqT K H a xs/\SqT K H b ys/\xs≠[]/\xs.length+ys.length<=sizeLine /\
 (ys=[]->Q (.ref a) H)/\(ys≠[]->∀p,H p=Y->Q (.ref p) (ky H p (.tup (xs++ys))))
def aD.nil_iff(r:aD xs us):us=[]↔xs=[]:=by
 cases r with
 |nil=>simp
 |cons _ _=>simp
def FU:OpR X (binaryOp .Add) (NY X.K):=by intro S s Z H x y v u Q f F O h;obtain⟨a,b,xs,ys,rfl,rfl,G,E,M,l,B,P⟩:=h;cases F;cases O;obtain⟨C,j,L,_⟩:=f.tuple G;obtain⟨r,i,p2,_⟩:=f.tuple E;refine HT.FQ L p2 (λz=>M (j.nil_iff.mp z)) (λz=>⟨.ref a,H,f,rfl,B (i.nil_iff.mp z)⟩) (λz=>?_) (by rw[<-j.length,<-i.length];exact l);refine⟨.ref s.heap.objs.size,_,f.laid (t':=s.toks) (λb R q=>k_ _ q) (i4 _) ?_,rfl,P (λw=>z (i.nil_iff.mpr w)) _ (f.hok.fresh (i4 _))⟩;exact⟨by rw[Em];exact l,_,j.append i,jH.new _ _⟩
end
def qp(n:Nat)(i:Int):WD:=if 0<=i then(if i<n then J i.toNat else Y)else if -(n:Int)<=i then J (i+n).toNat else Y
def l0{α:Type}(xs:List α)(i:Int):Option α:=(qp xs.length i).bind λj=>xs[j]?
def xI(h:qp n i=J j):seqIndex? i n=J j/\j<n /\ -(n:Int)<=i/\i<n:=by
 unfold qp at h;by_cases f:0<=i
 .rw[c_ f]at h;by_cases a:i<n
  .rw[c_ a]at h;have e:=Option.some.inj h;exact⟨by rw[seqIndex_of f a,e],⋯,⋯,a⟩
  .rw[f_ a]at h;cases h
 .rw[f_ f]at h;by_cases a:-(n:Int)<=i
  .rw[c_ a]at h;have e:=Option.some.inj h;exact⟨by rw[seqIndex_neg ⋯ a,e],⋯,a,⋯⟩
  .rw[f_ a]at h;cases h
def rB(h:l0 xs i=J v):∃j,seqIndex? i xs.length=J j/\xs[j]?=J v/\j<xs.length /\ -(xs.length:Int)<=i/\i<xs.length:=by
 unfold l0 at h
 cases e:qp xs.length i with
 |none=>rw[e]at h;cases h
 |some j =>
  rw[e]at h;obtain⟨a,l,r,f⟩:=xI e;exact⟨j,a,h,l,r,f⟩
def cG{α:Type}{xs:List α}{j:Nat}{v:α}(h:xs[j]?=J v):l0 xs (j:Int)=J v:=by
 have a:=(kx.mp h).1;have e:qp xs.length (j:Int)=J j:=by
  delta qp
  simp_all
 delta l0;rw[e];exact h
def oG(b:Expr):Prop:=∀o i,subscripted b T o i=operate [o,i] (getItem o i)
def IxR(X:Cx)(r:R2):Prop :=
 ∀(f a:Expr)(i:WU)(s:Shared)(Z:St)(H:Hp)(x y:V)(v u:Value)(Q:VK),Inv X i Z H s->aZ x v->aZ y u->r x y H Q ->
  subscripted a T v u=operate [v,u] (getItem v u)->wpAny (model X.prog X.w) X.A (subscriptTail f a v u) (EP X i Z Q) X.xe s
def FV(X:Cx)(id:String)(r:V->List V->Hp->VK->Prop):Prop :=
 ∀(f:WU)(s:Shared)(Z:St)(H:Hp)(x:V)(xs:List V)(v:Value)(a:WT)(Q:VK),Inv X f Z H s->aZ x v->aD xs a->r x xs H Q ->
  wpAny (model X.prog X.w) X.A (call (.builtin id) (v::a)) (EP X f Z Q) X.xe s
section
variable{X:Cx}{a b:Expr}{ta tb:TE}{pos:Pos}
def IxR.or(h:IxR X r)(E:IxR X r'):IxR X (λx y H Q=>r x y H Q\/r' x y H Q):=by
 intro f i z s Z H x y v u Q j B l q C;rcases q with q|q
 .exact h f i z s Z H x y v u Q j B l q C
 .exact E f i z s Z H x y v u Q j B l q C
def NZ{r:R2}(i:IxR X r)(B:PE X a ta)(j:PE X b tb)(L:oG b):PE X (.Subscript a b pos) (NM r ta tb):=by intro G s Z H Q f h;exact Subscript_ (JN B j f h λv u F x y C l z E q=>i a b G F Z C x y v u Q l z E q (L _ _))
def N0(K:h_):R2:=λx y H Q=>∃p xs i v,x=.ref p/\y=.int i/\SqL K H p xs/\l0 xs i=J v/\Q v H
def N1(K:h_):R2:=λx y H Q=>∃p xs i v,x=.ref p/\y=.int i/\SqT K H p xs/\l0 xs i=J v/\Q v H
def N2:R2:=λx y H Q=>∃z i c,x=.str z/\y=.int i/\z.length<=sizeLine/\l0 z.cps.toList i=J c/\Q (.str ⟨#[c]⟩) H
def FW:IxR X (N0 X.K):=by
 intro F G Oa s Z H x y v u Q f W ry h P;obtain⟨p,xs,i,z,rfl,rfl,hq,he,q⟩:=h;cases W;obtain⟨t,rfl⟩:=ry;obtain⟨C,r,B,hz⟩:=f.list hq;obtain⟨j,l,S,h3,R,U⟩:=rB he;obtain⟨w,M,E⟩:=r.get S;have hl:=r.length;have hn:=qL;have fin:EP X Oa Z Q w s:=⟨z,H,f,E,q⟩;by_cases O:0<=i
 .have L:i.toNat=j:=by
   rw[seqIndex_of O U]at l;exact Option.some.inj l
  exact item_listR B.isList O ⋯ (by rw[L];simpa using M) fin P
 .have L:(i+(C.toArray.size:Int)).toNat=j:=by
   rw[seqIndex_neg ⋯ R]at l;rw[oh,<-hl];exact Option.some.inj l
  exact subscriptTail_builtinR B.isList.typeIs slot_list_getitem.lookup
   (wpAny_getItem_list_neg B.isList ⋯ (by rw[oh]<;>lia) ⋯ (by rw[L];simpa using M) ⟨rfl,fin⟩) P
def JW:IxR X (N1 X.K):=by
 intro B C U s Z H x y v u Q f L S h hs;obtain⟨p,xs,i,z,rfl,rfl,O,R,q⟩:=h;cases L;obtain⟨t,rfl⟩:=S;obtain⟨G,r,E,hz⟩:=f.tuple O;obtain⟨j,M,F,h3,h4,h5⟩:=rB R;obtain⟨w,P,l⟩:=r.get F;have W:=r.length;have hn:=qL;have fin:EP X U Z Q w s:=⟨z,H,f,l,q⟩;exact subscriptTail_builtinR E.typeIs slot_tuple_getitem.lookup
  (getItem_tuple E ⋯ ⋯ (by rw[oh,<-W];exact M) (by simpa using P) ⟨rfl,fin⟩) hs
def JX:IxR X N2:=by
 intro l r Oa s Z H x y v u Q f G M h P;obtain⟨z,i,c,rfl,rfl,S,L,q⟩:=h;obtain⟨t,rfl⟩:=G;obtain⟨U,rfl⟩:=M;obtain⟨j,B,E,W,C,F⟩:=rB L;have O:z.cps.toList.length=z.length:=by simp[Str.length]
 rw[O]at B C F;have R:=qL
 exact tail_any (typeIs_str s z t) slot_str_getitem.lookup (getItem_str (by
  have e1:decide (i < -(2^63:Int))=T:=decide_eq_false ⋯;have e2:decide (i>=2^63)=T:=decide_eq_false ⋯
  rw[e1,e2,Bool.or_false]) (by rw[B];simpa using E) ⟨.str ⟨#[c]⟩,H,f.tok _,⟨_,rfl⟩,q⟩) P
def VT(K:h_):R2:=λx y H Q=>N0 K x y H Q\/N1 K x y H Q\/N2 x y H Q
def JY:IxR X (VT X.K):=FW.or (JW.or JX)
def yN(f:WT)(n j:Nat)(u:Value):Obj.mapSeq (·.setIfInBounds j u) { cls:=.type "list",data:=.seq f.toArray n}={ cls:=.type "list",data:=.seq (f.set j u).toArray n}:=by simp[Obj.mapSeq]
def Inv.lst{j:WU}{Z:St}{H:Hp}{s:Shared}{p:Addr}{xs:List V}(i:Inv X j Z H s)(h:H p=J (.lst xs)):
  ∃(f:WT) (n:Nat),aD xs f/\s.heap.get? p=J { cls:=.type "list",data:=.seq f.toArray n}/\xs.length<=sizeLine:=by
 obtain⟨z,f,n,r,e⟩:=i.hok p _ h;exact⟨f,n,r,e,z⟩
def Inv.lstUpd{z:WU}{Z:St}{H:Hp}{s:Shared}{p:Addr}{xs ys:List V}{j i:WT}{n y:Nat}{f:Obj->Obj}(l:Inv X z Z H s)(h:H p=J (.lst xs))(C:s.heap.get? p=J { cls:=.type "list",data:=.seq j.toArray n})(hf:f { cls:=.type "list",data:=.seq j.toArray n}={ cls:=.type "list",data:=.seq i.toArray y})(r:aD ys i)(E:ys.length<=sizeLine)(t:Nat):
  Inv X z Z (ky H p (.lst ys)) { s with heap:=s.heap.update p f,toks:=t}:=by
 have e:(s.heap.update p f).get? p=J { cls:=.type "list",data:=.seq i.toArray y}:=by rw[Nk f C (by rw[hf]<;>rfl),hf]
 refine l.write (by rw[h];trivial) (.inl rfl) (λb u B q=>(QE _ _ (Ne.symm B)).trans q) ⟨_,e⟩ ?_;exact⟨E,i,y,r,e⟩
def N3:V->V->V->Hp->(Hp->Prop)->Prop:=λo i v H Q=>∃p xs k j,o=.ref p/\i=.int k/\H p=J (.lst xs)/\qp xs.length k=J j/\Q (ky H p (.lst (xs.set j v)))
def Ct:NF X N3:=by
 intro Oa s Z H o i v ov iv u Q f P R O h;obtain⟨p,xs,k,j,rfl,rfl,E,U,q⟩:=h;cases P;obtain⟨t,rfl⟩:=R;obtain⟨l,n,r,z,S⟩:=f.lst E;obtain⟨y,W,F,M⟩:=xI U;have C:=r.length;have hn:=qL;have G :=
  f.lstUpd E z (yN l n j u) (r.set O j) (by rw[List.length_set];exact S) s.toks
 by_cases L:0<=k
 .have B:k.toNat=j:=by
   rw[seqIndex_of L M]at y;exact Option.some.inj y
  exact PySem.W.ki_setAt z L ⋯ (by rw[oh,<-C];exact M) (by rw[B];exact⟨_,G,q⟩)
 .have B:(k+(l.toArray.size:Int)).toNat=j:=by
   rw[seqIndex_neg ⋯ F]at y;rw[oh,<-C];exact Option.some.inj y
  exact PySem.W.ki_setBack z ⋯ (by rw[oh,<-C];exact F) ⋯ (by rw[B];exact⟨_,G,q⟩)
def uS(lo f:WW)(n:Nat):(sliceBounds lo f Y n).1=((HT.k0 n 0 lo:Nat):Int)/\(sliceBounds lo f Y n).2.1=((HT.k0 n n f:Nat):Int)/\(sliceBounds lo f Y n).2.2=1:=by
 refine⟨?_,?_,rfl⟩
 .cases lo with
  |none=>simp[sliceBounds,HT.k0]
  |some i =>
   simp only[sliceBounds,HT.k0,Option.getD_none,show(1:Int)>0 by decide,if_true];by_cases h:i<0
   .simp only[h,if_true]<;>lia
   .simp only[h,if_false]<;>lia
 .cases f with
  |none=>simp[sliceBounds,HT.k0]
  |some i =>
   simp only[sliceBounds,HT.k0,Option.getD_none,show(1:Int)>0 by decide,if_true];by_cases h:i<0
   .simp only[h,if_true]<;>lia
   .simp only[h,if_false]<;>lia
def ue(f:WT)(lo i:WW):slicePick f.toArray lo i Y=((f.drop (HT.k0 f.length 0 lo)).take (HT.k0 f.length f.length i-HT.k0 f.length 0 lo)).toArray:=by obtain⟨j,l,r⟩:=uS lo i f.toArray.size;unfold slicePick;rw[j,l,r];simp only[sliceRange_one,pick_run]<;>rfl
def SF(K:h_):V->WW->WW->Hp->VK->Prop:=λx lo f H Q=>∃a xs,x=.ref a/\SqL K H a xs/\∀p,H p=Y->Q (.ref p) (ky H p (.lst (pB xs lo f)))
def xP:QV X (SF X.K):=by intro O s Z H x v M G lo l sl Q f z F u B h;obtain⟨a,xs,rfl,E,q⟩:=h;cases z;obtain⟨y,r,j,C⟩:=f.list E;have i:=r.length;refine⟨"list",_,slot_list_getitem.lookup,j.isList.typeIs,?_⟩;refine wpAny_getItem_list_slice j.isList F u B .none (by simp) ?_ (by rw[oh]<;>lia);rw[ue,<-i];refine⟨.ref s.heap.objs.size,_,f.laid (t':=s.toks) (λb L q=>k_ _ q) (i4 _) ?_,rfl,q _ (f.hok.fresh (i4 _))⟩;exact⟨ny (oX xs lo l) C,_,0,(r.drop (HT.k0 xs.length 0 lo)).take (HT.k0 xs.length xs.length l-HT.k0 xs.length 0 lo),rb _ rfl⟩
def vc:cK X (.type "list") (λxs H Q=>∃p ys,xs=[.ref p]/\(SqL X.K H p ys\/SqT X.K H p ys)/\∀l,H l=Y->Q (.ref l) (ky H l (.lst ys))):=by
 intro P s Z H xs R Q i r h;obtain⟨p,ys,rfl,B,q⟩:=h;obtain⟨u,rfl,O⟩:=fw r;cases O;have fin:∀(f:WT),aD ys f->ys.length<=sizeLine->∀(j:Heap)(z:Nat),(∀b M,s.heap.get? b=J M->j.get? b=J M) ->
   j.get? s.heap.objs.size=J { cls:=.type "list",dict:=Y,data:=.seq f.toArray z,slots:=#[]}->EP X P Z Q (.ref s.heap.objs.size) { s with heap:=j}:=λf y C j z kp e =>
  ⟨.ref s.heap.objs.size,_,i.laid (t':=s.toks) kp (i4 _) (show ObjOk X.prog X.w _ j _ (.lst ys) from⟨C,f,z,y,e⟩),rfl,q _ (i.hok.fresh (i4 _))⟩
 rcases B with B|B
 .obtain⟨f,y,G,C⟩:=i.list B;have E:=y.length;obtain⟨o,L,F,n,hd⟩:=G.isList;exact call_list_seq p (.inl rfl) L F hd (λj z kp e=>fin f y C j z kp e) (by simp only[oh]<;>lia)
 .obtain⟨f,y,G,C⟩:=i.tuple B;have E:=y.length;obtain⟨o,L,F,n,hd⟩:=G;exact call_list_seq p (.inr rfl) L F hd (λj z kp e=>fin f y C j z kp e) (by simp only[oh]<;>lia)
def mM:cK X (.type "tuple") (λxs H Q=>∃p ys,xs=[.ref p]/\((SqL X.K H p ys/\∀l,H l=Y->Q (.ref l) (ky H l (.tup ys)))\/(SqT X.K H p ys/\Q (.ref p) H))):=by
 intro O s Z H xs M Q f r h;obtain⟨p,ys,rfl,h⟩:=h;obtain⟨u,rfl,G⟩:=fw r;cases G;rcases h with⟨z,q⟩|⟨z,q⟩
 .obtain⟨i,j,y,C⟩:=f.list z;have E:=j.length;refine call_tuple_list y.isList (λL kp=>?_) (by simp only[oh]<;>lia);have B:=f.kept (t':=s.toks) kp;have F :=
   B.laid (t':=s.toks) (λb o e=>k_ _ e) (i4 _) (show ObjOk X.prog X.w _ _ _ (.tup ys) from⟨C,i,j,jH.new _ _⟩)
  exact⟨.ref L.objs.size,_,F,rfl,q _ (B.hok.fresh (i4 _))⟩
 .obtain⟨i,j,y,C⟩:=f.tuple z;exact call_tuple_same y ⟨.ref p,H,f,rfl,q⟩
def SG(K:h_)(f:String)(x:V)(H:Hp):Prop:=match x with
 |.str _=>f="str"
 |.int _=>f="int"
 |.ref p=>(f="list"/\∃xs,SqL K H p xs)\/(f="tuple"/\∃o,K.lookup p=J o/\o.cls=.type "tuple"/\o.dict=Y) \/
   (f="dict"/\((∃i,H p=J (.dK i))\/∃i,H p=J (.dT i)))\/(f="set"/\∃S n,H p=J (.set S n))
 |_=>False
def JZ{G:WU}{Z:St}{H:Hp}{s:Shared}{l:String}{x:V}{v:Value}(f:Inv X G Z H s)(r:aZ x v)(ty:SG X.K l x H):
  s.TypeIs v l/\∀a,v=.ref a->∃B,s.heap.get? a=J B/\B.dict=Y:=by
 cases x with
 |str z =>
  obtain⟨t,rfl⟩:=r;cases(ty);exact⟨typeIs_str s z t,λ_ e=>nomatch e⟩
 |int i =>
  obtain⟨t,rfl⟩:=r;cases(ty);exact⟨typeIs_int s i t,λ_ e=>nomatch e⟩
 |ref p =>
  cases r;rcases ty with⟨rfl,xs,F⟩|⟨rfl,o,j,C,hd⟩|⟨rfl,j⟩|⟨rfl,S,n,j⟩
  .obtain⟨E,_,y,_⟩:=f.list F;refine⟨y.isList.typeIs,λa e=>?_⟩;cases e;obtain⟨o,n,e,c,hd,_⟩:=y;exact⟨o,e,hd⟩
  .refine⟨⟨o,f.kIn p o j,C⟩,λa e=>?_⟩;cases e;exact⟨o,f.kIn _ o j,hd⟩
  .have z:∃o,s.heap.get? p=J o/\o.ExactDict:=by
    rcases j with⟨u,j⟩|⟨u,j⟩
    .obtain⟨_,_,_,_,o,_,_,e,ex,_⟩:=f.hok p _ j;exact⟨o,e,ex⟩
    .obtain⟨_,_,_,_,o,_,_,e,ex,_⟩:=f.hok p _ j;exact⟨o,e,ex⟩
   obtain⟨o,e,ex⟩:=z;refine⟨⟨o,e,ex.1⟩,λa e2=>?_⟩;cases e2;exact⟨o,e,ex.2.1⟩
  .obtain⟨o,_,_,_,e,ex,_⟩:=f.hok p _ j;refine⟨⟨o,e,ex.1⟩,λa e2=>?_⟩;cases e2;exact⟨o,e,ex.2.1⟩
 |_=>exact False.elim ty
def VU(K:h_)(f:String)(r:V->List V->Hp->VK->Prop)(l:TE)(t:TA):TE:=λZ H Q=>l Z H λx i=>SG K f x i/\t Z i λxs j=>r x xs j Q
variable{o e:Expr}{es:WX}{to:TE}{t:TA}{name:Str}{apos cpos:Pos}{T id:String}{r:V->List V->Hp->VK->Prop}
def N4(pa:PlainAttrs T)(slot:Slot T name id)(y:typeOf (.builtin id)=pure (.type "method_descriptor"))(L:FV X id r)(P:PE X o to)(W:PA X (e::es) t)(j:attributeBase o name X.env (eval o X.env)=eval o X.env:=by rfl)(l:((backTo cpos (starEach (e::es) X.env)).all (λx=>!x.1)&&(backToKw cpos (keywordEach [] X.env)).all (λx=>x.1.isSome)
   && decide ((e::es).length+([]:List Keyword).length+(if([]:List Keyword).isEmpty then 0 else 1)<30))=I:=by rfl)(i:(apos.endLine==cpos.line)=I:=by rfl)(hs:starEach (e::es) X.env=(false,eval e X.env)::starEach es X.env:=by rfl)(f:(backTo cpos (starEach es X.env)).any (·.1)=false:=by rfl):
  PE X (.Call (.Attribute o name apos) (e::es) [] cpos) (VU X.K T r to t):=by
 intro z s Z H Q u h;refine wpAny_Call_method_late j l i rfl (ki (P z s Z H _ u h) λv R ⟨x,H1,B,C,ty,F⟩=>?_);obtain⟨O,G⟩:=JZ B C ty;refine⟨T,id,pa,slot,y,O,G,?_⟩;have E:=W cpos z R Z H1 _ B F;rw[hs]at E ⊢;refine Calls.callWith_builtin (by show(false||(backTo cpos (starEach es X.env)).any (·.1))=false;rw[f]<;>rfl) (Calls.evalArgs_plain ?_);exact ki E λS s2 ⟨vs,H2,M,U,q2⟩=>L z s2 Z H2 x vs v S Q M C U q2
end
def SH(X:Cx)(id:String)(r:V->List V->Hp->VK->Prop):Prop :=
 ∀(f:WU)(s:Shared)(Z:St)(H:Hp)(x:V)(xs:List V)(v:Value)(a:WT)(Q:VK),Inv X f Z H s->aZ x v->aD xs a->r x xs H Q ->
  wpAny (model X.prog X.w) X.A (call (.builtin id) (v::a)) (EP X f Z Q) X.xe s
def aD.zero(h:aD [] us):us=[]:=by cases h;rfl
def aD.one(h:aD [x] us):∃u,us=[u]/\aZ x u:=by cases h with|cons r t=>exact⟨_,by rw[aD.zero t],r⟩
def aD.eraseIdx(i:Nat)(r:aD xs us):aD (xs.eraseIdx i) (us.eraseIdx i):=by
 induction r generalizing i with
 |nil=>exact .nil
 |cons a t f =>
  cases i with
  |zero=>exact t
  |succ i=>exact .cons a (f i)
def aD.rep(h:aD xs us):∀k:Nat,aD (List.replicate k xs).flatten (List.replicate k us).flatten
 |0=>.nil
 |k+1=>by
  exact aD.append h (aD.rep h k)
def tj{α:Type}:∀(l:List α)(i:Nat),(l.eraseIdx i).length<=l.length
 |[],_=>i4 _
 |_::_,0=>Ih _
 |_::r,i+1=>Jl (tj r i)
def t5(a:WT):∀(k:Nat)(f:WT),
  List.foldl (λj i=>j++i) f.toArray (List.replicate k a.toArray)=(f++(List.replicate k a).flatten).toArray
 |0,f=>by simp
 |k+1,f=>by
  have e:f.toArray++a.toArray=(f++a).toArray:=by simp
  have e2:(f++a)++(List.replicate k a).flatten=f++(List.replicate (k+1) a).flatten:=by rw[MF,List.flatten_cons,En]
  rw[<-e2,<-t5 a k (f++a),<-e,MF,R5]
section
variable{X:Cx}{Oa:List (Addr × Obj)}{Z:St}{H:Hp}{s:Shared}{l b:Addr}{xs ys zs:List V}
def Inv.lset{a its':WT}{n:Nat}{f:Array Value->Array Value}{y:Nat}(i:Inv X Oa Z H s)(B:H l=J (.lst xs))(e:s.heap.get? l=J { cls:=.type "list",data:=.seq a.toArray n})(hf:f a.toArray=its'.toArray)(hv:aD ys its')(r:ys.length<=sizeLine):
  Inv X Oa Z (ky H l (.lst ys)) { s with heap:=s.heap.update l (Obj.mapSeq f),toks:=y}:=by
 have q:=PySem.IsL.update e f;rw[hf]at q;refine i.write (x:=l) (e:=l) (by rw[B];exact trivial) (.inl rfl) (λC u z j=>(QE s.heap (Obj.mapSeq f) (Ne.symm z)).trans j) ⟨_,q⟩ ?_;exact⟨r,its',_,hv,q⟩
def Inv.lnew(a:Inv X Oa Z H s)(hv:aD ys its)(f:ys.length<=sizeLine):
  Inv X Oa Z (ky H s.heap.objs.size (.lst ys)) { s with heap:=s.heap.push { cls:=.type "list",data:=.seq its.toArray},toks:=t'} :=
 a.laid (λ_ _ q=>k_ _ q) (i4 _) ⟨f,its,0,hv,rb _ rfl⟩
def Inv.fresh(a:Inv X Oa Z H s):H s.heap.objs.size=Y:=a.hok.fresh (i4 _)
def Inv.lstM(f:Inv X Oa Z H s)(i:H l=J (.lst xs)):xs.length<=sizeLine/\∃(a:WT) (n:Nat),aD xs a/\xs.length=a.length/\s.heap.get? l=J { cls:=.type "list",data:=.seq a.toArray n}:=by obtain⟨z,a,n,r,e⟩:=f.hok l _ i;exact⟨z,a,n,r,r.length,e⟩
def pE(h:n<=sizeLine):Builtin.List.listTooLong n=T:=by unfold Builtin.List.listTooLong;exact decide_eq_false ⋯
end
section
variable{X:Cx}
def FX:V->List V->Hp->VK->Prop:=λx a H Q=>∃l xs y,x=.ref l/\a=[y]/\H l=J (.lst xs)/\xs.length<sizeLine/\Q .non (ky H l (.lst (xs++[y])))
def tK:SH X "list.append" FX:=by
 intro M s Z H x L v E Q a B j h;obtain⟨l,xs,y,rfl,rfl,i,G,q⟩:=h;cases B;obtain⟨u,rfl,C⟩:=j.one;obtain⟨z,f,n,r,O,e⟩:=a.lstM i;refine call_meets F.slot_list_append ⟨_,e,rfl⟩ F.entry_list_append (F.args_list_append_2 _ _) (PySem.list_append l f.toArray n u (by rw[oh];lia)) ⟨e,?_⟩;refine⟨.non,_,a.lset (its':=f++[u]) i e (by simp) (r.append (.cons C .nil)) ?_,rfl,q⟩
 grind
def FY:V->List V->Hp->VK->Prop:=λx f H Q=>∃l b xs a,x=.ref l/\f=[.ref b]/\H l=J (.lst xs)/\H b=J (.lst a)/\xs.length+a.length<=sizeLine/\Q .non (ky H l (.lst (xs++a)))
def AR:SH X "list.extend" FY:=by
 intro Oa s Z H x W v R Q j E C h;obtain⟨l,b,xs,zs,rfl,rfl,B,P,U,q⟩:=h;cases E;obtain⟨u,rfl,O⟩:=C.one;cases O;obtain⟨z,f,n,r,hl,e⟩:=j.lstM B;obtain⟨S,a,G,L,M,e2⟩:=j.lstM P;have y:f.toArray.size+a.toArray.size<=sizeLine:=by rw[oh,oh];lia
 have i:¬(!f.toArray.isEmpty&&Builtin.List.listTooLong (f.toArray.size+a.toArray.size))=I:=by rw[pE y,R7];exact Np
 refine call_meets F.slot_list_extend ⟨_,e,rfl⟩ F.entry_list_extend (F.args_list_extend_2 _ _)
  (AutoSeq1.list_extend_list_list_0 l f.toArray n b a.toArray G i (by rw[oh];lia) ⋯) ⟨e,e2,?_⟩
 refine⟨.non,_,j.lset (its':=f++a) B e (by simp) (r.append L) ?_,rfl,q⟩;rw[Em];lia
def J0:V->List V->Hp->VK->Prop:=λx a H Q=>∃l xs i k y,x=.ref l/\a=[.int i]/\H l=J (.lst xs) /\ -(2^63)<=i/\i<2^63/\seqIndex? i xs.length=J k/\xs[k]?=J y/\Q y (ky H l (.lst (xs.eraseIdx k)))
def Cd:SH X "list.pop" J0:=by
 intro Oa s Z H x W v U Q a L C h;obtain⟨l,xs,i,k,y,rfl,rfl,B,M,E,O,R,q⟩:=h;cases L;obtain⟨u,rfl,P⟩:=C.one;obtain⟨t,rfl⟩:=P;obtain⟨z,f,n,r,S,e⟩:=a.lstM B;obtain⟨w,G,j⟩:=r.get R;refine call_meets F.slot_list_pop ⟨_,e,rfl⟩ F.entry_list_pop (F.args_list_pop_2 _ _)
  (MeetsSeq.list_pop_at l f.toArray n i t k w (fitsIndex_both M E) (by rw[oh,<-S];exact O) (by rw[<-y6];exact G) (by rw[oh];lia)) ⟨e,?_⟩
 refine⟨y,_,a.lset (its':=f.eraseIdx k) B e ?_ (r.eraseIdx k) ?_,j,q⟩
 .simp_all
 .have:=tj xs k
  lia
def SI:R2:=λx y H Q=>∃l b xs a,x=.ref l/\y=.ref b/\H l=J (.lst xs)/\H b=J (.lst a)/\xs.length+a.length<=sizeLine/\∀p,H p=Y->Q (.ref p) (ky H p (.lst (xs++a)))
def J1:OpR X (binaryOp .Add) SI:=by
 intro S s Z H x y v u Q a j G h;obtain⟨l,b,xs,R,rfl,rfl,L,F,P,q⟩:=h;cases j;cases G;obtain⟨z,i,n,r,U,e⟩:=a.lstM L;obtain⟨O,f,M,B,C,e2⟩:=a.lstM F;refine PySem.P.add_list e e2 ?_ (by rw[oh,oh];lia);have E:i.toArray++f.toArray=(i++f).toArray:=by simp
 rw[E];exact⟨.ref _,_,a.lnew (t':=s.toks) (r.append B) (by rw[Em];lia),rfl,q _ a.fresh⟩
def SJ:R2:=λx y H Q=>∃l k xs,x=.ref l/\y=.int k/\H l=J (.lst xs) /\ -(2^63)<=k/\k<2^63/\xs.length*k.toNat<=sizeLine /\
 ∀p,H p=Y->Q (.ref p) (ky H p (.lst (List.replicate k.toNat xs).flatten))
def x3{α:Type}(xs:List α)(k:Nat):(List.replicate k xs).flatten.length=k*xs.length:=by simp
def J2:OpR X (binaryOp .Mult) SJ:=by
 intro Oa s Z H x y v u Q j R W h;obtain⟨l,k,xs,rfl,rfl,hH,S,P,O,q⟩:=h;cases R;obtain⟨t,rfl⟩:=W;obtain⟨z,f,n,r,hl,e⟩:=j.lstM hH;have E:f.toArray.size*k.toNat<=sizeLine:=by rw[oh,<-hl];exact O
 have G:¬f.toArray.size*k.toNat>(2^63-1)/8:=by
  have:(sizeLine:Nat)<=(2^63-1)/8:=by decide
  lia
 have C:¬(!Builtin.List.listFitsIndex k)=I:=by rw[fitsIndex_both S P];exact Np
 have i:¬Builtin.List.listTooLong (f.toArray.size*k.toNat)=I:=by rw[pE E];exact Np
 have B:List.foldl (λL M=>L++M) #[] (List.replicate (if f.toArray.isEmpty=I then 0 else k.toNat) f.toArray)=(List.replicate k.toNat f).flatten.toArray:=by
  have f0:∀m:Nat,List.foldl (λL M=>L++M) #[] (List.replicate m f.toArray)=(List.replicate m f).flatten.toArray:=λm=>by
   have:=t5 f m []
   exact this
  rw[f0]
  cases f with
  |nil=>simp
  |cons a r'=>rw[f_ (by simp)]
 refine wpAny_binaryOp_repeat_ref (by decide) ⟨_,e,rfl⟩ (λU=>typeIs_int U k t) noFill_list_mul F.fills_int_mul F.slot_int_rmul repeat_list F.slot_int_index.lookup
  (call_meets F.slot_int_rmul (typeIs_int s k t) F.entry_int_rmul (F.args_int_rmul_2 _ _) (int___rmul___int_list k t l f.toArray n)
   ⟨e,rfl,⟨_,e,rfl⟩,call_meets F.slot_list_mul ⟨_,e,rfl⟩ F.entry_list_mul (F.args_list_mul_2 _ _) (AutoListH.list___mul___list_int_3 l f.toArray n k t C G i) ⟨e,?_⟩⟩)
 rw[B];exact⟨.ref _,_,j.lnew (t':=s.toks) (r.rep k.toNat) (by rw[x3,Nat.mul_comm];exact O),rfl,q _ j.fresh⟩
end
section
variable{prog:Program}{w:World}{A:Around}{E:WA}{s:Shared}
end
section
variable{X:Cx}
end
end L2
namespace Att
open PySem.W PySem.Calls PyProof.Rows
def qP:∀(ns:WN)(f:WT),WellAll P h f (ns.map WData.int)->IntsAre f ns:=by
 intro ns
 induction ns with
 |nil =>
  intro f w;rw[R_]at w;cases w;exact .nil
 |cons n ns i =>
  intro f w;rw[oI]at w
  cases w with
  |cons a b =>
   cases a;exact .cons _ _ (i _ b)
def B5{l:OpenLaw}{n:Nat}(O:l.most=J n){P:Params}{h:Heap}{f:List WData}{j:WT}(i:l.row.toRowW.claim.pre f=I)(B:WellAll P h j f):
  ∃a E ns,j=[Value.ref a]/\f=[WData.list (ns.map WData.int)]/\h.get? a=J { cls:=.type "list",data:=.seq E.toArray}/\IntsAre E ns/\ns.length<=n:=by
 have C:=(pre_splitW i).1;have G:=(pre_splitW i).2;obtain⟨d,r,rfl,L,F⟩:=hasAllW_cons C;obtain rfl:=hasAllW_nil F;obtain⟨xs,rfl,Q⟩:=hasW_list L;obtain⟨ns,rfl⟩:=items_int Q;have u:ns.length<=n:=by
  have z:(WTm.not (.lt (.lit (.int (n:Int))) (.len (.arg 0)))).holds [] { args:=[.list (ns.map .int)]}=I:=by have z:=(holds_andW G).1;rw[O]at z;exact z
  have S:=condW_of z (w_not (w_lt w_lit (w_len_list (w_arg rfl))))
  simp_all
 cases B with
 |cons M R =>
  cases R
  cases M with
  |list H y=>exact⟨_,_,ns,rfl,rfl,H,qP ns _ y,u⟩
def Ao(l:OpenLaw)(a:List WData):l.row.toRowW.claim.post a (.bool I) a=I :=
 postW_of
  (show WShape.has [] (.bool I) .bool=I by first | rfl | decide | simp)
  (w_eq_bool (w_res rfl) w_lit) rfl
def wU{l:OpenLaw}{n:Nat}{q:Program}{loose:WM}{XP:(Str->WV)->Heap->Prop}{X:World->Heap->Prop}{d:DefRec}(hn:l.most=J n)(L:d.params.defaults=[])(call:∀(w:World)(s₀ i:Shared)(mg O:WB)(C:Addr)(o:Obj)(pm H u:Value)(a:Addr)(y:WT)(ns:WN),
   Ground q loose [] XP w s₀ mg O i.heap->X w i.heap ->
   i.heap.get? C=J o->o.data=.func (docDef d.name d.params d.body d.scope pm H u)->i.heap.CodeRec H d.name->mg d.name=J (.ref C) ->
   i.heap.get? a=J { cls:=.type "list",data:=.seq y.toArray}->IntsAre y ns->ns.length<=n->i.gens=#[] ->
   codeAny (model l.prog w) callerA (.call (.ref C) ⟨[.ref a],[]⟩) (λr F=>r=.ok (.ret (.bool I))/\OldK i.heap F.heap/\F.os=i.os/\AllBare F.gens) i):
  WalkO q loose XP X l.row.toRowW d [] (λf y=>PySem.call f y):=by
 intro w s₀ i mg O G P C o pm H u dV kV ho hd M U R hg W Z as z S al Q an;obtain rfl:=Dflts.none U L;obtain rfl:=Dflts.noKw U;obtain⟨a,y,ns,rfl,rfl,B,j,E⟩:=B5 hn z Q;refine enter_call (codeAny_mono (call w s₀ i mg O C o pm H u a y ns G P ho (fd_plain hd) M R B j E hg) λr F hq=>?_);obtain⟨rfl,h2,h3,h4⟩:=hq;exact⟨.inl ⟨.bool I,.bool I,[],rfl,λ_=>rfl,.bool I,Ao l _,λ_=>⟨List.Pairwise.nil,λ_ hm=>(nomatch hm)⟩⟩,h2,h3,h4⟩
section
variable{prog:Program}{w:World}{A:Around}{E:WA}{s:Shared}{K:Frag}
end
end Att
namespace L2
open PySem.Spec PyProof.Rows
def tH:∀{a:WT}{ns:WN},IntsAre a ns->aD (ns.map V.int) a
 |_,_,.nil=>.nil
 |_,_,.cons n t h=>.cons ⟨t,rfl⟩ (tH h)
def J3(H:Hp):Prop:=∀b,H b=Y\/∃o xs,H b=J (.frz o (.lst xs))
def Dh{P:Program}{w:World}{K:h_}{mg X:WB}{CX:EU}{k:Nat}{Z a:Addr}{fd:FuncData}{x:Str}{sp:Sp}{f:Shared}{E:WT}{ns:WN}(KX:K.In f.heap)(R:f.heap.Ns mainGlobals mg)(j:f.heap.Ns builtinsNs X)(ap:∀x:Str,x≠"__name__"->X x=bootBuiltins x)(U:f.heap.NoLimit)(hg:f.gens=#[])(W:f.heap.get? a=J { cls:=.type "list",data:=.seq E.toArray})(hi:IntsAre E ns)(hl:ns.length<=sizeLine)(hr:Room k callerA)(F:∀base:Heap,K.In base->base.Ns mainGlobals mg->FnOk P w K mg base CX k Z fd [x] sp)(C:∀(s:Shared) (u:Value),BindsTo s fd ⟨[u],[]⟩ [(x,u)])(as:∀H:Hp,J3 H->SqL K H a (ns.map V.int)->sp [.ref a] H (λv _=>v=.bl I) λ_ _ _=>False)(al:∀H e l,CX [] H f (λ_ _ _=>False) e l->False):
  codeAny (model P w) callerA (.call (.ref Z) ⟨[.ref a],[]⟩) (λr l=>r=.ok (.ret (.bool I))/\OldK f.heap l.heap/\l.os=f.os/\AllBare l.gens) f:=by
 have rv:=tH hi;have S:=hi.length;have B:∀H:Hp,J3 H->SqL K H a (ns.map V.int)->HOk P w H f.heap->(∀b,H b≠Y->b=a)->(H a≠Y->K.lookup a=Y) ->
   codeAny (model P w) callerA (.call (.ref Z) ⟨[.ref a],[]⟩) (λr l=>r=.ok (.ret (.bool I))/\OldK f.heap l.heap/\l.os=f.os/\AllBare l.gens) f:=by
  intro H hO hS hok hA hK;have i:∀{b:Addr}{o:Obj},f.heap.get? b=J o->H b=Y->(mj f.heap H).get? b=J o:=λe n=>C4 e n;have an:∀{b:Addr}{o:Obj}{Q:Array DictEntry}{M:Nat},f.heap.get? b=J o->o.data=.dict Q M->H b=Y:=λ{b o Q M} e d=>by
   cases q:H b with
   |none=>rfl
   |some u =>
    have e':b=a:=hA b (by rw[q];simp);subst e';rw[W]at e;cases e;have d':Data.seq E.toArray _=Data.dict Q M:=d;cases d'
  have y:∀{b:Addr}{m:WB},f.heap.Ns b m->(mj f.heap H).Ns b m:=λ{b m} ⟨o,Q,M,e,d,r⟩=>⟨o,Q,M,i e (an e d),d,r⟩
  have L:K.In (mj f.heap H):=λb o e=>i (KX b o e) (by
   cases q:H b with
   |none=>rfl
   |some u =>
    have e':b=a:=hA b (by rw[q];simp);subst e'
    rw[hK (by rw[q];simp)]at e;cases e)
  have hM:Mod K mg (mj f.heap H):=⟨L,y R,⟨X,y j,ap⟩,let⟨mc,h1,h2⟩:=U;⟨mc,y h1,h2⟩⟩;have e0:FP P w K mg (mj f.heap H) callerA [] f H:=⟨rfl,hM,λb o e=>FC e,Sa (BN _ _),trivial,λb j=>absurd (show b∈([]:WS)from j) (by simp),hok,.of_eq hg⟩;refine codeAny_mono ((F _ L (y R)).run callerA [] f H ⟨[.ref a],[]⟩ [.ref a] [.ref a] _ _ hr e0 (C f (.ref a)) (.cons rfl .nil) (as H hO hS)) λr l h=>?_
  cases r with
  |error e=>exact(al H e l h).elim
  |ok fl =>
   cases fl with
   |next=>exact False.elim h
   |brk=>exact False.elim h
   |cont=>exact False.elim h
   |ret u =>
    obtain⟨v,H',os,bare,un,G,r',q⟩:=h;have q':v=.bl I:=q;subst q';obtain rfl:u=Value.bool I:=r';refine⟨rfl,OldK.of_keep λb o e=>?_,os,bare⟩
    cases q:H b with
    |none=>exact un.keep b o e q (by intro z;exact absurd (show b∈([]:WS)from z) (by simp)) (by simp)
    |some u =>
     rcases hO b with z|⟨ob,xs,z⟩
     .rw[q]at z;cases z
     .have z2:=un.frzs b ob _ z;obtain⟨e1,_⟩:=hok b _ z;obtain⟨e2,_⟩:=G b _ z2;rw[e]at e1;cases e1;exact e2
 cases hk:K.lookup a with
 |some o =>
  have e:=KX a o hk;rw[W]at e;cases e;refine B (λ_=>Y) (λ_=>.inl rfl) (.inr ⟨_,E.toArray,_,hk,rfl,rfl,rfl,by rw[oh,S];exact hl,by simpa using rv⟩) (λb u z=>by have O:(Y:Option HO)=J u:=z;cases O) (λb z=>absurd rfl z) λz=>absurd rfl z
 |none =>
  refine B (λb=>if b=a then J (.frz { cls:=.type "list",data:=.seq E.toArray} (.lst (ns.map V.int)))else Y) (λb=>?_) (.inl (.inr ⟨{ cls:=.type "list",data:=.seq E.toArray},c_ rfl⟩)) (λb u z=>?_) (λb z=>?_) λ_=>hk
  .by_cases j:b=a
   .exact .inr ⟨_,_,c_ j⟩
   .exact .inl (f_ j)
  .by_cases j:b=a
   .have O:=(c_ j).symm.trans z;cases O;subst j;exact⟨W,by rw[oF];exact hl,E,_,rv,W⟩
   .have O:=(f_ j).symm.trans z;cases O
  .by_cases j:b=a
   .exact j
   .exact absurd (f_ j) z
abbrev lx{K:h_}{h:Heap}(_:K.In h):h_:=K
def FZ{l:PySem.W.OpenLaw}{n k:Nat}{q:Program}{loose:WM}{XP:(Str->WV)->Heap->Prop}{R:World->Heap->Prop}{d:DefRec}{K:Params->h_}{CX:World->EU}{sp:World->Sp}{x:Str}(hn:l.most=J n)(O:n<=sizeLine)(B:d.params.defaults=[])(X:Room k callerA)(hY:∀(w:World)(h:Heap),R w h->(K w.params).In h)(F:∀(w:World)(mg:WB)(z:Addr)(h:Heap),(K w.params).In h->h.Ns mainGlobals mg->mg d.name=J (.ref z) ->
   ∃fd:FuncData,(∀(s:Shared)(u:Value),BindsTo s fd ⟨[u],[]⟩ [(x,u)]) /\
    ∀base:Heap,(K w.params).In base->base.Ns mainGlobals mg->FnOk l.prog w (K w.params) mg base (CX w) k z fd [x] (sp w))(M:∀(w:World)(H:Hp)(a:Addr)(ns:WN),ns.length<=n->J3 H->SqL (K w.params) H a (ns.map V.int)->sp w [.ref a] H (λv _=>v=.bl I) λ_ _ _=>False)(C:∀(w:World)(H:Hp)(s:Shared)(e:Value)(L:Shared),CX w [] H s (λ_ _ _=>False) e L->False):
  PySem.W.WalkO q loose XP R l.row.toRowW d [] (λf Q=>PySem.call f Q):=by
 refine Att.wU hn B λw s₀ y mg mb z o pm cd al a Q ns G E ho hd W P r j i hg=>?_;have S:=hY w _ E;obtain⟨fd,Z,U⟩:=F w mg z _ S G.T.g P;exact Dh S G.T.g G.T.b G.T.builtins G.T.nolimit hg r j (ny i O) X U Z (λH hO hS=>M w H a ns i hO hS) λH e L=>C w H y e L
def ju(s:Stmt):Arguments:=match s with
 |.FunctionDef _ a _ _ _ _ _ _ _ _=>a
 |_=>{ posonlyargs:=[],args:=[],vararg:=Y,kwonlyargs:=[],kw_defaults:=[],kwarg:=Y,defaults:=[]}
def aB(s:Stmt):List Stmt:=match s with
 |.FunctionDef _ _ b _ _ _ _ _ _ _=>b
 |_=>[]
def ag(s:Stmt):Scope:=match s with
 |.FunctionDef _ _ _ _ _ _ a _ _ _=>a
 |_=>{ kind:=.function,names:=[],isGenerator:=T,isCoroutine:=T}
structure Fun(K:h_)(x qual:Str)(st:Stmt)(f:Addr)(fd:FuncData):Prop where
 ex:∃(oc:Value)(od:Option Addr)(kV doc pm:Value)(an:Option Addr)(cdv ct:Value)(osl:Array (WV)),
  fd=PySem.W.fnOf x qual (ju st) (aB st) (ag st) .none kV doc pm an cdv ct/\K.lookup f=J ⟨oc,od,.func fd,osl⟩/\PySem.W.codeIn K cdv qual=I
 kp:PySem.W.keepIn K (.ref f)=I
section
variable{P:Program}{w:World}{K:h_}{mg:WB}{base:Heap}
def Fun.binds{x a:Str}{st:Stmt}{f:Addr}{fd:FuncData}{u:WM}(F:Fun K x a st f fd)(h:∀(kV j pm:Value)(r:Option Addr)(i ct:Value)(l:WT),l.length=u.length->bindArgs (PySem.W.fnOf x a (ju st) (aB st) (ag st) .none kV j pm r i ct) ⟨l,[]⟩=pure (u.zip l)):qR K fd u []:=by
 obtain⟨B,C,kV,j,pm,r,i,ct,z,rfl,E,y⟩:=F.ex;exact .all (h kV j pm r i ct)
def J4{x a:Str}{st:Stmt}{f:Addr}{z:Value}{y u:Option Addr}{r:Array (WV)}{kV j pm i ct:Value}(l:K.lookup f=J ⟨z,y,.func (PySem.W.fnOf x a (ju st) (aB st) (ag st) .none kV j pm u i ct),r⟩)(c:PySem.W.codeIn K i a=I)(k:PySem.W.keepIn K (.ref f)=I):Fun K x a st f (PySem.W.fnOf x a (ju st) (aB st) (ag st) .none kV j pm u i ct):=⟨⟨z,y,kV,j,pm,u,i,ct,r,rfl,l,c⟩,k⟩
end
section
variable{X:Cx}
end
end L2
namespace MM
open PySem.Spec PyProof.Rows L2
inductive PV where
 |non | bl (b:Bool) | int (i:Int) | str (x:Str) | tup (xs:List PV) | frl (xs:List PV) | loc (n:Nat)
abbrev _root_.WL:=List PV
structure Eh where
 cls:Str
 fs:List (Str×PV):=[]
inductive MO where
 |lst(xs:WL)
 |dic(kvs:List (PV×PV))
 |exc(x:Eh)
abbrev MH:=List MO
abbrev ly:=List (Option PV)
inductive Out(α:Type) where
 |ok(a:α)(h:MH)
 |exc(x:Eh)(h:MH)
 |bad
abbrev _root_.WZ:=Out PV
def Out.bind{α β:Type}(o:Out α)(f:α->MH->Out β):Out β:=match o with
 |.ok a h=>f a h
 |.exc x h=>.exc x h
 |.bad=>.bad
@[simp]theorem Out.bind_ok(a:α)(h:MH)(f:α->MH->Out β):(Out.ok a h).bind f=f a h:=rfl
@[simp]theorem Out.bind_exc(x:Eh)(h:MH)(f:α->MH->Out β):(Out.exc x h).bind f=.exc x h:=rfl
@[simp]theorem Out.bind_bad(f:α->MH->Out β):(Out.bad:Out α).bind f=.bad:=rfl
inductive SOut where
 |nx(Z:ly)(h:MH)
 |rt(v:PV)(h:MH)
 |bk(Z:ly)(h:MH)
 |ct(Z:ly)(h:MH)
 |exc(x:Eh)(Z:ly)(h:MH)
 |rse(x:Eh)(Z:ly)(h:MH)
 |bad
def Out.ne{α:Type}(o:Out α):Out α:=match o with
 |.exc _ _=>.bad
 |o=>o
@[simp]theorem Out.ne_ok(a:α)(h:MH):(Out.ok a h).ne=.ok a h:=rfl
@[simp]theorem Out.ne_bad:(Out.bad:Out α).ne=.bad:=rfl
@[simp]theorem Out.ne_ne(o:Out α):o.ne.ne=o.ne:=by cases o<;>rfl
def SqF(K:h_)(H:Hp)(a:Addr)(ys:List V):Prop :=
 (∃o,H a=J (.frz o (.lst ys))) \/
  ∃(o:Obj) (f:Array Value) (n:Nat),K.lookup a=J o/\o.cls=.type "list"/\o.dict=Y/\o.data=.seq f n/\f.size<=sizeLine/\aD ys f.toList
def SqF.sq{K:h_}{H:Hp}{a:Addr}{ys:List V}(h:SqF K H a ys):SqL K H a ys:=by
 rcases h with h|h
 .exact .inl (.inr h)
 .exact .inr h
mutual
inductive RP(K:h_)(U:WS)(H:Hp):PV->V->Prop where
 |non:RP K U H .non .non
 |bl(b:Bool):RP K U H (.bl b) (.bl b)
 |int(i:Int):RP K U H (.int i) (.int i)
 |str(x:Str):RP K U H (.str x) (.str x)
 |tup{xs:WL}{a:Addr}{ys:List V}(s:SqT K H a ys)(r:RPs K U H xs ys):RP K U H (.tup xs) (.ref a)
 |frl{xs:WL}{a:Addr}{ys:List V}(s:SqF K H a ys)(r:RPs K U H xs ys):RP K U H (.frl xs) (.ref a)
 |loc{n:Nat}{a:Addr}(e:U[n]?=J a):RP K U H (.loc n) (.ref a)
inductive RPs(K:h_)(U:WS)(H:Hp):WL->List V->Prop where
 |nil:RPs K U H [] []
 |cons{x:PV}{y:V}{xs:WL}{ys:List V}(r:RP K U H x y)(t:RPs K U H xs ys):RPs K U H (x::xs) (y::ys)
end
structure Le(U:WS)(H:Hp)(U':WS)(H':Hp):Prop where
 pre:∃m,U'=U++m
 tup:∀a xs,H a=J (.tup xs)->H' a=J (.tup xs)
 frz:∀a o u,H a=J (.frz o u)->H' a=J (.frz o u)
def Le.refl(U:WS)(H:Hp):Le U H U H:=⟨⟨[],by simp⟩,λ_ _ h=>h,λ_ _ _ h=>h⟩
def Le.trans(a:Le U H U1 H1)(b:Le U1 H1 U2 H2):Le U H U2 H2:=by obtain⟨m,e⟩:=a.pre;obtain⟨i,f⟩:=b.pre;exact⟨⟨m++i,by rw[f,e,En]⟩,λc xs h=>b.tup c xs (a.tup c xs h),λc o u h=>b.frz c o u (a.frz c o u h)⟩
def Le.get{U f:WS}{H j:Hp}(l:Le U H f j){n:Nat}{a:Addr}(e:U[n]?=J a):f[n]?=J a:=by obtain⟨m,i⟩:=l.pre;rw[i,q7 (kx.mp e).1];exact e
def Le.sqt{K:h_}{U i:WS}{H f:Hp}(l:Le U H i f){a:Addr}{xs:List V}(h:SqT K H a xs):SqT K f a xs:=by
 rcases h with(h|⟨o,h⟩)|h
 .exact .inl (.inl (l.tup _ _ h))
 .exact .inl (.inr ⟨o,l.frz _ _ _ h⟩)
 .exact .inr h
def Le.sqf{K:h_}{U i:WS}{H f:Hp}(l:Le U H i f){a:Addr}{xs:List V}(h:SqF K H a xs):SqF K f a xs:=by
 rcases h with⟨o,h⟩|h
 .exact .inl ⟨o,l.frz _ _ _ h⟩
 .exact .inr h
section
variable{K:h_}{U U':WS}{H H':Hp}
def RP.le(l:Le U H U' H'){x:PV}{y:V}(r:RP K U H x y):RP K U' H' x y :=
 RP.rec .non .bl .int .str (λs _ i=>.tup (l.sqt s) i) (λs _ i=>.frl (l.sqf s) i) (λe=>.loc (l.get e)) .nil (λ_ _ a b=>.cons a b) r
def RPs.le(l:Le U H U' H')(r:RPs K U H xs ys):RPs K U' H' xs ys:=by
 induction xs generalizing ys with
 |nil=>cases r;exact .nil
 |cons x xs f=>cases r with|cons a t=>exact .cons (a.le l) (f t)
def RPs.length(r:RPs K U H xs ys):xs.length=ys.length:=by
 induction xs generalizing ys with
 |nil=>cases r;rfl
 |cons x xs f=>cases r with|cons a t=>exact congrArg (·+1) (f t)
def RPs.get{xs:WL}{ys:List V}{i:Nat}{x:PV}(r:RPs K U H xs ys)(e:xs[i]?=J x):∃y,ys[i]?=J y/\RP K U H x y:=by
 induction xs generalizing ys i with
 |nil=>cases e
 |cons x xs f =>
  cases r with
  |cons a t =>
   cases i with
   |zero=>cases e;exact⟨_,rfl,a⟩
   |succ i=>have z:=@f _ i t e;exact z
def RPs.set(r:RP K U H x u)(i:Nat)(q:RPs K U H xs us):RPs K U H (xs.set i x) (us.set i u):=by
 induction xs generalizing us i with
 |nil=>cases q;exact .nil
 |cons x xs f =>
  cases q with
  |cons a t =>
   cases i with
   |zero=>exact .cons r t
   |succ i=>exact .cons a (f i t)
def RPs.append(r:RPs K U H xs us)(s:RPs K U H ys ws):RPs K U H (xs++ys) (us++ws):=by
 induction xs generalizing us with
 |nil=>cases r;exact s
 |cons x xs f=>cases r with|cons a t=>exact .cons a (f t)
def RPs.take(n:Nat)(r:RPs K U H xs us):RPs K U H (xs.take n) (us.take n):=by
 induction n generalizing xs us with
 |zero=>exact .nil
 |succ n f =>
  cases xs with
  |nil=>cases r;exact .nil
  |cons x xs=>cases r with|cons a t=>exact .cons a (f t)
def RPs.drop(n:Nat)(r:RPs K U H xs us):RPs K U H (xs.drop n) (us.drop n):=by
 induction n generalizing xs us with
 |zero=>exact r
 |succ n f =>
  cases xs with
  |nil=>cases r;exact .nil
  |cons x xs=>cases r with|cons a t=>exact f t
def RPs.ints:∀(ns:WN),RPs K U H (ns.map PV.int) (ns.map V.int)
 |[]=>.nil
 |n::r=>.cons (.int n) (RPs.ints r)
end
def N5(a C:Addr)(h:Heap):Prop:=∃o f,h.get? a=J o/\o.cls=.ref C/\o.data=.fields f
abbrev F0:=Str->WV
def RO(K:h_)(mg:F0)(U:WS)(H:Hp)(a:Addr):MO->Option HO->Prop
 |.lst xs,f=>∃ys,f=J (.lst ys)/\RPs K U H xs ys
 |.dic i,f=>i=[]/\f=J (.dK [])
 |.exc x,f=>x.fs=[]/\∃C,mg x.cls=J (.ref C)/\f=J (.ext (N5 a C))
structure RH(K:h_)(mg:F0)(U:WS)(H:Hp)(h:MH):Prop where
 len:U.length=h.length
 nd:U.Nodup
 at':∀(n:Nat)(a:Addr)(o:MO),U[n]?=J a->h[n]?=J o->RO K mg U H a o (H a)
def RO.le{K:h_}{mg:F0}{U j:WS}{H i:Hp}{a:Addr}(l:Le U H j i){o:MO}{f:Option HO}(r:RO K mg U H a o f):RO K mg j i a o f:=by
 cases o with
 |lst xs=>obtain⟨ys,e,r⟩:=r;exact⟨ys,e,r.le l⟩
 |dic u=>exact r
 |exc x=>exact r
def RO.some{K:h_}{mg:F0}{U:WS}{H:Hp}{a:Addr}{o:MO}{f:Option HO}(r:RO K mg U H a o f):f≠Y:=by
 cases o with
 |lst xs=>obtain⟨ys,e,_⟩:=r;rw[e];simp
 |dic i=>obtain⟨_,e⟩:=r;rw[e];simp
 |exc x=>obtain⟨_,C,_,e⟩:=r;rw[e];simp
def RO.plain{K:h_}{mg:F0}{U:WS}{H:Hp}{a:Addr}{o:MO}{f:Option HO}(r:RO K mg U H a o f):(∀xs,f≠Option.some (.tup xs))/\∀p u,f≠Option.some (.frz p u):=by
 cases o with
 |lst xs=>obtain⟨ys,e,_⟩:=r;rw[e];exact⟨(λ_ z=>nomatch z),(λ_ _ z=>nomatch z)⟩
 |dic i=>obtain⟨_,e⟩:=r;rw[e];exact⟨(λ_ z=>nomatch z),(λ_ _ z=>nomatch z)⟩
 |exc x=>obtain⟨_,C,_,e⟩:=r;rw[e];exact⟨(λ_ z=>nomatch z),(λ_ _ z=>nomatch z)⟩
section
variable{K:h_}{mg:F0}{U:WS}{H:Hp}{h:MH}
def RH.obj(r:RH K mg U H h){n:Nat}{a:Addr}(e:U[n]?=J a):∃o,h[n]?=J o/\RO K mg U H a o (H a):=by
 have f:n<h.length:=by rw[<-r.len];exact(kx.mp e).1
 exact⟨h[n],by simp,r.at' n a _ e (by simp)⟩
def RH.new(r:RH K mg U H h){p:Addr}(j:H p=Y){o:MO}{ho:HO}(L:RO K mg U H p o (J ho)):RH K mg (U++[p]) (ky H p ho) (h++[o])/\Le U H (U++[p]) (ky H p ho):=by
 have f:∀n a,U[n]?=J a->a≠p:=λn a e z=>by
  obtain⟨E,_,q⟩:=r.obj e;rw[z,j]at q;exact q.some rfl
 have l:Le U H (U++[p]) (ky H p ho):=⟨⟨[p],rfl⟩,λa xs e=>by rw[bh (b7 e j)];exact e,λa M u e=>by rw[bh (b7 e j)];exact e⟩;refine⟨⟨by simp[r.len],?_,λn a E e1 e2=>?_⟩,l⟩
 .rw[Fi];refine⟨r.nd,by simp,λa G b F=>?_⟩;obtain⟨n,e⟩:=vv.mp G;have B:b=p:=by simpa using F
  rw[B];exact f n a e
 .by_cases i:n<U.length
  .rw[q7 i]at e1;rw[q7 (by rw[<-r.len];exact i)]at e2;rw[bh (f n a e1)];exact(r.at' n a E e1 e2).le l
  .rw[Eb ⋯]at e1;rw[Eb (by rw[<-r.len];lia)]at e2;have C:n-U.length=0:=by
    grind
   rw[C]at e1;have y:n-h.length=0:=by have:=r.len;lia
   rw[y]at e2;simp at e1 e2;subst e1;subst e2;rw[cg];exact L.le l
def RH.put(r:RH K mg U H h){n:Nat}{a:Addr}(e:U[n]?=J a){o:MO}{ho:HO}(F:RO K mg U H a o (J ho)):RH K mg U (ky H a ho) (h.set n o)/\Le U H U (ky H a ho):=by
 obtain⟨O,_,q⟩:=r.obj e;obtain⟨i,L⟩:=q.plain
 have l:Le U H U (ky H a ho):=⟨⟨[],by simp⟩,λb xs z=>by
   have:b≠a:=by rintro rfl;exact i _ z
   rw[bh this];exact z,λb M u z=>by
   have:b≠a:=by rintro rfl;exact L _ _ z
   rw[bh this];exact z⟩
 refine⟨⟨by simp[r.len],r.nd,λm b G e1 e2=>?_⟩,l⟩;by_cases f:m=n
 .subst f;rw[e]at e1;cases e1;rw[cg]
  have:m<h.length:=by rw[<-r.len];exact(kx.mp e).1
  rw[y4 this]at e2;cases e2;exact F.le l
 .rw[n9 (λz=>f z.symm)]at e2;have y:b≠a:=by
   rintro rfl;have E:=kx.mp e;have j:=kx.mp e1;obtain⟨P,B⟩:=E;obtain⟨Q,C⟩:=j;exact f ((List.getElem_inj r.nd).mp (C.trans B.symm))
  rw[bh y];exact(r.at' m b G e1 e2).le l
def RH.tup(r:RH K mg U H h){p:Addr}(i:H p=Y)(ys:List V):RH K mg U (ky H p (.tup ys)) h/\Le U H U (ky H p (.tup ys)):=by
 have f:∀n a,U[n]?=J a->a≠p:=λn a e z=>by
  obtain⟨y,_,q⟩:=r.obj e;rw[z,i]at q;exact q.some rfl
 have l:Le U H U (ky H p (.tup ys)):=⟨⟨[],by simp⟩,λa xs e=>by rw[bh (b7 e i)];exact e,λa j u e=>by rw[bh (b7 e i)];exact e⟩;exact⟨⟨r.len,r.nd,λn a o e1 e2=>by rw[bh (f n a e1)];exact(r.at' n a o e1 e2).le l⟩,l⟩
end
def RS(K:h_)(U:WS)(H:Hp)(a:ly)(Z:L2.St):Prop :=
 Z.length=a.length/\∀(i:Nat)(v:PV),a[i]?=J (J v)->∃f,Z[i]?=J (J f)/\RP K U H v f
def RS.le{K:h_}{U j:WS}{H f:Hp}{a:ly}{Z:L2.St}(l:Le U H j f)(r:RS K U H a Z):RS K j f a Z :=
 ⟨r.1,λi v e=>by obtain⟨y,u,q⟩:=r.2 i v e;exact⟨y,u,q.le l⟩⟩
def RS.set{K:h_}{U:WS}{H:Hp}{a:ly}{Z:L2.St}(r:RS K U H a Z)(i:Nat){v:PV}{f:V}(q:RP K U H v f):RS K U H (a.set i (J v)) (Z.set i (J f)):=by
 refine⟨by simp[r.1],λj u e=>?_⟩;by_cases l:j=i
 .subst l;by_cases y:j<a.length
  .rw[y4 y]at e;cases e;exact⟨f,y4 (by rw[r.1];exact y),q⟩
  .rw[EF (by simp;lia)]at e;cases e
 .rw[n9 (λz=>l z.symm)]at e;obtain⟨C,B,E⟩:=r.2 j u e;exact⟨C,by rw[n9 (λz=>l z.symm)];exact B,E⟩
def VV(B:Heap)(fs:WS)(h:Heap):Prop:=∀b o,h.get? b=J o->b∉fs->∃a,B.get? b=J a
def SK(l:List Env)(H:Hp)(a:Heap)(C f:Addr)(h:Heap):Prop :=
 ∃B t,Heap.FlyingW B l f (.ref C) (.ref t) h/\(∀b o,H b=J o->∃i,B.get? b=J i)/\VV B (y_ l) a/\H f=Y
structure Il(X:Cx)(h:Heap):Prop where
 old:∀b o,X.s₀.heap.get? b=J o->b∉X.ex->∃o',h.get? b=J o'
 cell:∀x c,X.env.cells.lookup x=J c->∃o,h.get? c=J o
 pin:∀p∈X.pn,∃o,h.get? p.1=J o
def Inv.bears{X:Cx}{i:WU}{Z:L2.St}{H:Hp}{s:Shared}(a:Inv X i Z H s):Il X s.heap :=
 ⟨λb o e n=>a.base.there b o e n,λx c e=>let⟨_,o,f,_⟩:=a.cell x c e;⟨o,f⟩,λp j=>⟨_,(a.pin p (rT _ j)).1⟩⟩
def XP(X:Cx)(i:ly)(U:WS)(H:Hp)(x:Eh)(h:MH):Prop:=∀(u C:Addr)(j:WS)(a:Hp)(r:L2.St)(l:Shared)(f:Heap),x.fs=[]->X.mg x.cls=J (.ref C)->Le U H j a->RH X.K X.mg j a h->RS X.K j a i r ->
 Inv X [] r a l->Il X f->SK X.stack a f C u l.heap->X.xe (.ref u) l
def XM(X:Cx)(i:ly)(U:WS)(H:Hp)(x:Eh)(h:MH):Prop:=∀(y C:Addr)(j:WS)(f:Hp)(u:L2.St)(l:Shared)(r:Heap)(a:WT),x.fs=[]->X.mg x.cls=J (.ref C)->Le U H j f->RH X.K X.mg j f h->RS X.K j f i u ->
 Inv X [] u f { l with heap:=r}->Heap.MadeExcOf r l.heap y (.ref C) a->X.xe (.ref y) l
def XP.le(l:Le U H U' H')(q:XP X σp U H x h):XP X σp U' H' x h :=
 λf C i u j r a e1 e2 y=>q f C i u j r a e1 e2 (l.trans y)
def XM.le(l:Le U H U' H')(q:XM X σp U H x h):XM X σp U' H' x h :=
 λi C j y r u f a e1 e2 z=>q i C j y r u f a e1 e2 (l.trans z)
abbrev Rl(α β:Type):=WS->Hp->α->β->Prop
def Ful{α β:Type}(X:Cx)(R:Rl α β)(i:ly)(U:WS)(H:Hp)(o:Out α)(Q:β->Hp->Prop):Prop:=match o with
 |.ok v f=>∀j a l,Le U H j a->RH X.K X.mg j a f->R j a v l->Q l a
 |.exc x f=>XP X i U H x f
 |.bad=>False
def kK{α β:Type}(X:Cx)(R:Rl α β)(U:WS)(H:Hp)(o:Out α)(Q:β->Hp->Prop):Prop:=match o with
 |.ok v j=>∀f a i,Le U H f a->RH X.K X.mg f a j->R f a v i->Q i a
 |_=>False
def Ful.zero(f:Ful X R σp U H o.ne Q):kK X R U H o Q:=by
 cases o with
 |ok v h=>exact f
 |exc x h=>exact f
 |bad=>exact f
def Ful.le(l:Le U H U1 H1)(f:Ful X R σp U H o Q):Ful X R σp U1 H1 o Q:=by
 cases o with
 |ok v h=>exact λj i a r=>f j i a (l.trans r)
 |exc x h=>exact XP.le l f
 |bad=>exact f
def Ful.bind{α β γ δ:Type}{X:Cx}{R:Rl α β}{S:Rl γ δ}{a:ly}{U:WS}{H:Hp}{o:Out α}{f:α->MH->Out γ}{Q:δ->Hp->Prop}{z:β->Hp->Prop}(q:Ful X S a U H (o.bind f) Q)(k:∀j i v u y,o=.ok v y->Le U H j i->RH X.K X.mg j i y->R j i v u->Ful X S a j i (f v y) Q->z u i):Ful X R a U H o z:=by
 cases o with
 |ok v h=>exact λC B u l r w=>k C B v u h rfl l r w (Ful.le l q)
 |exc x h=>exact q
 |bad=>exact q
abbrev RV'(X:Cx):Rl PV V:=λU H=>RP X.K U H
abbrev RVs'(X:Cx):Rl (WL) (List V):=λU H=>RPs X.K U H
abbrev N6{α:Type}:Rl α α:=λ_ _ x y=>x=y
abbrev Mx(α:Type):=ly->MH->Out α
inductive tM{α β:Type}(X:Cx)(R:Rl α β)(m:Mx α)(Z:L2.St)(H:Hp)(Q:β->Hp->Prop):Prop
 |mk(U:WS)(σp:ly)(h:MH)(rs:RS X.K U H σp Z)(rh:RH X.K X.mg U H h)(q:Ful X R σp U H (m σp h) Q):tM X R m Z H Q
def ME(X:Cx)(e:Expr)(m:Mx PV):Prop:=PE X e (tM X (RV' X) m)
def MT(X:Cx)(e:Expr)(m:Mx Bool):Prop:=PT X e (tM X N6 m)
def MW(X:Cx)(e:Expr)(m:Mx Bool):Prop:=PW X e (tM X N6 m)
def MA(X:Cx)(a:WX)(m:Mx (WL)):Prop:=PA X a (tM X (RVs' X) m)
def PE.imp(h:PE X e t)(i:∀Z H Q,t' Z H Q->t Z H Q):PE X e t':=λf s Z H Q a q=>h f s Z H Q a (i Z H Q q)
def PT.imp(h:PT X e t)(i:∀Z H Q,t' Z H Q->t Z H Q):PT X e t':=λf s Z H Q a q=>h f s Z H Q a (i Z H Q q)
def PW.imp(h:PW X e t)(i:∀Z H Q,t' Z H Q->t Z H Q):PW X e t':=λa j s Z H Q f q=>h a j s Z H Q f (i Z H Q q)
def PA.imp(h:PA X e t)(i:∀Z H Q,t' Z H Q->t Z H Q):PA X e t':=λf j s Z H Q a q=>h f j s Z H Q a (i Z H Q q)
def PS.imp(h:PS X e t)(i:∀D Z H,t' D Z H->t D Z H):PS X e t':=λf s Z H D a q=>h f s Z H D a (i D Z H q)
def PSs.imp(h:PSs X e t)(i:∀D Z H,t' D Z H->t D Z H):PSs X e t':=λf s Z H D a q=>h f s Z H D a (i D Z H q)
def bU(X:Cx)(U:WS)(H:Hp)(o:SOut)(D:Ends):Prop:=match o with
 |.nx f j=>∀i a l,Le U H i a->RH X.K X.mg i a j->RS X.K i a f l->D.nx l a
 |.bk f j=>∀i a l,Le U H i a->RH X.K X.mg i a j->RS X.K i a f l->D.bk l a
 |.ct f j=>∀i a l,Le U H i a->RH X.K X.mg i a j->RS X.K i a f l->D.ct l a
 |.rt v j=>∀i a r,Le U H i a->RH X.K X.mg i a j->RP X.K i a v r->D.rt r a
 |.exc x f j=>XP X f U H x j
 |.rse x f j=>XM X f U H x j
 |.bad=>False
def bU.le(l:Le U H U1 H1)(f:bU X U H o D):bU X U1 H1 o D:=by
 cases o with
 |nx a h=>exact λr j i u=>f r j i (l.trans u)
 |bk a h=>exact λr j i u=>f r j i (l.trans u)
 |ct a h=>exact λr j i u=>f r j i (l.trans u)
 |rt v h=>exact λr j i u=>f r j i (l.trans u)
 |exc x a h=>exact XP.le l f
 |rse x a h=>exact XM.le l f
 |bad=>exact f
abbrev mh:=ly->MH->SOut
inductive QW(X:Cx)(m:mh)(D:Ends)(Z:L2.St)(H:Hp):Prop
 |mk(U:WS)(σp:ly)(h:MH)(rs:RS X.K U H σp Z)(rh:RH X.K X.mg U H h)(q:bU X U H (m σp h) D):QW X m D Z H
def MS(X:Cx)(st:Stmt)(m:mh):Prop:=PS X st (QW X m)
def Dr(X:Cx)(st:List Stmt)(m:mh):Prop:=PSs X st (QW X m)
section
variable{X:Cx}{N W G:WM}{k:Nat}
structure Good(X:Cx)(N W G:WM)(k:Nat):Prop where
 hN:X.N=N
 nd:N.Nodup
 loc:∀x∈N,Loc X.env.scope x
 fn:∀x∈W,X.fn x=I\/X.env.scope.names.lookup x=J .local
 gl:∀x∈G,Gl X x
 dbg:∀x∈N++G,(x==("__debug__":Str))=T/\(x==("__classdict__":Str))=T/\x≠"__name__"
 calm:X.calm=I
 room:Room k X.A
 po:PassesOwn (model X.prog X.w) X.A X.env X.xe
def Good.x(g:Good X N W G k){i:Nat}{x:Str}(a:N[i]?=J x):X.N[i]?=J x:=by rw[g.hN];exact a
def aN{l:WM}{i:Nat}{x:Str}(a:l[i]?=J x):x∈l:=wj a
def rJ(X:Cx)(g:PV->PV->MH->WZ):R2:=λa f H Q=>∃U h x y,RH X.K X.mg U H h/\RP X.K U H x a/\RP X.K U H y f/\kK X (RV' X) U H (g x y h) Q
abbrev xy(X:Cx)(f:Value->Value->Sem Value)(g:PV->PV->MH->WZ):Prop:=OpR X f (rJ X g)
def uJ(X:Cx)(g:PV->MH->WZ):V->Hp->VK->Prop:=λa H Q=>∃U h x,RH X.K X.mg U H h/\RP X.K U H x a/\kK X (RV' X) U H (g x h) Q
abbrev UT(X:Cx)(f:Value->Sem Value)(g:PV->MH->WZ):Prop:=QU X f (uJ X g)
def cJ(X:Cx)(g:WL->MH->WZ):List V->Hp->VK->Prop:=λa H Q=>∃U h xs,RH X.K X.mg U H h/\RPs X.K U H xs a/\kK X (RV' X) U H (g xs h) Q
abbrev dv(X:Cx)(f:Value)(g:WL->MH->WZ):Prop:=cK X f (cJ X g)
def ar(i:Nat):Mx PV:=λZ h=>match Z[i]? with
 |some (J v)=>.ok v h
 |_=>.bad
def mC(v:PV):Mx PV:=λ_ h=>.ok v h
def BL(g:Good X N W G k)(i:Nat){x:Str}{a:Pos}(j:N[i]?=J x):ME X (.Name x a) (ar i):=by
 have d:=g.dbg x (rT _ (aN j));have hv:QT X.env.scope x:=by
  rcases g.loc x (aN j)with q|q
  .exact .inl q
  .exact .inr (.inl q)
 refine PE.imp (Ju (g.x j) hv d.1 d.2.1) λZ H Q ⟨U,l,h,z,B,f⟩=>?_;unfold ar at f
 cases e:l[i]? with
 |none=>rw[e]at f;exact f.elim
 |some o =>
  rw[e]at f
  cases o with
  |none=>exact f.elim
  |some v =>
   obtain⟨u,y,r⟩:=z.2 i v e;exact⟨u,y,f U H u (Le.refl _ _) B r⟩
def aF:ME X (.Constant (.int i) j pos) (mC (.int i)):=PE.imp Jv λ_ H _ ⟨U,_,_,_,a,f⟩=>f U H _ (Le.refl _ _) a (.int i)
def J5:ME X (.Constant (.str i) j pos) (mC (.str i)):=PE.imp Jx λ_ H _ ⟨U,_,_,_,a,f⟩=>f U H _ (Le.refl _ _) a (.str i)
def uF:ME X (.Constant (.bool i) j pos) (mC (.bl i)):=PE.imp Ny λ_ H _ ⟨U,_,_,_,a,f⟩=>f U H _ (Le.refl _ _) a (.bl i)
def J6:ME X (.Constant .none j pos) (mC .non):=PE.imp Jw λ_ H _ ⟨U,_,_,_,a,f⟩=>f U H _ (Le.refl _ _) a .non
def aC(f:PV->PV->MH->WZ)(l i:Mx PV):Mx PV:=λZ h=>(l Z h).bind λx a=>(i Z a).bind λy j=>(f x y j).ne
def N7(f:PV->MH->WZ)(i:Mx PV):Mx PV:=λZ h=>(i Z h).bind λx a=>(f x a).ne
def wo{f:PV->PV->MH->WZ}{r l:Mx PV}{Z:L2.St}{H:Hp}{Q:VK}(q:tM X (RV' X) (aC f r l) Z H Q):NM (rJ X f) (tM X (RV' X) r) (tM X (RV' X) l) Z H Q:=by obtain⟨U,a,h,u,S,q⟩:=q;refine⟨U,a,h,u,S,Ful.bind q λz H1 x x' F _ M j E B=>?_⟩;refine⟨z,a,F,u.le M,j,Ful.bind B λL H2 y y' C _ R i O P=>?_⟩;exact⟨L,C,x,y,i,E.le R,O,P.zero⟩
def aX(i:xy X (binaryOp op) f)(j:ME X a ma)(l:ME X b mb):ME X (.BinOp a op b pos) (aC f ma mb) :=
 PE.imp (NN i j l) λ_ _ _ q=>wo q
def N8(y:UT X (unaryOp op) f)(E:ME X a ma):ME X (.UnaryOp op a pos) (N7 f ma) :=
 PE.imp (NO y E) λ_ _ _ ⟨U,j,h,l,B,q⟩=>⟨U,j,h,l,B,Ful.bind q λu H x L r _ F i C z=>⟨u,r,x,i,C,z.zero⟩⟩
def J7(i:xy X (compareOp op) f)(l:ME X a ma)(r:ME X b mb)(j:behindInMarks op b=T):ME X (.Compare a [op] [b] pos) (aC f ma mb) :=
 PE.imp (FN i l r j) λ_ _ _ q=>wo q
def mB(m:Mx PV):Mx Bool:=λZ h=>(m Z h).bind λv a=>match v with
 |.bl b=>.ok b a
 |_=>.bad
def N9(q:tM X N6 (mB m) Z H Q):tM X (RV' X) m Z H λx f=>∃c,x=.bl c/\Q c f:=by
 obtain⟨U,i,h,u,y,q⟩:=q;refine⟨U,i,h,u,y,Ful.bind q λl f x B z _ C a r j=>?_⟩
 cases r with
 |bl b=>exact⟨b,rfl,j l f b (Le.refl _ _) a rfl⟩
 |_=>exact j.elim
def A9(l:xy X (compareOp op) f)(y:ME X a ma)(z:ME X b mb)(r:behindInMarks op b=T):MT X (.Compare a [op] [b] pos) (mB (aC f ma mb)) :=
 PT.imp (FO l y z r) λZ H Q q=>by
  obtain⟨U,i,h,j,u,q⟩:=N9 q;exact wo ⟨U,i,h,j,u,q⟩
def uO(h:ME X e m)(f:∀a,isTrue e X.env a=(do let v <-a;standAt e.pos;holding [v] (truthy v)):=by intro _;rfl):MT X e (mB m) :=
 PT.imp (Jy h f) λ_ _ _ q=>N9 q
def pI(m:Mx Bool):Mx Bool:=λZ h=>(m Z h).bind λb a=>.ok (!b) a
def vH(h:MT X e m):MT X (.UnaryOp .Not e pos) (pI m) :=
 PT.imp (JB h) λ_ _ _ ⟨U,f,h,i,u,q⟩=>⟨U,f,h,i,u,Ful.bind q λj l x C z _ B a y r=>by
  cases y;exact r j l _ (Le.refl _ _) a rfl⟩
def J8(a b:Mx Bool):Mx Bool:=λZ h=>(a Z h).bind λx f=>if x=I then b Z f else .ok T f
def SM(a b:Mx Bool):Mx Bool:=λZ h=>(a Z h).bind λx f=>if x=I then .ok I f else b Z f
section
variable{a b:Expr}{rest:WX}{ma mb:Mx Bool}{pos:Pos}
def F1(f:MT X a ma):MW X (.BoolOp .And [a] pos) ma:=FE f
def J9(f:MT X a ma):MW X (.BoolOp .Or [a] pos) ma:=Jz f
def J_(B:MT X a ma)(u:MW X (.BoolOp .And (b::rest) pos) mb):MW X (.BoolOp .And (a::b::rest) pos) (J8 ma mb) :=
 PW.imp (JA B u) λZ H Q ⟨U,i,h,r,F,q⟩=>⟨U,i,h,r,F,Ful.bind q λj C x L z _ E f y l=>by
  cases y
  cases x with
  |true=>exact⟨j,i,z,r.le E,f,l⟩
  |false=>exact l j C _ (Le.refl _ _) f rfl⟩
def N_(B:MT X a ma)(u:MW X (.BoolOp .Or (b::rest) pos) mb):MW X (.BoolOp .Or (a::b::rest) pos) (SM ma mb) :=
 PW.imp (Nz B u) λZ H Q ⟨U,i,h,r,F,q⟩=>⟨U,i,h,r,F,Ful.bind q λj C x L z _ E f y l=>by
  cases y
  cases x with
  |true=>exact l j C _ (Le.refl _ _) f rfl
  |false=>exact⟨j,i,z,r.le E,f,l⟩⟩
def MW.mt(h:MW X e m):MT X e m:=PW.pt h
end
def yG(a b:Mx PV):Mx PV:=λZ h=>(a Z h).bind λx f=>match x with
 |.bl c=>if c=I then b Z f else .ok (.bl T) f
 |_=>.bad
def yO(a:Mx PV):Mx PV:=λZ h=>(a Z h).bind λx f=>match x with
 |.bl c=>.ok (.bl (!c)) f
 |_=>.bad
section
variable{a b:Expr}{rest:WX}{ma mb:Mx PV}{pos:Pos}
def Ka(f:ME X a ma):ME X (.BoolOp op [a] pos) ma:=JC f
def Kb(B:ME X a ma)(u:ME X (.BoolOp .And (b::rest) pos) mb):ME X (.BoolOp .And (a::b::rest) pos) (yG ma mb) :=
 PE.imp (JD B u) λZ H Q ⟨U,i,h,r,F,q⟩=>⟨U,i,h,r,F,Ful.bind q λl C x L z _ E f y j=>by
  cases y with
  |bl c =>
   refine⟨c,rfl,?_⟩
   cases c with
   |true=>exact⟨l,i,z,r.le E,f,j⟩
   |false=>exact j l C _ (Le.refl _ _) f (.bl T)
  |_=>exact j.elim⟩
def Kc(u:ME X a ma):ME X (.UnaryOp .Not a pos) (yO ma) :=
 PE.imp (JE u) λZ H Q ⟨U,i,h,z,B,q⟩=>⟨U,i,h,z,B,Ful.bind q λl y x E C _ F f r j=>by
  cases r with
  |bl c=>exact⟨c,rfl,j l y _ (Le.refl _ _) f (.bl _)⟩
  |_=>exact j.elim⟩
end
def ib:Mx (WL):=λ_ h=>.ok [] h
def aq(a:Mx PV)(r:Mx (WL)):Mx (WL):=λZ h=>(a Z h).bind λx f=>(r Z f).bind λxs i=>.ok (x::xs) i
def bC:MA X [] ib:=PA.imp jA λZ H Q ⟨U,a,h,i,f,q⟩=>q U H _ (Le.refl _ _) f .nil
def aK(E:ME X e m)(u:MA X es ms)(S:starEach (e::es) X.env=(T,eval e X.env)::starEach es X.env:=by rfl):MA X (e::es) (aq m ms) :=
 PA.imp (eJ E u S) λZ H Q ⟨U,a,h,j,R,q⟩=>⟨U,a,h,j,R,Ful.bind q λl H1 x x' B _ L i z r =>
  ⟨l,a,B,j.le L,i,Ful.bind r λC F y y' h2 _ P f M O=>O C F _ (Le.refl _ _) f (.cons (z.le P) M)⟩⟩
def pq(xs:WL)(h:MH):WZ:=if xs.length<=sizeLine then .ok (.loc h.length) (h++[.lst xs])else .bad
def wx(xs:WL)(h:MH):WZ:=if xs.length<=sizeLine then .ok (.tup xs) h else .bad
def oq{U:WS}{H:Hp}{h:MH}{xs:WL}{ys:List V}{Q:VK}(i:RH X.K X.mg U H h)(a:RPs X.K U H xs ys)(f:kK X (RV' X) U H (pq xs h) Q):ys.length<=sizeLine/\∀p,H p=Y->Q (.ref p) (ky H p (.lst ys)):=by
 unfold pq at f
 split at f
 .rename_i r
  refine⟨by rw[<-a.length];exact r,λp u=>?_⟩;obtain⟨l,j⟩:=i.new u (o:=.lst xs) ⟨ys,rfl,a⟩;refine f _ _ _ j l (.loc ?_);rw[<-i.len];simp
 .exact f.elim
def xj{U:WS}{H:Hp}{h:MH}{xs:WL}{ys:List V}{Q:VK}(l:RH X.K X.mg U H h)(a:RPs X.K U H xs ys)(f:kK X (RV' X) U H (wx xs h) Q):ys.length<=sizeLine/\∀p,H p=Y->Q (.ref p) (ky H p (.tup ys)):=by
 unfold wx at f
 split at f
 .rename_i r
  refine⟨by rw[<-a.length];exact r,λp u=>?_⟩;obtain⟨j,i⟩:=l.tup u ys;exact f _ _ _ i j (.tup (.inl (.inl cg)) (a.le i))
 .exact f.elim
def Kd{a:ly}{U:WS}{H:Hp}{h:MH}{xs:WL}{Q:VK}(f:Ful X (RV' X) a U H (pq xs h) Q):kK X (RV' X) U H (pq xs h) Q:=by
 unfold pq at f ⊢
 split at f
 .rw[c_ (by assumption)];exact f
 .exact f.elim
def Ke{a:ly}{U:WS}{H:Hp}{h:MH}{xs:WL}{Q:VK}(f:Ful X (RV' X) a U H (wx xs h) Q):kK X (RV' X) U H (wx xs h) Q:=by
 unfold wx at f ⊢
 split at f
 .rw[c_ (by assumption)];exact f
 .exact f.elim
def gL(m:Mx (WL)):Mx PV:=λZ h=>(m Z h).bind pq
def F2(m:Mx (WL)):Mx PV:=λZ h=>(m Z h).bind wx
def Bg(h:MA X es ms):ME X (.List es pos) (gL ms) :=
 PE.imp (JU h) λZ H Q ⟨U,f,h,l,r,q⟩=>⟨U,f,h,l,r,Ful.bind q λu B x z y _ C a j i=>oq a j (Kd i)⟩
def Kf(h:MA X es ms):ME X (.Tuple es j pos) (F2 ms) :=
 PE.imp (BY h) λZ H Q ⟨U,f,h,r,u,q⟩=>⟨U,f,h,r,u,Ful.bind q λy C x B z _ E a l i=>xj a l (Ke i)⟩
def SOut.then(o:SOut)(k:mh):SOut:=match o with
 |.nx Z h=>k Z h
 |o=>o
def bJ(a b:mh):mh:=λZ h=>(a Z h).then b
def l7:mh:=λZ h=>.nx Z h
def jx:Dr X [] l7:=PSs.imp FF λD Z H ⟨U,f,h,a,i,q⟩=>q U H Z (Le.refl _ _) i a
def F3{st:Stmt}{m:mh}(h:MS X st m):Dr X [st] m:=FG h
def bU.then{U:WS}{H:Hp}{o:SOut}{k:mh}{D:Ends}(q:bU X U H (o.then k) D):bU X U H o { D with nx:=λZ H=>QW X k D Z H}:=by
 cases o with
 |nx a h=>exact λf j i l r s=>⟨f,a,h,s,r,bU.le l q⟩
 |_=>exact q
def Db{st:Stmt}{a:List Stmt}{m u:mh}(j:MS X st m)(r:Dr X a u):Dr X (st::a) (bJ m u) :=
 PSs.imp (C6 j r) λD Z H ⟨U,f,h,i,l,q⟩=>⟨U,f,h,i,l,bU.then q⟩
def cr(m:Mx PV):mh:=λZ h=>match m Z h with
 |.ok v a=>.rt v a
 |.exc x a=>.exc x Z a
 |.bad=>.bad
def Kg(l:ME X e m):MS X (.Return (J e) pos) (cr m) :=
 PS.imp (JF l) λD Z H ⟨U,a,h,f,i,q⟩=>⟨U,a,h,f,i,by
  unfold cr at q
  cases e:m a h with
  |ok v j=>rw[e]at q;exact q
  |exc x j=>rw[e]at q;exact q
  |bad=>rw[e]at q;exact q⟩
def zi{α:Type}(m:Mx α)(k:α->mh):mh:=λZ h=>match m Z h with
 |.ok v a=>k v Z a
 |.exc x a=>.exc x Z a
 |.bad=>.bad
def bU.ex{α β:Type}{R:Rl α β}{m:Mx α}{k:α->mh}{U:WS}{H:Hp}{a:ly}{h:MH}{D:Ends}{Q:β->Hp->Prop}(q:bU X U H (zi m k a h) D)(w:∀i f v j u,Le U H i f->RH X.K X.mg i f u->R i f v j->bU X i f (k v a u) D->Q j f):Ful X R a U H (m a h) Q:=by
 unfold zi at q
 cases e:m a h with
 |ok v y=>rw[e]at q;exact λi f j l r z=>w i f v j y l r z (bU.le l q)
 |exc x y=>rw[e]at q;exact q
 |bad=>rw[e]at q;exact q
def fD(m:Mx PV):mh:=zi m λ_=>l7
def oS{e:Expr}{m:Mx PV}{a:Pos}(B:ME X e m)(u:swapsWith e Y a.line X.env=pure T:=by rfl):MS X (.Expr e a) (fD m) :=
 PS.imp (FH B u) λD Z H ⟨U,f,h,i,C,q⟩=>⟨U,f,h,i,C,bU.ex q λj y v F E l r z w=>w j y Z (Le.refl _ _) r (i.le l)⟩
def Ec(c:Mx Bool)(a b:mh):mh:=zi c λx=>if x=I then a else b
def lC{c:Expr}{a b:List Stmt}{E:Mx Bool}{C B:mh}{j:Pos}(F:MT X c E)(M:Dr X a C)(L:Dr X b B):MS X (.If c a b j) (Ec E C B) :=
 PS.imp (NE F M L) λD Z H ⟨U,f,h,i,O,q⟩=>⟨U,f,h,i,O,bU.ex q λu Q v P y l r z w=>by
  cases z
  cases v with
  |true=>exact⟨u,f,y,i.le l,r,w⟩
  |false=>exact⟨u,f,y,i.le l,r,w⟩⟩
def bN(i:Nat)(m:Mx PV):mh:=zi m λv Z h=>.nx (Z.set i (J v)) h
def mV(g:Good X N W G k)(i:Nat){x:Str}{e:Expr}{m:Mx PV}{f a:Pos}(u:N[i]?=J x)(C:W[i]?=J x)(L:ME X e m)(E:swapsWith e (J (.Name x a)) f.line X.env=pure T:=by rfl):
  MS X (.Assign [.Name x a] e f) (bN i m):=by
 refine PS.imp (JJ (by rw[g.hN];exact g.nd) (g.x u) (g.loc x (aN u)) L E (g.fn x (aN C))) λD Z H ⟨U,j,h,y,M,q⟩=>?_;exact⟨U,j,h,y,M,bU.ex q λB F v P O l r z w=>w B F _ (Le.refl _ _) r ((y.le l).set i z)⟩
end
section
variable{X:Cx}{N W G:WM}{k:Nat}
abbrev Mg:=PV->mh
def pc(X:Cx)(U:WS)(H:Hp)(o:SOut)(Q:L2.St->Hp->Prop):Prop:=match o with
 |.nx a i=>∀j f l,Le U H j f->RH X.K X.mg j f i->RS X.K j f a l->Q l f
 |.exc x a i=>XP X a U H x i
 |_=>False
def pc.le(l:Le U H U1 H1)(f:pc X U H o Q):pc X U1 H1 o Q:=by
 cases o with
 |nx a h=>exact λr j i u=>f r j i (l.trans u)
 |exc x a h=>exact XP.le l f
 |_=>exact f
inductive tG(X:Cx)(g:Mg)(v':V)(Z:L2.St)(H:Hp)(Q:L2.St->Hp->Prop):Prop
 |mk(U:WS)(σp:ly)(h:MH)(v:PV)(rs:RS X.K U H σp Z)(rh:RH X.K X.mg U H h)(rv:RP X.K U H v v')(q:pc X U H (g v σp h) Q):tG X g v' Z H Q
def MG(X:Cx)(a:Expr)(g:Mg):Prop:=PG X a (tG X g)
def PG.imp(h:PG X e t)(i:∀v Z H Q,t' v Z H Q->t v Z H Q):PG X e t':=λf s Z H v u Q a r q=>h f s Z H v u Q a r (i v Z H Q q)
def CL(i:Nat):Mg:=λv Z h=>.nx (Z.set i (J v)) h
def yx(g:Good X N W G k)(i:Nat)(a:N[i]?=J x)(r:W[i]?=J x):MG X (.Name x pos) (CL i) :=
 PG.imp (yy (by rw[g.hN];exact g.nd) (g.x a) (g.loc x (aN a)) (g.fn x (aN r))) λy Z H Q ⟨U,l,h,v,f,u,j,q⟩=>q U H _ (Le.refl _ _) u (f.set i j)
abbrev F4:=WL->mh
inductive UU(X:Cx)(g:F4)(v':List V)(Z:L2.St)(H:Hp)(Q:L2.St->Hp->Prop):Prop
 |mk(U:WS)(σp:ly)(h:MH)(v:WL)(rs:RS X.K U H σp Z)(rh:RH X.K X.mg U H h)(rv:RPs X.K U H v v')(q:pc X U H (g v σp h) Q):UU X g v' Z H Q
def Ob(X:Cx)(a:WX)(g:F4):Prop:=PGs X a (UU X g)
def PGs.imp(h:PGs X e t)(i:∀v Z H Q,t' v Z H Q->t v Z H Q):PGs X e t':=λf s Z H v u Q a r q=>h f s Z H v u Q a r (i v Z H Q q)
def Oc:F4:=λa Z h=>match a with
 |[]=>.nx Z h
 |_=>.bad
def Im(a:Mg)(r:F4):F4:=λi Z h=>match i with
 |v::f=>(a v Z h).then (r f)
 |[]=>.bad
def xQ:Ob X [] Oc:=PGs.imp FI λl Z H Q ⟨U,i,h,v,a,j,f,q⟩=>by
 cases f with
 |nil=>exact⟨rfl,q U H Z (Le.refl _ _) j a⟩
 |cons _ _=>exact q.elim
def pX(i:MG X e a)(u:Ob X es r)(P:(assignEach (e::es) X.env).map (·.2)=assign e X.env::(assignEach es X.env).map (·.2):=by rfl):Ob X (e::es) (Im a r) :=
 PGs.imp (DU i u P) λv' Z H Q ⟨U,f,h,v,F,O,j,q⟩=>by
  cases j with
  |nil=>exact q.elim
  |@cons x y xs ys B C =>
   refine⟨_,_,rfl,U,f,h,x,F,O,B,?_⟩;dsimp only[Im]at q
   cases e:a x f h with
   |nx L i=>rw[e]at q;exact λz S R l M E=>⟨z,L,i,xs,E,M,C.le l,pc.le l q⟩
   |_=>rw[e]at q;exact q
def MX(r:F4)(n:Nat):Mg:=λv Z h=>match v with
 |.tup xs=>if xs.length=n then r xs Z h else .bad
 |_=>.bad
def Bn(g:Good X N W G k){a:WX}{j:Nat}{r:F4}{n:Nat}{l:Pos}(h:Ob X a r)(z:(assignEach a X.env).length=n:=by rfl)(f:(assignEach a X.env).findIdx? (·.1)=Y:=by rfl):
  MG X (.Tuple a j l) (MX r n) :=
 PG.imp (JG g.calm h z f) λF Z H Q ⟨U,i,h,v,B,C,y,q⟩=>by
  cases y with
  |tup s u =>
   dsimp only[MX]at q
   split at q
   .rename_i E
    exact⟨_,_,rfl,s,by rw[<-u.length];exact E,U,i,h,_,B,C,u,q⟩
   .exact q.elim
  |_=>exact q.elim
def pT(m:Mx PV)(g:Mg):mh:=zi m λv Z h=>match g v Z h with
 |.nx a f=>.nx a f
 |.exc x a f=>.exc x a f
 |_=>.bad
def qA{f e:Expr}{m:Mx PV}{g:Mg}{i:Pos}(F:ME X e m)(C:MG X f g)(E:swapsWithSole [f] e i.line X.env=pure T:=by rfl)(B:swappedStores [f] e X.env=pure Y:=by rfl)(j:(assignEach [f] X.env).map (·.2)=[assign f X.env]:=by rfl):MS X (.Assign [f] e i) (pT m g) :=
 PS.imp (JI F C E B j) λD Z H ⟨U,a,h,u,L,q⟩=>⟨U,a,h,u,L,bU.ex q λy O v M j l r z w=>⟨y,a,j,v,u.le l,r,z,by
  cases e:g v a j with
  |_=>rw[e]at w;exact w⟩⟩
def pS(o i v:PV)(h:MH):Option MH:=match o,i with
 |.loc n,.int j=>(match h[n]? with
  |some (.lst xs)=>(qp xs.length j).map λp=>h.set n (.lst (xs.set p v))
  |_=>Y)
 |_,_=>Y
def Io(a j:Mx PV):Mg:=λv=>zi a λo=>zi j λi Z h=>match pS o i v h with
 |some f=>.nx Z f
 |none=>.bad
def wC(ho:ME X o mo)(hi:ME X i mi)(ha:∀v,assign (.Subscript o i pos) X.env v=(do
   let r <-holding [v] (eval o X.env)
   let y <-holding [v,r] (eval i X.env)
   standAt pos
   holding [v,r,y] (setItem r y v)
   release [v,r,y] []):=by intro _;rfl):MG X (.Subscript o i pos) (Io mo mi) :=
 PG.imp (JH ho hi Ct ha) λv' Z H Q ⟨U,f,h,v,O,rh,rv,q⟩=>by
  refine⟨U,f,h,O,rh,?_⟩;unfold Io zi at q
  cases e:mo f h with
  |exc x B=>rw[e]at q;exact q
  |bad=>rw[e]at q;exact q
  |ok r B =>
   rw[e]at q;intro U1 H1 o' u M ro;refine⟨U1,f,B,O.le u,M,?_⟩;dsimp only at q
   cases e2:mi f B with
   |exc x h2=>rw[e2]at q;exact XP.le u q
   |bad=>rw[e2]at q;exact q
   |ok y h2 =>
    rw[e2]at q;intro U2 H2 i' z l ri;have F:=ro.le z;have L:=(rv.le u).le z;unfold pS at q
    cases F with
    |@loc n a P =>
     cases ri with
     |int j =>
      dsimp only at q;obtain⟨ob,eo,E⟩:=l.obj P;rw[eo]at q
      cases ob with
      |dic S=>exact q.elim
      |exc x=>exact q.elim
      |lst xs =>
       obtain⟨ys,ey,R⟩:=E;dsimp only at q
       cases C:qp xs.length j with
       |none=>rw[C]at q;exact q.elim
       |some p =>
        rw[C]at q;refine⟨a,ys,j,p,rfl,rfl,ey,by rw[<-R.length];exact C,?_⟩;obtain⟨r3,l3⟩:=l.put P (o:=.lst (xs.set p v)) ⟨_,rfl,RPs.set L p R⟩;exact q U2 _ Z (u.trans (z.trans l3)) r3 (O.le (u.trans (z.trans l3)))
     |_=>exact q.elim
    |_=>exact q.elim
structure MIt where
 xs:WL
 gd:List (Nat×WL):=[]
def MIt.ok(a:MIt)(h:MH):Prop:=∀p∈a.gd,h[p.1]?=J (.lst p.2)
def rj(X:Cx):Rl MIt It:=λy u j a=>∀U H h (i:Nat),Le y u U H->RH X.K X.mg U H h->j.ok h ->
 (i<j.xs.length->a.go i H/\∀r f,a.yld i H r f->∃l x,Le U H l f/\RH X.K X.mg l f h/\j.xs[i]?=J x/\RP X.K l f x r)/\(j.xs.length<=i->a.stop i H)
def MI(X:Cx)(f a:Expr)(m:Mx MIt):Prop:=PI X f a (tM X (rj X) m)
def PI.imp(h:PI X tg e t)(i:∀Z H Q,t' Z H Q->t Z H Q):PI X tg e t':=λf s Z H Q a q=>h f s Z H Q a (i Z H Q q)
def xT(i:MIt)(g:Mg)(b:mh):WL->mh
 |[]=>λZ h=>if i.ok h then .nx Z h else .bad
 |x::r=>λZ h=>if i.ok h then (match g x Z h with
   |.nx l j=>(match b l j with
    |.nx f a=>xT i g b r f a
    |.ct f a=>xT i g b r f a
    |.bk f a=>.nx f a
    |.rt v a=>.rt v a
    |.exc e f a=>.exc e f a
    |.rse e f a=>.rse e f a
    |.bad=>.bad)
   |.exc e l j=>.exc e l j
   |_=>.bad)else .bad
def nN(f:Mx MIt)(g:Mg)(b:mh):mh:=zi f λa=>xT a g b a.xs
def v3(gd:Good X N W G k)(hi:MI X tg iter mi)(hg:MG X tg g)(hb:Dr X body mb)(hs:∀x,foldedSetIterable iter X.env x=pure x:=by intro _;rfl):MS X (.For tg iter body [] pos) (nN mi g mb):=by
 refine PS.imp (JM gd.po gd.calm hi hg hb hs) λD Z H ⟨U,l,h,rs,rh,q⟩=>⟨U,l,h,rs,rh,bU.ex q λS H1 f as h1 l1 ap jr w=>?_⟩;refine⟨λi m Z H=>m=f.xs.length-i/\i<=f.xs.length/\∃U l h,Le S H1 U H/\RS X.K U H l Z/\RH X.K X.mg U H h/\bU X U H (xT f g mb (f.xs.drop i) l h) D,⟨_,rfl,t0 _,S,l,h1,Le.refl _ _,rs.le l1,ap,w⟩,?_⟩;rintro i m Z2 H2 ⟨rfl,hi,U2,C,R,l2,M,E,r⟩;by_cases u:i<f.xs.length
 .have ed:f.xs.drop i=f.xs[i]::f.xs.drop (i+1):=HQ u;rw[ed]at r;unfold xT at r
  split at r
  .rename_i hok
   obtain⟨j1,j2⟩:=jr U2 H2 R i l2 E hok;obtain⟨go,yl⟩:=j1 u;refine .inr ⟨go,λZ3 P=>∃Q B h3,Le S H1 Q P/\RS X.K Q P B Z3/\RH X.K X.mg Q P h3/\bU X Q P (xT f g mb (f.xs.drop (i+1)) B h3) D,λZ3 P z=>⟨_,by ext,rfl,u,z⟩,λx' H' y=>?_⟩;obtain⟨U',x,l',al,ex,rx⟩:=yl x' H' y;have an:x=f.xs[i]:=by rw[q_ u]at ex;exact(Option.some.inj ex).symm
   subst an;refine⟨U',C,R,_,M.le l',al,rx,?_⟩;have j:=bU.le l' r
   cases eg:g f.xs[i] C R with
   |nx Z4 h4 =>
    rw[eg]at j;intro U5 H5 Z5 l5 r5 s5;refine⟨U5,Z4,h4,s5,r5,?_⟩;have a:=bU.le l5 j;have l6:Le S H1 U5 H5:=l2.trans (l'.trans l5);dsimp only at a
    cases em:mb Z4 h4 with
    |nx L F=>rw[em]at a;exact λU7 H7 Z7 O r7 s7=>⟨U7,L,F,l6.trans O,s7,r7,bU.le O a⟩
    |ct L F=>rw[em]at a;exact λU7 H7 Z7 O r7 s7=>⟨U7,L,F,l6.trans O,s7,r7,bU.le O a⟩
    |bk L F=>rw[em]at a;exact a
    |rt v F=>rw[em]at a;exact a
    |exc e L F=>rw[em]at a;exact a
    |rse e L F=>rw[em]at a;exact a
    |bad=>rw[em]at a;exact a
   |exc e Z4 h4=>rw[eg]at j;exact j
   |_=>rw[eg]at j;exact j.elim
  .exact r.elim
 .have e:i=f.xs.length:=by ext
  rw[e,List.drop_length]at r;unfold xT at r
  split at r
  .rename_i hok
   obtain⟨j1,j2⟩:=jr U2 H2 R i l2 E hok;exact .inl ⟨j2 (by ext),r U2 H2 Z2 (Le.refl _ _) E M⟩
  .exact r.elim
def Ip(v:PV)(h:MH):Out MIt:=match v with
 |.loc n=>(match h[n]? with
  |some (.lst xs)=>.ok ⟨xs,[(n,xs)]⟩ h
  |_=>.bad)
 |.frl xs=>.ok ⟨xs,[]⟩ h
 |_=>.bad
def Od(m:Mx PV):Mx MIt:=λZ h=>(m Z h).bind Ip
def x9(L:∀j f h,Le U H j f->RH X.K X.mg j f h->(⟨xs,gd⟩:MIt).ok h->∃ys,SqL X.K f a ys/\RPs X.K j f xs ys):rj X U H ⟨xs,gd⟩ (Sr X.K a):=by
 intro j f h i l F ok;obtain⟨ys,u,C⟩:=L j f h l F ok;refine⟨λr=>?_,λr=>⟨ys,u,by rw[<-C.length];exact r⟩⟩;have E:=q_ r;obtain⟨y,B,M⟩:=C.get E;refine⟨⟨ys,y,u,B⟩,λO P ⟨e,z⟩=>?_⟩;subst e
 have:=z ys u
 rw[B]at this;cases this;exact⟨j,_,Le.refl _ _,F,E,M⟩
def F5(hl:ME X l m):MI X tg l (Od m) :=
 PI.imp (FJ hl) λZ H Q ⟨U,C,h,rs,rh,q⟩=>⟨U,C,h,rs,rh,Ful.bind q λE F x x' h1 _ l1 i P f=>by
  cases P with
  |@loc n a e =>
   obtain⟨S,eo,u⟩:=i.obj e;dsimp only[Ip]at f;rw[eo]at f
   cases S with
   |dic L=>exact f.elim
   |exc x=>exact f.elim
   |lst xs =>
    obtain⟨ys,ey,ry⟩:=u;refine⟨a,rfl,⟨ys,SqL.of ey⟩,f E F _ (Le.refl _ _) i (x9 λO M R l j ok=>?_)⟩;obtain⟨y,B,z⟩:=j.at' n a _ (l.get e) (ok (n,xs) (by simp));exact⟨y,SqL.of B,z⟩
  |frl s r =>
   exact⟨_,rfl,⟨_,s.sq⟩,f E F _ (Le.refl _ _) i (x9 λO M R l j ok=>⟨_,(l.sqf s).sq,r.le l⟩)⟩
  |_=>exact f.elim⟩
def Oe(m:Mx PV):Mx MIt:=λZ h=>(m Z h).bind λv a=>match v with
 |.tup xs=>.ok ⟨xs,[]⟩ a
 |_=>.bad
def Kh(hl:ME X l m):MI X tg l (Oe m) :=
 PI.imp (JL hl) λZ H Q ⟨U,C,h,rs,rh,q⟩=>⟨U,C,h,rs,rh,Ful.bind q λM H1 x S h1 _ l1 f R E=>by
  cases R with
  |@tup xs a ys s r =>
   refine⟨_,rfl,⟨_,s⟩,E M H1 _ (Le.refl _ _) f ?_⟩;intro P H' h' i l u ok;have B:=l.sqt s;have O:=r.le l;refine⟨λj=>?_,λj=>⟨ys,B,by rw[<-r.length];exact j⟩⟩;have L:=q_ j;obtain⟨y,F,ry⟩:=O.get L;refine⟨⟨ys,y,B,F⟩,λS H2 ⟨e,z⟩=>?_⟩;subst e
   have:=z ys B
   rw[F]at this;cases this;exact⟨P,_,Le.refl _ _,u,L,ry⟩
  |_=>exact E.elim⟩
def bI(lo:Int)(n:Nat):WL:=(List.range n).map λ(i:Nat)=>PV.int (lo+(i:Int))
def mG(lo:Int)(n:Nat):(bI lo n).length=n:=by simp[bI]
def xJ(lo:Int)(n:Nat):rj X U H ⟨bI lo n,[]⟩ (NI lo n):=by intro r y h i l j ok;have f:=mG lo n;refine⟨λa=>⟨by rw[f]at a;exact a,λz u ⟨e1,e2⟩=>?_⟩,λa=>by rw[f]at a;exact a⟩;subst e1;subst e2;rw[f]at a;exact⟨r,.int (lo+i),Le.refl _ _,j,by simp[bI,a],.int _⟩
def kc(m:Mx (WL)):Mx MIt:=λZ h=>(m Z h).bind λf a=>match f with
 |[.int j]=>if -(2^62)<=j/\j<2^62 then .ok ⟨bI 0 j.toNat,[]⟩ a else .bad
 |_=>.bad
def oC(m:Mx (WL)):Mx MIt:=λZ h=>(m Z h).bind λf a=>match f with
 |[.int i,.int j]=>if -(2^62)<=i/\i<2^62 /\ -(2^62)<=j/\j<2^62 then .ok ⟨bI i (j-i).toNat,[]⟩ a else .bad
 |_=>.bad
def tJ(C:Gl X "range")(z:X.mg "range"=Y)(E:MA X [a] m)(P:starEach [a] X.env=[(T,eval a X.env)]:=by rfl):MI X tg (.Call (.Name "range" p) [a] [] pos) (kc m):=by
 refine PI.imp (Cc C z E P) λZ H Q ⟨U,l,h,M,O,q⟩=>⟨U,l,h,M,O,Ful.bind q λy F x x' R _ l1 i B f=>?_⟩
 cases B with
 |nil=>exact f.elim
 |cons r L =>
  cases L with
  |nil =>
   cases r with
   |int j =>
    dsimp only at f
    split at f
    .rename_i u
     exact⟨j,rfl,u.1,u.2,f y F _ (Le.refl _ _) i (xJ 0 j.toNat)⟩
    .exact f.elim
   |_=>exact f.elim
  |cons S t2=>cases r<;>exact f.elim
def tF{R a b:Expr}{m:Mx (WL)}{p r:Pos}(B:Gl X "range")(y:X.mg "range"=Y)(E:MA X [a,b] m)(F:starEach [a,b] X.env=[(T,eval a X.env),(T,eval b X.env)]:=by rfl)(i:starEach [b] X.env=[(T,eval b X.env)]:=by rfl):MI X R (.Call (.Name "range" p) [a,b] [] r) (oC m):=by
 refine PI.imp (Bp B y E F i) λZ H Q ⟨U,l,h,P,rh,q⟩=>⟨U,l,h,P,rh,Ful.bind q λu L x x' h1 _ l1 j z f=>?_⟩
 split at f
 .cases z with
  |cons S M =>
   cases M with
   |cons C O =>
    cases O;cases S;cases C
    split at f
    .rename_i hj
     exact⟨_,_,rfl,hj,f u L _ (Le.refl _ _) j (xJ _ _)⟩
    .exact f.elim
 .exact f.elim
def dh(c:Mx Bool)(b:mh):Nat->mh
 |0=>λ_ _=>.bad
 |n+1=>zi c λx=>if x=I then (λZ h=>match b Z h with
   |.nx f a=>dh c b n f a
   |.ct f a=>dh c b n f a
   |.bk f a=>.nx f a
   |.rt v a=>.rt v a
   |.exc e f a=>.exc e f a
   |.rse e f a=>.rse e f a
   |.bad=>.bad)else l7
def MY(c:Mx Bool)(b:mh):mh:=λZ h=>if z:∃n,dh c b n Z h≠.bad then dh c b (Classical.choose z) Z h else .bad
def mY:∀{n:Nat}{Z:ly}{h:MH},dh c b n Z h≠.bad->dh c b (n+1) Z h=dh c b n Z h
 |n+1,Z,h,q=>by
  rw[dh]at q;rw[dh]
  conv=>rhs;rw[dh]
  unfold zi at q ⊢
  cases e:c Z h with
  |exc x a=>rfl
  |bad=>rfl
  |ok x a =>
   rw[e]at q
   cases x with
   |false=>rfl
   |true =>
    simp only[if_true]at q ⊢
    cases em:b Z a with
    |nx f i=>rw[em]at q;exact mY q
    |ct f i=>rw[em]at q;exact mY q
    |_=>rfl
def xZ(q:dh c b n Z h≠.bad)(l:n<=m):dh c b m Z h=dh c b n Z h:=by
 induction l with
 |refl=>rfl
 |step l a=>rw[mY (by rw[a];exact q),a]
def nF(q:dh c b n Z h≠.bad):MY c b Z h=dh c b n Z h:=by
 have z:∃n,dh c b n Z h≠.bad:=⟨n,q⟩;delta MY;rw[dif_pos z];have a:=Classical.choose_spec z;rcases Nat.le_total n (Classical.choose z)with l|l
 .exact xZ q l
 .exact (xZ a l).symm
def Cu(gd:Good X N W G k)(Q:MT X c mc)(R:Dr X body mb):MS X (.While c body [] pos) (MY mc mb):=by
 refine PS.imp (CM gd.po Q R) λD Z H ⟨U,a,h,rs,rh,q⟩=>?_;refine⟨λm Z H=>∃U a h,RS X.K U H a Z/\RH X.K X.mg U H h/\bU X U H (dh mc mb m a h) D,?_,?_⟩
 .unfold MY at q
  split at q
  .exact⟨_,U,a,h,rs,rh,q⟩
  .exact q.elim
 .rintro m Z1 H1 ⟨P,f,h1,j,B,E⟩
  cases m with
  |zero=>exact E.elim
  |succ m =>
   refine⟨P,f,h1,j,B,bU.ex E λL H2 v v' F O M z w=>?_⟩;cases z
   cases v with
   |false=>exact w L H2 Z1 (Le.refl _ _) M (j.le O)
   |true =>
    rw[c_ rfl]at w ⊢;refine⟨λZ H=>∃U a h,RS X.K U H a Z/\RH X.K X.mg U H h/\bU X U H (dh mc mb m a h) D,λZ' H' z=>⟨m,MQ _,z⟩,L,f,F,j.le O,M,?_⟩
    cases em:mb f F with
    |nx l i=>rw[em]at w;exact λC S Z7 y r u=>⟨C,l,i,u,r,bU.le y w⟩
    |ct l i=>rw[em]at w;exact λC S Z7 y r u=>⟨C,l,i,u,r,bU.le y w⟩
    |bk l i=>rw[em]at w;exact w
    |rt v i=>rw[em]at w;exact w
    |exc e l i=>rw[em]at w;exact w
    |rse e l i=>rw[em]at w;exact w
    |bad=>rw[em]at w;exact w
def de(f:PV->Option PyData):WL->Option (List PyData)
 |[]=>J []
 |x::r=>match f x,de f r with
  |some d,J a=>J (d::a)
  |_,_=>Y
def rd:Nat->MH->PV->Option PyData
 |0,_,v=>(match v with
  |.non=>J .none
  |.bl b=>J (.bool b)
  |.int i=>J (.int i)
  |.str x=>J (.str x)
  |_=>Y)
 |n+1,h,v=>(match v with
  |.non=>J .none
  |.bl b=>J (.bool b)
  |.int i=>J (.int i)
  |.str x=>J (.str x)
  |.tup xs=>(de (rd n h) xs).map PyData.tuple
  |.frl xs=>(de (rd n h) xs).map PyData.list
  |.loc m=>(match h[m]? with
   |some (.lst xs)=>(de (rd n h) xs).map PyData.list
   |_=>Y))
def iz{l:Heap}{f:PV->Option PyData}{K:h_}{U:WS}{H:Hp}(hf:∀v y u d,RP K U H v y->aZ y u->f v=J d->∃j,Reads l u d j):
  ∀{xs:WL}{ys:List V}{i:WT}{a:List PyData},RPs K U H xs ys->aD ys i->de f xs=J a->∃j,ReadsAll l i a j:=by
 intro xs
 induction xs with
 |nil =>
  intro ys i a r v e;cases r;cases v;cases e;exact⟨_,.nil⟩
 |cons x xs C =>
  intro ys i a r v e;cases r with|cons r t=>cases v with|cons v w =>
  simp only[de]at e
  split at e
  .rename_i d z e1 e2
   cases e;obtain⟨L,B⟩:=hf _ _ _ _ r v e1;obtain⟨F,E⟩:=C t w e2;exact⟨_,.cons B E⟩
  .cases e
def g9{Oa:WU}{Z:L2.St}{H:Hp}{s:Shared}{U:WS}{h:MH}(f:Inv X Oa Z H s)(rh:RH X.K X.mg U H h):
  ∀(n:Nat)(v:PV)(B:V)(u:Value)(d:PyData),RP X.K U H v B->aZ B u->rd n h v=J d->∃z,Reads s.heap u d z:=by
 intro n
 induction n with
 |zero =>
  intro v B u d rp r e
  cases rp with
  |non=>cases e;cases r;exact⟨_,.none⟩
  |bl b=>cases e;cases r;exact⟨_,.bool b⟩
  |int i=>cases e;obtain⟨t,rfl⟩:=r;exact⟨_,.int i t⟩
  |str i=>cases e;obtain⟨t,rfl⟩:=r;exact⟨_,.str i t⟩
  |_=>cases e
 |succ n F =>
  intro v B u d rp r e
  cases rp with
  |non=>cases e;cases r;exact⟨_,.none⟩
  |bl b=>cases e;cases r;exact⟨_,.bool b⟩
  |int i=>cases e;obtain⟨t,rfl⟩:=r;exact⟨_,.int i t⟩
  |str i=>cases e;obtain⟨t,rfl⟩:=r;exact⟨_,.str i t⟩
  |@tup xs a ys s C =>
   cases r;simp only[rd]at e
   cases q:de (rd n h) xs with
   |none=>rw[q]at e;cases e
   |some L =>
    rw[q]at e;cases e;obtain⟨l,j,⟨o,e1,e2,m,e3⟩,_⟩:=f.tuple s;obtain⟨z,y⟩:=iz (F) C j q;exact⟨_,.tuple e1 e2 e3 (by simpa using y)⟩
  |@frl xs a ys s C =>
   cases r;simp only[rd]at e
   cases q:de (rd n h) xs with
   |none=>rw[q]at e;cases e
   |some L =>
    rw[q]at e;cases e;obtain⟨l,j,⟨o,m,e1,e2,_,e3⟩,_⟩:=f.list s.sq;obtain⟨z,y⟩:=iz (F) C j q;exact⟨_,.list e1 e2 e3 (by simpa using y)⟩
  |loc O =>
   cases r;simp only[rd]at e;obtain⟨P,R,E⟩:=rh.obj O;rw[R]at e
   cases P with
   |dic M=>cases e
   |exc x=>cases e
   |lst xs =>
    obtain⟨ys,Q,S⟩:=E;dsimp only at e
    cases q:de (rd n h) xs with
    |none=>rw[q]at e;cases e
    |some L =>
     rw[q]at e;cases e;obtain⟨l,j,⟨o,m',e1,e2,_,e3⟩,_⟩:=f.list (SqL.of Q);obtain⟨z,y⟩:=iz (F) S j q;exact⟨_,.list e1 e2 e3 (by simpa using y)⟩
def r_(x y:PV)(h:MH):WZ:=match rd 60 h x,rd 60 h y with
 |some a,J b=>if SeqAt.shaped a=I/\SeqAt.shaped b=I then .ok (.bl (PyData.eqv a b)) h else .bad
 |_,_=>.bad
def Ei(x y:PV)(h:MH):WZ:=match rd 60 h x,rd 60 h y with
 |some a,J b=>if SeqAt.shaped a=I/\SeqAt.shaped b=I then .ok (.bl (!PyData.eqv a b)) h else .bad
 |_,_=>.bad
def uD(z:Room k X.A):xy X (compareOp .Eq) r_:=by
 intro R s Z H L B u v Q f j i ⟨U,h,x,y,l,E,O,q⟩;unfold r_ at q
 split at q
 .rename_i a b M F
  split at q
  .rename_i r
   obtain⟨_,P⟩:=g9 f l 60 x L u a E j M;obtain⟨_,C⟩:=g9 f l 60 y B v b O i F;exact eq_dataH P C r.1 r.2 z.units ⟨.bl _,H,f,rfl,q U H _ (Le.refl _ _) l (.bl _)⟩
  .exact q.elim
 .exact q.elim
def Of(z:Room k X.A):xy X (compareOp .NotEq) Ei:=by
 intro R s Z H L B u v Q f j i ⟨U,h,x,y,l,E,O,q⟩;unfold Ei at q
 split at q
 .rename_i a b M F
  split at q
  .rename_i r
   obtain⟨_,P⟩:=g9 f l 60 x L u a E j M;obtain⟨_,C⟩:=g9 f l 60 y B v b O i F;exact ne_dataH P C r.1 r.2 z.units ⟨.bl _,H,f,rfl,q U H _ (Le.refl _ _) l (.bl _)⟩
  .exact q.elim
 .exact q.elim
def pN(f:Int->Int->PV):PV->PV->MH->WZ:=λx y h=>match x,y with
 |.int i,.int j=>.ok (f i j) h
 |_,_=>.bad
def qa(B:OpR X F (FK f))(Re:∀U H i j,RP X.K U H (g i j) (f i j)):xy X F (pN g):=by
 intro E s Z H O M u v Q a r l ⟨U,h,x,y,L,z,C,q⟩;unfold pN at q
 split at q
 .cases z;cases C;exact B E s Z H _ _ u v Q a r l ⟨_,_,rfl,rfl,q U H _ (Le.refl _ _) L (Re U H _ _)⟩
 .exact q.elim
def EZ:=pN λi j=>.bl (decide (i<j))
def Ki:=pN λi j=>.bl (decide (i<=j))
def E0:=pN λi j=>.bl (decide (j<i))
def EI:=pN λi j=>.bl (decide (j<=i))
def Iq:xy X (compareOp .Lt) EZ:=qa NQ λ_ _ _ _=>.bl _
def Og:xy X (compareOp .LtE) Ki:=qa NR λ_ _ _ _=>.bl _
def Ir:xy X (compareOp .Gt) E0:=qa NS λ_ _ _ _=>.bl _
def Iu:xy X (compareOp .GtE) EI:=qa NT λ_ _ _ _=>.bl _
def Kj(a:Bool):PV->PV->MH->WZ:=λx y h=>match y with
 |.non=>(match x with
  |.non=>.ok (.bl (!a)) h
  |_=>.ok (.bl a) h)
 |.bl b=>(match x with
  |.bl c=>.ok (.bl (if a then !(c==b)else c==b)) h
  |.non=>.ok (.bl a) h
  |.int _=>.ok (.bl a) h
  |.str _=>.ok (.bl a) h
  |.tup _=>.ok (.bl a) h
  |_=>.bad)
 |_=>.bad
def j3(x y:PV)(h:MH):WZ:=match x,y with
 |.int i,.int j=>if IntMulOk i j then .ok (.int (i*j)) h else .bad
 |.loc n,.int j=>(match h[n]? with
  |some (.lst xs)=>if -(2^63)<=j/\j<2^63 then pq (List.flatten (List.replicate j.toNat xs)) h else .bad
  |_=>.bad)
 |_,_=>.bad
def EJ(x y:PV)(h:MH):WZ:=match x,y with
 |.int i,.int j=>if j≠0/\Builtin.divisionGoesByPylong i j=T then .ok (.int (i.fdiv j)) h else .bad
 |_,_=>.bad
def lf(x y:PV)(h:MH):WZ:=match x,y with
 |.int i,.int j=>if j≠0 then .ok (.int (i.fmod j)) h else .bad
 |_,_=>.bad
def p0(x y:PV)(h:MH):WZ:=match x,y with
 |.int i,.int j=>if jE i j then .ok (.int (i^j.toNat)) h else .bad
 |_,_=>.bad
def k4(x y:PV)(h:MH):WZ:=match x,y with
 |.int i,.int j=>.ok (.int (i+j)) h
 |.str a,.str b=>if a.length+b.length<=sizeLine then .ok (.str (a++b)) h else .bad
 |.loc n,.loc m=>(match h[n]?,h[m]? with
  |some (.lst xs),J (.lst ys)=>pq (xs++ys) h
  |_,_=>.bad)
 |.tup xs,.tup ys=>if xs≠[]then wx (xs++ys) h else .bad
 |_,_=>.bad
def E1:=pN λi j=>.int (i-j)
def E2(x:PV)(h:MH):WZ:=match x with
 |.int i=>.ok (.int (-i)) h
 |_=>.bad
def Kk:xy X (binaryOp .Sub) E1:=qa JP λ_ _ _ _=>.int _
def Kl:UT X (unaryOp .USub) E2:=by
 intro j s Z H y u Q f a ⟨U,h,x,l,r,q⟩
 cases r with
 |int i=>exact JR j s Z H _ u Q f a ⟨i,rfl,q U H _ (Le.refl _ _) l (.int _)⟩
 |_=>exact q.elim
def Iv:xy X (binaryOp .FloorDiv) EJ:=by
 intro F s Z H C B u v Q a i f ⟨U,h,x,y,z,l,r,q⟩;unfold EJ at q
 split at q
 .cases l;cases r
  split at q
  .rename_i j
   obtain⟨t,rfl⟩:=i;obtain⟨E,rfl⟩:=f;exact floordiv_int j.1 ⟨.int _,H,a.tok _,⟨_,rfl⟩,q U H _ (Le.refl _ _) z (.int _)⟩ (.inl j.2)
  .exact q.elim
 .exact q.elim
def fe:xy X (binaryOp .Mod) lf:=by
 intro F s Z H C B u v Q a i f ⟨U,h,x,y,z,l,r,q⟩;unfold lf at q
 split at q
 .cases l;cases r
  split at q
  .rename_i j
   obtain⟨t,rfl⟩:=i;obtain⟨E,rfl⟩:=f;exact mod_int' j ⟨.int _,H,a.tok _,⟨_,rfl⟩,q U H _ (Le.refl _ _) z (.int _)⟩
  .exact q.elim
 .exact q.elim
def BI:xy X (binaryOp .Pow) p0:=by
 intro C s Z H L F u v Q a l f ⟨U,h,x,y,E,z,B,q⟩;unfold p0 at q
 split at q
 .rename_i i j
  cases z;cases B
  split at q
  .rename_i r
   exact JQ C s Z H _ _ u v Q a l f ⟨i,j,rfl,rfl,r,q U H _ (Le.refl _ _) E (.int _)⟩
  .exact q.elim
 .exact q.elim
def fK:xy X (binaryOp .Add) k4:=by
 intro L s Z H x' y' u v Q f r l ⟨U,h,x,y,B,rx,C,q⟩
 cases rx with
 |int i =>
  cases C with
  |int j=>exact JO L s Z H _ _ u v Q f r l ⟨i,j,rfl,rfl,q U H _ (Le.refl _ _) B (.int _)⟩
  |_=>exact q.elim
 |str a =>
  cases C with
  |str b =>
   dsimp only[k4]at q
   split at q
   .rename_i hl
    exact zK L s Z H _ _ u v Q f r l ⟨a,b,rfl,rfl,hl,q U H _ (Le.refl _ _) B (.str _)⟩
   .exact q.elim
  |_=>exact q.elim
 |@loc n a e =>
  cases C with
  |@loc m b e2 =>
   dsimp only[k4]at q;obtain⟨o1,h1,E⟩:=B.obj e;obtain⟨o2,h2,F⟩:=B.obj e2;rw[h1,h2]at q
   cases o1 with
   |dic M=>exact q.elim
   |exc x=>exact q.elim
   |lst xs =>
    cases o2 with
    |dic M=>exact q.elim
    |exc x=>exact q.elim
    |lst ys =>
     obtain⟨S,ex,P⟩:=E;obtain⟨al,ey,R⟩:=F;obtain⟨z1,z2⟩:=oq B (P.append R) q;exact J1 L s Z H _ _ u v Q f r l ⟨a,b,S,al,rfl,rfl,ex,ey,by rw[<-Em];exact z1,z2⟩
  |_=>exact q.elim
 |tup s1 E =>
  cases C with
  |tup s2 F =>
   dsimp only[k4]at q
   split at q
   .rename_i O
    obtain⟨z1,z2⟩:=xj B (E.append F) q;refine FU L s Z H _ _ u v Q f r l ⟨_,_,_,_,rfl,rfl,s1,s2,?_,by rw[<-Em];exact z1,λz=>?_,λ_=>z2⟩
    .rintro rfl;cases E;exact O rfl
    .subst z;cases F;unfold wx at q
     split at q
     .exact q U H _ (Le.refl _ _) B (by rw[Jn];exact .tup s1 E)
     .exact q.elim
   .exact q.elim
  |_=>exact q.elim
 |_=>cases C<;>exact q.elim
def RPs.rep{K:h_}{U:WS}{H:Hp}{xs:WL}{ys:List V}(r:RPs K U H xs ys):∀n:Nat,RPs K U H (List.replicate n xs).flatten (List.replicate n ys).flatten
 |0=>.nil
 |n+1=>by exact r.append (RPs.rep r n)
def iS:xy X (binaryOp .Mult) j3:=by
 intro Oa s Z H x' y' u v Q f r l ⟨U,h,x,y,E,P,C,q⟩
 cases P with
 |int i =>
  cases C with
  |int j =>
   dsimp only[j3]at q
   split at q
   .rename_i O
    obtain⟨t,rfl⟩:=r;obtain⟨t',rfl⟩:=l;exact PyProof.Rows.mul_int ⟨.int _,H,f.tok _,⟨_,rfl⟩,q U H _ (Le.refl _ _) E (.int _)⟩ O
   .exact q.elim
  |_=>exact q.elim
 |@loc n a e =>
  cases C with
  |int j =>
   dsimp only[j3]at q;obtain⟨S,R,r1⟩:=E.obj e;rw[R]at q
   cases S with
   |dic M=>exact q.elim
   |exc x=>exact q.elim
   |lst xs =>
    dsimp only at q
    split at q
    .rename_i L
     obtain⟨B,ex,z⟩:=r1;obtain⟨F,z2⟩:=oq E (z.rep j.toNat) q;refine J2 Oa s Z H _ _ u v Q f r l ⟨a,j,B,rfl,rfl,ex,L.1,L.2,?_,z2⟩;rw[x3]at F;rw[Nat.mul_comm];exact F
    .exact q.elim
  |_=>exact q.elim
 |_=>cases C<;>exact q.elim
def qY{f:WU}{Z:L2.St}{H:Hp}{s:Shared}{Q:VK}{x':V}{u:Value}{b c:Bool}(a:Inv X f Z H s)(r:aZ x' u)(i:plainIs u (.bool b)=I)(j:(u == .bool b)=c)(q:Q (.bl c) H):
  wpAny (model X.prog X.w) X.A (compareOp .Is u (.bool b)) (EP X f Z Q) X.xe s:=by
 exact e_ (wpAny_isSame_plain i (i5 (by rw[j];exact⟨.bl c,H,a,rfl,q⟩)))
def mT{f:WU}{Z:L2.St}{H:Hp}{s:Shared}{Q:VK}{x':V}{u:Value}{b c:Bool}(a:Inv X f Z H s)(r:aZ x' u)(i:plainIs u (.bool b)=I)(j:(!(u == .bool b))=c)(q:Q (.bl c) H):
  wpAny (model X.prog X.w) X.A (compareOp .IsNot u (.bool b)) (EP X f Z Q) X.xe s:=by
 exact e_ (wpAny_isSame_plain i (i5 (by rw[j];exact⟨.bl c,H,a,rfl,q⟩)))
def Oh:xy X (compareOp .Is) (Kj T):=by
 intro B s Z H F C u v Q a f l ⟨U,h,x,y,j,r,z,q⟩
 cases z with
 |non =>
  refine JS B s Z H _ _ u v Q a f l ⟨rfl,?_⟩;cases r<;>exact q U H _ (Le.refl _ _) j (by first | exact .bl I | exact .bl T)
 |bl b =>
  cases l
  cases r with
  |non=>cases f;exact qY (x':=.non) a rfl (by cases b<;>rfl) (by cases b<;>rfl) (q U H _ (Le.refl _ _) j (.bl T))
  |bl c=>cases f;exact qY (x':=.bl c) a rfl (by cases b<;>cases c<;>rfl) (by cases b<;>cases c<;>rfl) (q U H _ (Le.refl _ _) j (.bl _))
  |int i=>obtain⟨t,rfl⟩:=f;exact qY (x':=.int i) a ⟨_,rfl⟩ (by cases b<;>rfl) (by cases b<;>rfl) (q U H _ (Le.refl _ _) j (.bl T))
  |str i=>obtain⟨t,rfl⟩:=f;exact qY (x':=.str i) a ⟨_,rfl⟩ (by cases b<;>rfl) (by cases b<;>rfl) (q U H _ (Le.refl _ _) j (.bl T))
  |tup E L=>cases f;exact qY (x':=.ref _) a rfl (by cases b<;>rfl) (by cases b<;>rfl) (q U H _ (Le.refl _ _) j (.bl T))
  |_=>exact q.elim
 |_=>exact q.elim
def Km:xy X (compareOp .IsNot) (Kj I):=by
 intro B s Z H F C u v Q a f l ⟨U,h,x,y,j,r,z,q⟩
 cases z with
 |non =>
  refine FM B s Z H _ _ u v Q a f l ⟨rfl,?_⟩;cases r<;>exact q U H _ (Le.refl _ _) j (by first | exact .bl I | exact .bl T)
 |bl b =>
  cases l
  cases r with
  |non=>cases f;exact mT (x':=.non) a rfl (by cases b<;>rfl) (by cases b<;>rfl) (q U H _ (Le.refl _ _) j (.bl I))
  |bl c=>cases f;exact mT (x':=.bl c) a rfl (by cases b<;>cases c<;>rfl) (by cases b<;>cases c<;>rfl) (q U H _ (Le.refl _ _) j (.bl _))
  |int i=>obtain⟨t,rfl⟩:=f;exact mT (x':=.int i) a ⟨_,rfl⟩ (by cases b<;>rfl) (by cases b<;>rfl) (q U H _ (Le.refl _ _) j (.bl I))
  |str i=>obtain⟨t,rfl⟩:=f;exact mT (x':=.str i) a ⟨_,rfl⟩ (by cases b<;>rfl) (by cases b<;>rfl) (q U H _ (Le.refl _ _) j (.bl I))
  |tup E L=>cases f;exact mT (x':=.ref _) a rfl (by cases b<;>rfl) (by cases b<;>rfl) (q U H _ (Le.refl _ _) j (.bl I))
  |_=>exact q.elim
 |_=>exact q.elim
def bG(x y:PV)(h:MH):WZ:=match y with
 |.int i=>(match x with
  |.loc n=>(match h[n]? with
   |some (.lst xs)=>(match l0 xs i with
    |some v=>.ok v h
    |none=>.bad)
   |_=>.bad)
  |.tup xs=>(match l0 xs i with
   |some v=>.ok v h
   |none=>.bad)
  |.frl xs=>(match l0 xs i with
   |some v=>.ok v h
   |none=>.bad)
  |.str z=>(match l0 z.cps.toList i with
   |some c=>if z.length<=sizeLine then .ok (.str ⟨#[c]⟩) h else .bad
   |none=>.bad)
  |_=>.bad)
 |_=>.bad
def rF{K:h_}{U:WS}{H:Hp}{xs:WL}{ys:List V}{i:Int}{v:PV}(r:RPs K U H xs ys)(e:l0 xs i=J v):∃a,l0 ys i=J a/\RP K U H v a:=by
 unfold l0 at e ⊢;rw[<-r.length]
 cases q:qp xs.length i with
 |none=>rw[q]at e;cases e
 |some j =>
  rw[q]at e;exact r.get e
def Ix{a b:Expr}{ma mb:Mx PV}{P:Pos}(ha:ME X a ma)(hb:ME X b mb)(hs:oG b):ME X (.Subscript a b P) (aC bG ma mb):=by
 refine PE.imp (NZ JY ha hb hs) λZ H Q q=>?_;obtain⟨U,E,h,rs,rh,q⟩:=q;refine⟨U,E,h,rs,rh,Ful.bind q λU1 H1 x x' h1 _ l1 S rx q1=>⟨U1,E,h1,rs.le l1,S,Ful.bind q1 λF L y y' h2 _ l2 l ry f=>?_⟩⟩;have M:=rx.le l2
 cases ry with
 |int i =>
  cases M with
  |@loc n a e =>
   obtain⟨ob,eo,R⟩:=l.obj e;dsimp only[bG]at f;rw[eo]at f
   cases ob with
   |dic al=>exact f.elim
   |exc x=>exact f.elim
   |lst xs =>
    obtain⟨ys,ey,B⟩:=R;dsimp only at f
    cases j:l0 xs i with
    |none=>rw[j]at f;exact f.elim
    |some v =>
     rw[j]at f;obtain⟨C,r,u⟩:=rF B j;exact .inl ⟨a,ys,i,C,rfl,rfl,SqL.of ey,r,f F L _ (Le.refl _ _) l u⟩
  |@tup xs a ys O B =>
   dsimp only[bG]at f
   cases j:l0 xs i with
   |none=>rw[j]at f;exact f.elim
   |some v =>
    rw[j]at f;obtain⟨C,r,u⟩:=rF B j;exact .inr (.inl ⟨_,_,i,C,rfl,rfl,O,r,f F L _ (Le.refl _ _) l u⟩)
  |@frl xs a ys O B =>
   dsimp only[bG]at f
   cases j:l0 xs i with
   |none=>rw[j]at f;exact f.elim
   |some v =>
    rw[j]at f;obtain⟨C,r,u⟩:=rF B j;exact .inl ⟨_,_,i,C,rfl,rfl,O.sq,r,f F L _ (Le.refl _ _) l u⟩
  |str z =>
   dsimp only[bG]at f
   cases j:l0 z.cps.toList i with
   |none=>rw[j]at f;exact f.elim
   |some c =>
    rw[j]at f;dsimp only at f
    split at f
    .rename_i hz
     exact .inr (.inr ⟨z,i,c,rfl,rfl,hz,j,f F L _ (Le.refl _ _) l (.str _)⟩)
    .exact f.elim
  |_=>exact f.elim
 |_=>exact f.elim
def t_(f:WL->MH->WZ)(m:Mx (WL)):Mx PV:=λZ h=>(m Z h).bind λxs a=>(f xs a).ne
section
variable{x:Str}{id T:String}{e:Expr}{es:WX}{f:WL->MH->WZ}{m:Mx (WL)}{p pos:Pos}
def Iy{Z:L2.St}{H:Hp}{Q:VK}(q:tM X (RV' X) (t_ f m) Z H Q):SA (cJ X f) (tM X (RVs' X) m) Z H Q:=by obtain⟨U,i,h,y,z,q⟩:=q;exact⟨U,i,h,y,z,Ful.bind q λj C x B u _ E a r l=>⟨j,u,x,a,r,l.zero⟩⟩
def uM(g:Good X N W G k)(j:Nat)(i:G[j]?=J x)(l:dv X (.builtin id) f)(r:X.mg x=Y)(hv:bootBuiltins x=J (.builtin id))(u:MA X (e::es) m)(y:starEach (e::es) X.env=(false,eval e X.env)::starEach es X.env:=by rfl)(a:(backTo pos (starEach es X.env)).any (·.1)=false:=by rfl):ME X (.Call (.Name x p) (e::es) [] pos) (t_ f m) :=
 have d:=g.dbg x (n2 _ (aN i))
 PE.imp (jZ l (g.gl x (aN i)) r hv u d.2.2 d.1 y a) λ_ _ _ q=>Iy q
def A8(g:Good X N W G k)(j:Nat)(i:G[j]?=J x)(l:dv X (.type T) f)(r:X.mg x=Y)(hv:bootBuiltins x=J (.type T))(u:MA X (e::es) m)(y:starEach (e::es) X.env=(false,eval e X.env)::starEach es X.env:=by rfl)(a:(backTo pos (starEach es X.env)).any (·.1)=false:=by rfl):ME X (.Call (.Name x p) (e::es) [] pos) (t_ f m) :=
 have d:=g.dbg x (n2 _ (aN i))
 PE.imp (j6 l (g.gl x (aN i)) r hv u d.2.2 d.1 y a) λ_ _ _ q=>Iy q
end
def DO(xs:WL)(h:MH):WZ:=match xs with
 |[.int i]=>.ok (.int (if i<0 then -i else i)) h
 |_=>.bad
def CO(xs:WL)(h:MH):WZ:=match xs with
 |[.int i,.int j]=>.ok (.int (if j<i then j else i)) h
 |_=>.bad
def E3(xs:WL)(h:MH):WZ:=match xs with
 |[.int i,.int j]=>.ok (.int (if j>i then j else i)) h
 |_=>.bad
def F6(xs:WL)(h:MH):WZ:=match xs with
 |[.int i]=>.ok (.int i) h
 |[.bl b]=>.ok (.int (if b then 1 else 0)) h
 |_=>.bad
def p6(xs:WL)(h:MH):WZ:=match xs with
 |[.loc n]=>(match h[n]? with
  |some (.lst ys)=>.ok (.int ys.length) h
  |_=>.bad)
 |[.tup ys]=>.ok (.int ys.length) h
 |[.frl ys]=>.ok (.int ys.length) h
 |[.str z]=>if z.length<=sizeLine then .ok (.int z.length) h else .bad
 |_=>.bad
def Bv:dv X (.builtin "abs") DO:=by
 intro u s Z H xs j Q a r ⟨U,h,z,y,rp,q⟩
 cases rp with
 |nil=>exact q.elim
 |cons f l =>
  cases l with
  |cons _ _=>cases f<;>exact q.elim
  |nil =>
   cases f with
   |int i=>exact Cj u s Z H _ j Q a r ⟨i,rfl,q U H _ (Le.refl _ _) y (.int _)⟩
   |_=>exact q.elim
def uY{f:WL->MH->WZ}{F:Int->Int->Int}{r:List V->Hp->VK->Prop}{l:Value}(hf:∀i j h,f [.int i,.int j] h=.ok (.int (F i j)) h)(B:∀xs h,(∀i j,xs≠[.int i,.int j])->f xs h=.bad)(y:cK X l (λxs H Q=>∃i j,xs=[.int i,.int j]/\Q (.int (F i j)) H)):dv X l f:=by
 intro O s Z H xs C Q a r ⟨U,h,u,R,rp,q⟩;by_cases z:∃i j,u=[.int i,.int j]
 .obtain⟨i,j,rfl⟩:=z
  cases rp with
  |cons P L=>cases L with
   |cons E M =>
    cases M;cases P;cases E;rw[hf]at q;exact y O s Z H _ C Q a r ⟨i,j,rfl,q U H _ (Le.refl _ _) R (.int _)⟩
 .rw[B u h λi j e=>z ⟨i,j,e⟩]at q;exact q.elim
def qT(g:Good X N W G k):dv X (.builtin "min") CO:=uY (r:=λ_ _ _=>True) (λ_ _ _=>rfl) (λxs h z=>by delta CO;split<;>first | rfl | exact absurd rfl (z _ _)) (tX g.calm)
def AV(g:Good X N W G k):dv X (.builtin "max") E3:=uY (r:=λ_ _ _=>True) (λ_ _ _=>rfl) (λxs h z=>by delta E3;split<;>first | rfl | exact absurd rfl (z _ _)) (t7 g.calm)
def Kn:dv X (.type "int") F6:=by
 intro j s Z H xs f Q a r ⟨U,h,z,u,rp,q⟩
 cases rp with
 |nil=>exact q.elim
 |cons l y =>
  cases y with
  |cons _ _=>cases l<;>exact q.elim
  |nil =>
   cases l with
   |int i=>exact tE j s Z H _ f Q a r (.inl ⟨i,rfl,q U H _ (Le.refl _ _) u (.int _)⟩)
   |bl b=>exact tE j s Z H _ f Q a r (.inr ⟨b,rfl,q U H _ (Le.refl _ _) u (.int _)⟩)
   |_=>exact q.elim
def m5:dv X (.builtin "len") p6:=by
 intro u s Z H xs l Q f r ⟨U,h,R,j,rp,q⟩
 cases rp with
 |nil=>exact q.elim
 |cons C P =>
  cases P with
  |cons _ _=>cases C<;>exact q.elim
  |nil =>
   cases C with
   |@loc n a e =>
    obtain⟨F,M,B⟩:=j.obj e;dsimp only[p6]at q;rw[M]at q
    cases F with
    |dic E=>exact q.elim
    |exc x=>exact q.elim
    |lst xs =>
     obtain⟨ys,L,i⟩:=B;exact lP u s Z H _ l Q f r ⟨_,_,rfl,.inl ⟨ys,SqL.of L,rfl⟩,by rw[<-i.length];exact q U H _ (Le.refl _ _) j (.int _)⟩
   |tup y i=>exact lP u s Z H _ l Q f r ⟨_,_,rfl,.inr ⟨_,y,rfl⟩,by rw[<-i.length];exact q U H _ (Le.refl _ _) j (.int _)⟩
   |frl y i=>exact lP u s Z H _ l Q f r ⟨_,_,rfl,.inl ⟨_,y.sq,rfl⟩,by rw[<-i.length];exact q U H _ (Le.refl _ _) j (.int _)⟩
   |str z =>
    dsimp only[p6]at q
    split at q
    .rename_i O
     exact lP u s Z H _ l Q f r ⟨_,_,rfl,⟨O,rfl⟩,q U H _ (Le.refl _ _) j (.int _)⟩
    .exact q.elim
   |_=>exact q.elim
def Iz(h:MH):PV->Option String
 |.non=>J "NoneType"
 |.bl _=>J "bool"
 |.int _=>J "int"
 |.str _=>J "str"
 |.tup _=>J "tuple"
 |.frl _=>J "list"
 |.loc n=>match h[n]? with
  |some (.lst _)=>J "list"
  |some (.dic _)=>J "dict"
  |_=>Y
def c7(t:String)(a:String):Bool:=t==a||(t == "bool" && a == "int")
def nR(a:List String)(x:PV)(h:MH):WZ:=match Iz h x with
 |some t=>.ok (.bl (a.any (c7 t))) h
 |none=>.bad
def Fl(a:String):Prop:=∀K:h_,∀t∈["NoneType","bool","int","str","tuple","list","dict"],PySem.W.kitOne K (.type t) (.type a)=J (c7 t a)
def nQ(i:∀K,PySem.W.kitOne K (.type "NoneType") (.type b)=J (c7 "NoneType" b))(u:∀K,PySem.W.kitOne K (.type "bool") (.type b)=J (c7 "bool" b))(j:∀K,PySem.W.kitOne K (.type "int") (.type b)=J (c7 "int" b))(y:∀K,PySem.W.kitOne K (.type "str") (.type b)=J (c7 "str" b))(f:∀K,PySem.W.kitOne K (.type "tuple") (.type b)=J (c7 "tuple" b))(l:∀K,PySem.W.kitOne K (.type "list") (.type b)=J (c7 "list" b))(r:∀K,PySem.W.kitOne K (.type "dict") (.type b)=J (c7 "dict" b)):Fl b:=by
 intro K t a;simp only[lb,HZ,or_false]at a;rcases a with rfl|rfl|rfl|rfl|rfl|rfl|rfl
 .exact i K
 .exact u K
 .exact j K
 .exact y K
 .exact f K
 .exact l K
 .exact r K
def F7:Fl "int":=nQ (λ_=>rfl) (λ_=>rfl) (λ_=>rfl) (λ_=>rfl) (λ_=>rfl) (λ_=>rfl) (λ_=>rfl)
def DM:Fl "bool":=nQ (λ_=>rfl) (λ_=>rfl) (λ_=>rfl) (λ_=>rfl) (λ_=>rfl) (λ_=>rfl) (λ_=>rfl)
def F8:Fl "str":=nQ (λ_=>rfl) (λ_=>rfl) (λ_=>rfl) (λ_=>rfl) (λ_=>rfl) (λ_=>rfl) (λ_=>rfl)
def Cp:Fl "list":=nQ (λ_=>rfl) (λ_=>rfl) (λ_=>rfl) (λ_=>rfl) (λ_=>rfl) (λ_=>rfl) (λ_=>rfl)
def As:Fl "tuple":=nQ (λ_=>rfl) (λ_=>rfl) (λ_=>rfl) (λ_=>rfl) (λ_=>rfl) (λ_=>rfl) (λ_=>rfl)
def yw{Oa:WU}{Z:L2.St}{H:Hp}{s:Shared}{U:WS}{h:MH}{x:PV}{E:V}{u:Value}{t:String}(f:Inv X Oa Z H s)(rh:RH X.K X.mg U H h)(O:RP X.K U H x E)(j:aZ E u)(e:Iz h x=J t):
  t∈["NoneType","bool","int","str","tuple","list","dict"]/\u≠.builtin "__main__.__loader__#opaque"/\∃F,PySem.W.KitX X.K u (.type t) F/\F s.heap:=by
 cases O with
 |non=>cases e;cases j;exact⟨by simp,(λz=>nomatch z),_,PySem.W.kitx_none,trivial⟩
 |bl b=>cases e;cases j;exact⟨by simp,(λz=>nomatch z),_,PySem.W.kitx_bool,trivial⟩
 |int i=>cases e;obtain⟨t,rfl⟩:=j;exact⟨by simp,(λz=>nomatch z),_,PySem.W.kitx_int,trivial⟩
 |str i=>cases e;obtain⟨t,rfl⟩:=j;exact⟨by simp,(λz=>nomatch z),_,PySem.W.kitx_str,trivial⟩
 |tup y r1 =>
  cases e;cases j;obtain⟨l,C,⟨o,e1,e2,_⟩,_⟩:=f.tuple y;exact⟨by simp,(λz=>nomatch z),_,PySem.W.kitx_tuple,⟨o,e1,e2⟩⟩
 |frl y r1 =>
  cases e;cases j;obtain⟨l,C,⟨o,m,e1,e2,_,e3⟩,_⟩:=f.list y.sq;exact⟨by simp,(λz=>nomatch z),_,PySem.W.kitx_list,⟨o,e1,e2⟩⟩
 |@loc n a Q =>
  obtain⟨R,S,r⟩:=rh.obj Q;dsimp only[Iz]at e;rw[S]at e;cases j
  cases R with
  |lst xs =>
   cases e;obtain⟨ys,B,_⟩:=r;obtain⟨l,C,⟨o,m,e1,e2,_,e3⟩,_⟩:=f.list (SqL.of B);exact⟨by simp,(λz=>nomatch z),_,PySem.W.kitx_list,⟨o,e1,e2⟩⟩
  |dic L =>
   cases e;obtain⟨_,B⟩:=r;obtain⟨_,_,vs,_,p⟩:=(f.hok a _ B);obtain⟨o,es,ep,P,M,_⟩:=p;exact⟨by simp,(λz=>nomatch z),_,PySem.W.kitx_dict,⟨o,P,M.1⟩⟩
  |exc x=>cases e
def Ko(g:Good X N W G k){a:Expr}{m:Mx PV}{f:String}{c:Str}{i j:Nat}{p q y:Pos}(R:G[i]?=J "isinstance")(hm:X.mg "isinstance"=Y)(hj:G[j]?=J c)(hc:X.mg c=Y)(hv:bootBuiltins c=J (.type f))(hT:Fl f)(ha:ME X a m)(S:starEach [a,.Name c q] X.env=(T,eval a X.env)::starEach [.Name c q] X.env:=by rfl)(O:starEach [.Name c q] X.env=[(T,eval (.Name c q) X.env)]:=by rfl)(C:(backTo y (starEach [.Name c q] X.env)).any (·.1)=T:=by rfl):
  ME X (.Call (.Name "isinstance" p) [a,.Name c q] [] y) (N7 (nR [f]) m):=by
 have d1:=g.dbg _ (n2 _ (aN R));have d:=g.dbg c (n2 _ (aN hj));have u:cK X (.builtin "isinstance") (λxs H Q=>∃z,xs=[z,.ty f]/\uJ X (nR [f]) z H Q):=by
  intro Oa s Z H xs us Q l r ⟨z,e,U,h,x,B,F,q⟩;subst e
  cases r with
  |cons r1 t1=>cases t1 with
   |cons r2 t2 =>
    cases t2;obtain rfl:=(r2);unfold nR at q
    cases L:Iz h x with
    |none=>rw[L]at q;exact q.elim
    |some t =>
     rw[L]at q;obtain⟨ht,E,Hq,Za,hz⟩:=yw l B F r1 L
     exact PySem.W.kia_one Za l.kIn hz (hT X.K t ht) E λtk=>⟨.bl _,H,l.tok _,rfl,by
      have q':=q U H _ (Le.refl _ _) B (.bl _)
      simpa using q'⟩
 refine PE.imp (jZ u (g.gl _ (aN R)) hm PyProof.Rows.Boot.«isinstance» (eJ ha (eJ (sO (v:=.ty f) (g.gl c (aN hj)) hc hv rfl d.2.2 d.1) jA O) S) d1.2.2 d1.1 S C) λZ H Q ⟨U,P,h,rs,B,q⟩=>?_;exact⟨U,P,h,rs,B,Ful.bind q λU1 H1 x z h1 _ l1 M F q1=>⟨z,rfl,U1,h1,x,M,F,q1.zero⟩⟩
def Kp(K:h_)(mg:F0)(F:WL->MH->WZ):Sp:=λr H Q E=>∃U l h,RPs K U H l r/\RH K mg U H h/\match F l h with
 |.ok v i=>∀f a j,Le U H f a->RH K mg f a i->RP K f a v j->Q j a
 |.exc x i=>∀C f a,x.fs=[]->mg x.cls=J (.ref C)->Le U H f a->RH K mg f a i->E (.ref C) Y a
 |.bad=>False
def MZ(P:Program)(w:World):EU:=λouter H s E e a=>∃i C f,e=.ref i/\a.os=s.os/\AllBare a.gens/\Un (y_ outer) [] H f s.heap a.heap/\HOk P w f a.heap/\SK outer f s.heap C i a.heap/\E (.ref C) Y f
structure E4(X:Cx)(x:Str)(ps:WM)(F:WL->MH->WZ)(k:Nat):Prop where
 ex:∃f fd,X.mg x=J (.ref f)/\PySem.W.keepIn X.K (.ref f)=I/\qR X.K fd ps []/\FnOk X.prog X.w X.K X.mg X.base (MZ X.prog X.w) k f fd ps (Kp X.K X.mg F)
def cj(F:WL->MH->WZ)(m:Mx (WL)):Mx PV:=λZ h=>(m Z h).bind F
def sj(g:Good X N W G k){x:Str}{j:Nat}(hj:G[j]?=J x){ps:WM}{F:WL->MH->WZ}(C:E4 X x ps F k){e:Expr}{es:WX}{m:Mx (WL)}{p R:Pos}(ha:MA X (e::es) m)(he:starEach (e::es) X.env=(T,eval e X.env)::starEach es X.env:=by rfl)(ax:(backTo R (starEach es X.env)).any (·.1)=T:=by rfl):ME X (.Call (.Name x p) (e::es) [] R) (cj F m):=by
 obtain⟨f,fd,hm,hk,hb,F'⟩:=C.ex;have d:=g.dbg x (n2 _ (aN hj));intro Oa s Z H Q P ⟨U,ap,h,rs,rh,q⟩;refine wpAny_Call_Name_kw (FD P (g.gl x (aN hj)) hm ?_ d.1)
 refine PySem.W.callWith_K P.ok.mod.kin hk (ki (ha R Oa s Z H (λvs y=>∃B xs O,Le U H B y/\RH X.K X.mg B y O/\RPs X.K B y xs vs/\Ful X (RV' X) ap B y (F xs O) Q) P
  ⟨U,ap,h,rs,rh,Ful.bind q λB y xs vs O _ l1 L rx M=>⟨B,xs,O,l1,L,rx,M⟩⟩) λus S ⟨vs,y,I1,r,B,xs,O,l1,L,rx,M⟩=>⟨I1.kIn,?_⟩) he ax
 have run:∀E:XK,Kp X.K X.mg F vs y Q E->(∀ea C i l,l.os=S.os->AllBare l.gens->Un (y_ X.stack) [] y i S.heap l.heap->HOk X.prog X.w i l.heap->SK X.stack i S.heap C ea l.heap->E (.ref C) Y i->X.xe (.ref ea) l) ->
   wpAny (model X.prog X.w) X.A (call (.ref f) us) (EP X Oa Z Q) X.xe S:=λE an hE=>by
  have hl:(us++[]).length=ps.length:=by rw[Jn,<-r.length];exact F'.len _ _ _ _ an
  have al:=hb S us I1.kIn hl;rw[Jn]at al;refine wpAny_call (codeAny_mono (F'.run X.A X.stack S y ⟨us,[]⟩ us vs Q E g.room I1.env0 al r an) λr l hq=>?_)
  cases r with
  |error e =>
   obtain⟨ea,C,i,rfl,a1,a2,a3,a4,a5,a6⟩:=hq;exact hE ea C i l a1 a2 a3 a4 a5 a6
  |ok fl =>
   cases fl with
   |ret u=>exact I1.after hq
   |next=>exact False.elim hq
   |brk=>exact False.elim hq
   |cont=>exact False.elim hq
 cases eF:F xs O with
 |bad=>rw[eF]at M;exact M.elim
 |ok v h' =>
  rw[eF]at M;exact run (λ_ _ _=>False) ⟨B,xs,O,rx,L,by rw[eF];exact M⟩ λ_ _ _ _ _ _ _ _ _ z=>z.elim
 |exc x' h' =>
  rw[eF]at M;refine run (λc _ i=>∃C U',c=.ref C/\x'.fs=[]/\X.mg x'.cls=J (.ref C)/\Le B y U' i/\RH X.K X.mg U' i h') ⟨B,xs,O,rx,L,by rw[eF];exact λC U' i a b c d=>⟨C,U',rfl,a,b,c,d⟩⟩ λea C i l a1 a2 a3 a4 a5 a6=>?_;obtain⟨C',U',eC,b1,b2,b3,b4⟩:=a6;cases eC;have IX:=I1.call' (s':=l) a1 a3 a4 a2 (λb z=>absurd z (by simp));have as:=Inv.unpinned (Oa:=[]) IX;exact M ea C U' i Z l S.heap b1 b2 b3 b4 (rs.le (l1.trans b3)) as (Inv.bears I1) a5
def bZ(n:Nat)(a:WL):ly:=a.map J++List.replicate (n-a.length) Y
def d3(n i:Nat)(m:mh):WL->MH->WZ:=λf h=>if f.length=i then (match m (bZ n f) h with
 |.nx _ a=>.ok .non a
 |.rt v a=>.ok v a
 |.exc x _ a=>.exc x a
 |.rse x _ a=>.exc x a
 |_=>.bad)else .bad
def DN{K:h_}{U:WS}{H:Hp}{N:WM}{a:WL}{f:List V}(r:RPs K U H a f):RS K U H (bZ N.length a) (L2.start N f):=by
 have z:=r.length;refine⟨by simp[bZ,L2.start,z],λi v e=>?_⟩;unfold bZ at e;by_cases j:i<a.length
 .rw[q7 (by simpa using j),oe]at e
  cases q:a[i]? with
  |none=>rw[q]at e;cases e
  |some x =>
   rw[q]at e;cases e;obtain⟨y,l,u⟩:=r.get q;refine⟨y,?_,u⟩;delta L2.start;rw[q7 (by simp;lia),oe,l];rfl
 .rw[Eb (by simpa using j),Mz]at e
  split at e<;>cases e
def CN{B h:Heap}(k:B.StaysIn h){b:Addr}{o a:Obj}(e1:B.get? b=J a)(e2:h.get? b=J o):a=o:=by
 have:=k b a e1
 rw[e2]at this;exact(Option.some.inj this).symm
def yu{X:Cx}{U:L2.St}{L:Hp}{M:Shared}{E B:Heap}(f:Inv X [] U L M)(P:X.ex=[])(hB:B.StaysIn M.heap)(y:B.StaysIn E)(S:M.heap.UpToSlots E)(F:∀b o,X.s₀.heap.get? b=J o->b∉X.fs->∃i,B.get? b=J i)(C:∀b o,L b=J o->∃i,B.get? b=J i):Un X.fs [] X.H₀ L X.s₀.heap E/\HOk X.prog X.w L E:=by
 have j:∀b:Addr,b∉X.ex:=λb=>by rw[P];simp
 have kp:∀b o i,B.get? b=J i->M.heap.get? b=J o->E.get? b=J o:=λb o i e1 e2=>by
  have:=CN hB e1 e2
  subst this;exact y b i e1
 refine⟨⟨λb o e n hf _=>?_,λb o e n hf _=>?_,λb o e n _=>f.base.free b o e n (j b),λb o e _=>?_,f.base.tups,f.base.frzs,f.base.tbls⟩,λa o e=>?_⟩
 .obtain⟨i,l⟩:=F b o e hf;exact kp b o i l (f.base.keep b o e n hf (j b))
 .obtain⟨sl,e1⟩:=f.base.slot b o e n hf (j b);obtain⟨_,Z,r,R⟩:=f.ok.funs.mem hf;rw[e]at r;cases r;obtain⟨H,e2⟩:=S b _ e1 (λQ z=>R Q z);exact⟨H,e2⟩
 .by_cases hf:b∈X.fs
  .obtain⟨_,Z,r,R⟩:=f.ok.funs.mem hf;rw[e]at r;cases r;obtain⟨sl,e1⟩:=f.base.slot b o e (f.ok.frf b hf) hf (j b);obtain⟨H,e2⟩:=S b _ e1 (λQ z=>R Q z);exact⟨_,e2⟩
  .obtain⟨i,l⟩:=F b o e hf;exact⟨i,y b i l⟩
 .refine (f.hok a o e).stay (λb u O z=>?_) (λ_ z=>z) λ_ _ z=>z;rcases O with rfl|O
  .obtain⟨i,l⟩:=C _ _ e;exact kp _ u i l z
  .obtain⟨i,l⟩:=C _ _ O;exact kp _ u i l z
def _root_.L2.ObjOk.has(x:ObjOk P w H h a o):∃u,h.get? a=J u:=by
 cases o with
 |lst xs=>obtain⟨_,_,_,_,e⟩:=x;exact⟨_,e⟩
 |tup xs=>obtain⟨_,_,_,o,e,_⟩:=x;exact⟨o,e⟩
 |dK i=>obtain⟨_,_,_,_,o,_,_,e,_⟩:=x;exact⟨o,e⟩
 |dT i=>obtain⟨_,_,_,_,o,_,_,e,_⟩:=x;exact⟨o,e⟩
 |set S n=>obtain⟨o,_,_,_,e,_⟩:=x;exact⟨o,e⟩
 |ins C l fs=>obtain⟨_,_,_,e,_⟩:=x;exact⟨_,e⟩
 |own y=>obtain⟨o,e⟩:=x;exact⟨o,e⟩
 |xd fs=>obtain⟨_,⟨o,_,_,e,_⟩,_⟩:=x;exact⟨o,e⟩
 |rng lo r=>obtain⟨_,_,_,e⟩:=x;exact⟨_,e⟩
 |frz j u=>obtain⟨e,_⟩:=x;exact⟨_,e⟩
 |tbl z=>exact⟨_,(x)⟩
 |met f y=>exact⟨_,(x)⟩
 |ext φ=>obtain⟨_,⟨o,e⟩,_⟩:=x;exact⟨o,e⟩
structure ia(X:Cx):Prop where
 stk:X.stack=X.env::X.outer
 fr:X.env.frame=J X.env.locals
 ex:X.ex=[]
def SO{P:Program}{w:World}{K:h_}{mg:WB}{base:Heap}{x a:Str}{st:Stmt}{f:Addr}{fd:FuncData}{ps:WM}{m:mh}(Fu:Fun K x a st f fd)(S:n_ N ps (ag st))(hl:∀y∈N,Loc (ag st) y)(a7:∀y∈G,(ag st).names.lookup y=J .globalImplicit)(dbg:∀x∈N++G,(x==("__debug__":Str))=T/\(x==("__classdict__":Str))=T/\x≠"__name__")(hb:∀X:Cx,X.prog=P->X.w=w->X.K=K->X.mg=mg->X.base=base->X.env.scope=ag st->Good X N N G k->ia X->Dr X (aB st) m):
  FnOk P w K mg base (MZ P w) (k+1) f fd ps (Kp K mg (d3 N.length ps.length m)):=by
 have len:∀vs H Q E,Kp K mg (d3 N.length ps.length m) vs H Q E->vs.length=ps.length:=by
  rintro vs H Q E ⟨U,zs,h,r,rh,q⟩;rw[<-r.length];unfold d3 at q;by_cases hp:zs.length=ps.length
  .exact hp
  .rw[f_ hp]at q;exact q.elim
 obtain⟨oc,od,kV,bq,pm,an,i,ct,bn,rfl,lk,a6⟩:=Fu.ex;refine NW lk a6 S len λA outer s H vs Q E hr ba=>?_;obtain⟨U,zs,h,r,rh,q⟩:=ba;refine⟨_,hb _ rfl rfl rfl rfl rfl rfl ⟨rfl,S.nd,hl,λ_ _=>.inl rfl,a7,dbg,rfl,hr,PassesOwn.leaving⟩ ⟨rfl,rfl,rfl⟩,U,bZ N.length zs,h,DN r,rh,?_⟩;unfold d3 at q;by_cases hp:zs.length=ps.length
 .rw[c_ hp]at q
  cases e:m (bZ N.length zs) h with
  |nx Z' h'=>rw[e]at q;exact λU' R Z' l r' s'=>q U' R .non l r' .non
  |rt v h'=>rw[e]at q;exact q
  |bk Z h'=>rw[e]at q;exact q.elim
  |ct Z h'=>rw[e]at q;exact q.elim
  |bad=>rw[e]at q;exact q.elim
  |exc x Z h' =>
   rw[e]at q;intro ea C U' R Z' s' bt ax ay l ap a4 F a5 a3;obtain⟨B,t,a0,O,a1,as⟩:=a3;refine wpAny_leaves_onW (base:=B) (env:=envOfC a (ag st) s.heap.objs.size f i) (outer:=outer) F.ok.frames rfl a0 λa2 j sm=>?_;have M:∀b o,s.heap.get? b=J o->b∉y_ outer->∃ob,B.get? b=J ob:=λb o eb hf=>by
    obtain⟨o',e'⟩:=a5.old b o eb (by show b∉([]:WS);simp);refine a1 b o' e' λhm=>?_;rcases lb.mp (F.stkSub b hm)with z|z
    .exact absurd (l_ eb) (by rw[z];exact Ef _)
    .exact hf z
   obtain⟨un,al⟩:=yu (B:=B) F rfl a0.1 j.1 sm M O;exact⟨ea,C,R,rfl,F.os,F.bare,un,al,⟨B,t,j,O,M,as⟩,q C U' R ax ay l ap⟩
  |rse x Z h' =>
   rw[e]at q;intro ea C U' R Z' s' h0 bi ax ay l ap a4 F L;have a9:=F.stack;have a8:∀env∈(envOfC a (ag st) s.heap.objs.size f i::outer),∀b,env.frame=J b->b∈y_ (envOfC a (ag st) s.heap.objs.size f i::outer):=λenv he b hb=>Fh.mpr ⟨env,he,hb⟩;refine wpAny_leaves_madeW (base:=PySem.W.hideAll h0 (y_ (envOfC a (ag st) s.heap.objs.size f i::outer))) (h:=h0) (env:=envOfC a (ag st) s.heap.objs.size f i) (outer:=outer) F.ok.frames rfl (λb o z=>PySem.W.of_hideAll _ z)
    (PySem.W.funFrames_hide (base:=base) a9 a8) L λa2 t j _ _ sm=>?_
   have sub:∀b,b∈y_ (envOfC a (ag st) s.heap.objs.size f i::outer)->b=s.heap.objs.size\/b∈y_ outer:=λb hm=>lb.mp (F.stkSub b hm);have M:∀b o,s.heap.get? b=J o->b∉y_ outer->∃ob,(PySem.W.hideAll h0 (y_ (envOfC a (ag st) s.heap.objs.size f i::outer))).get? b=J ob:=λb o eb hf=>by
    obtain⟨o',e'⟩:=F.base.there b o eb (by show b∉([]:WS);simp);refine⟨o',PySem.W.hideAll_get _ e' λhm=>?_⟩;rcases sub b hm with z|z
    .exact absurd (l_ eb) (by rw[z];exact Ef _)
    .exact hf z
   have O:∀b o,R b=J o->∃ob,(PySem.W.hideAll h0 (y_ (envOfC a (ag st) s.heap.objs.size f i::outer))).get? b=J ob:=λb o eb=>by
    obtain⟨u,eu⟩:∃u,h0.get? b=J u:=(F.hok b o eb).has;refine⟨u,PySem.W.hideAll_get _ eu λhm=>?_⟩
    have:=F.stkFree b hm
    rw[eb]at this;cases this
   have be:h0.UpToSlots a2:=(Heap.UpToSlots.of_keeps L.keeps).trans sm;obtain⟨un,al⟩:=yu (B:=PySem.W.hideAll h0 (y_ (envOfC a (ag st) s.heap.objs.size f i::outer))) F rfl (λb o z=>PySem.W.of_hideAll _ z) j.1 be M O;have as:R ea=Y:=by
    cases z:R ea with
    |none=>rfl
    |some o =>
     obtain⟨u,eu⟩:=(F.hok ea o z).has;rw[L.new]at eu;cases eu
   exact⟨ea,C,R,rfl,F.os,F.bare,un,al,⟨_,t,j,O,M,as⟩,q C U' R ax ay l ap⟩
 .rw[f_ hp]at q;exact q.elim
def p_(v:PV)(h:MH):Out MIt:=match v with
 |.loc n=>(match h[n]? with
  |some (.lst xs)=>.ok ⟨xs,[(n,xs)]⟩ h
  |_=>.bad)
 |.frl xs=>.ok ⟨xs,[]⟩ h
 |.tup xs=>.ok ⟨xs,[]⟩ h
 |_=>.bad
def kI(m:Mx PV):Mx MIt:=λZ h=>(m Z h).bind p_
def vV(y:ME X l m):MI X tg l (kI m):=by
 intro r s Z H R f ⟨U,a,h,j,u,q⟩;by_cases z:∃xs i,m a h=.ok (.tup xs) i
 .obtain⟨xs,i,e⟩:=z;refine Kh y r s Z H R f ⟨U,a,h,j,u,?_⟩;unfold kI at q;delta Oe;rw[e]at q ⊢;exact q
 .refine F5 y r s Z H R f ⟨U,a,h,j,u,?_⟩;unfold kI at q;delta Od
  cases e:m a h with
  |ok v i =>
   rw[e]at q
   cases v with
   |tup xs=>exact absurd ⟨xs,i,e⟩ z
   |_=>exact q
  |exc x i=>rw[e]at q;exact q
  |bad=>rw[e]at q;exact q
structure FnAt(P:Program)(w:World)(K:h_)(mg:WB)(base:Heap)(x:Str)(ps:WM)(F:WL->MH->WZ)(k:Nat):Prop where
 ex:∃f fd,mg x=J (.ref f)/\PySem.W.keepIn K (.ref f)=I/\qR K fd ps []/\FnOk P w K mg base (MZ P w) k f fd ps (Kp K mg F)/\∃oc od osl,K.lookup f=J ⟨oc,od,.func fd,osl⟩
def FnAt.mono{P:Program}{w:World}{K:h_}{mg:WB}{base:Heap}{x:Str}{l:WM}{F:WL->MH->WZ}{i j:Nat}(c:FnAt P w K mg base x l F i)(h:i<=j):FnAt P w K mg base x l F j :=
 let⟨f,fd,a,b,d,e,z⟩:=c.ex;⟨f,fd,a,b,d,e.mono h,z⟩
def FnAt.cal{P:Program}{w:World}{K:h_}{mg:WB}{base:Heap}{x:Str}{j:WM}{F:WL->MH->WZ}{i:Nat}(c:FnAt P w K mg base x j F i){X:Cx}(e1:X.prog=P)(e2:X.w=w)(e3:X.K=K)(e4:X.mg=mg)(e5:X.base=base):E4 X x j F i:=by subst e1;subst e2;subst e3;subst e4;subst e5;obtain⟨f,fd,a,b,d,e,_⟩:=c.ex;exact⟨f,fd,a,b,d,e⟩
structure b_(K:h_)(x:Str)(st:Stmt):Prop where
 ex:∃f fd,PySem.W.nsIn K mainGlobals x=J (J (.ref f))/\Fun K x x st f fd
def E5{K:h_}{x:Str}{st:Stmt}{f:Addr}{y:Value}{r j:Option Addr}{sl:Array (WV)}{kV u pm i ct:Value}(a:PySem.W.nsIn K mainGlobals x=J (J (.ref f)))(l:K.lookup f=J ⟨y,r,.func (PySem.W.fnOf x x (ju st) (aB st) (ag st) .none kV u pm j i ct),sl⟩)(c:PySem.W.codeIn K i x=I)(kp:PySem.W.keepIn K (.ref f)=I):b_ K x st :=
 ⟨f,_,a,J4 l c kp⟩
def js(x:Str)(st:Stmt)(j:WM):Prop:=∀(kV f pm:Value)(l:Option Addr)(i ct:Value)(a:WT),a.length=j.length->bindArgs (PySem.W.fnOf x x (ju st) (aB st) (ag st) .none kV f pm l i ct) ⟨a,[]⟩=pure (j.zip a)
def wu{P:Program}{w:World}{K:h_}{mg:WB}{base:Heap}{x:Str}{st:Stmt}{j:WM}{m:mh}(kin:K.In base)(ns:base.Ns mainGlobals mg)(D:b_ K x st)(S:n_ N j (ag st))(B:js x st j)(L:∀y∈N,(ag st).names.lookup y=J .local\/(ag st).names.lookup y=J .cell)(l:∀y∈G,(ag st).names.lookup y=J .globalImplicit)(dbg:∀x∈N++G,(x==("__debug__":Str))=T/\(x==("__classdict__":Str))=T/\x≠"__name__")(z:∀X:Cx,X.prog=P->X.w=w->X.K=K->X.mg=mg->X.base=base->X.env.scope=ag st->Good X N N G k->ia X->Dr X (aB st) m):
  FnAt P w K mg base x j (d3 N.length j.length m) (k+1):=by
 obtain⟨f,fd,a,i⟩:=D.ex;have C:=i.ex;obtain⟨u,E,kV,H,pm,M,F,ct,r,e1,e2,_⟩:=C;exact⟨f,fd,PySem.W.mg_of kin ns a,i.kp,i.binds B,SO i S L l dbg z,u,E,r,e2⟩
def Kq{P:Program}{w:World}{K:h_}{mg:WB}{h:Heap}{x y:Str}{st:Stmt}{F:WL->MH->WZ}{z:Addr}(D:b_ K x st)(B:js x st [y])(l:mg x=J (.ref z))(kin:K.In h)(ns:h.Ns mainGlobals mg)(H:∀base:Heap,K.In base->base.Ns mainGlobals mg->FnAt P w K mg base x [y] F k):
  ∃fd:FuncData,(∀(s:Shared)(u:Value),BindsTo s fd ⟨[u],[]⟩ [(y,u)])/\∀base:Heap,K.In base->base.Ns mainGlobals mg->FnOk P w K mg base (MZ P w) k z fd [y] (Kp K mg F):=by
 obtain⟨f,fd,a,M⟩:=D.ex;have e:=l.symm.trans (PySem.W.mg_of kin ns a);obtain⟨S,od,kV,j,pm,Q,i,ct,E,e1,e2,e3⟩:=M.ex;refine⟨fd,λs u=>.of_eq ?_,λbase kb nb=>?_⟩
 .rw[e1];exact B kV j pm Q i ct [u] rfl
 .obtain⟨f',C,U,Z,R,g4,L,O,r,g5⟩:=(H base kb nb).ex
  grind
def Oi(K:h_):Sp:=λi H Q _=>∃(a:Addr)(ns:WN),i=[.ref a]/\SqF K H a (ns.map V.int)/\ns.length<=63/\∀f,Q (.bl I) f
def Kr{l:PySem.W.OpenLaw}{q:Program}{loose:WM}{XP:(Str->WV)->Heap->Prop}{R:World->Heap->Prop}{d:DefRec}{K:Params->h_}{x:Str}{F:WL->MH->WZ}(hn:l.most=J 63)(j:d.params.defaults=[])(U:Room k callerA)(hY:∀(w:World)(h:Heap),R w h->(K w.params).In h)(HF:∀(w:World)(mg:WB)(i:Addr)(h:Heap),(K w.params).In h->h.Ns mainGlobals mg->mg d.name=J (.ref i) ->
   ∃fd:FuncData,(∀(s:Shared)(u:Value),BindsTo s fd ⟨[u],[]⟩ [(x,u)])/\∀base:Heap,(K w.params).In base->base.Ns mainGlobals mg->FnOk l.prog w (K w.params) mg base (MZ l.prog w) k i fd [x] (Kp (K w.params) mg F))(ht:∀ns:WN,ns.length<=63->∃O,F [.frl (ns.map .int)] []=.ok (.bl I) O):
  PySem.W.WalkO q loose XP R l.row.toRowW d [] (λf P=>PySem.call f P):=by
 refine L2.FZ (x:=x) (CX:=λw=>MZ l.prog w) (sp:=λw=>Oi (K w.params)) hn (by decide) j U hY (λw mg i h hK C M=>?_) (λw H a ns L hO hS=>?_) λw H s e s' z=>?_
 .obtain⟨fd,Z,hF⟩:=HF w mg i h hK C M;refine⟨fd,Z,λbase kb nb=>(hF base kb nb).imp λP H Q E z=>?_⟩;obtain⟨a,ns,rfl,B,L,hq⟩:=z;obtain⟨O,e⟩:=ht ns L;refine⟨[],[.frl (ns.map .int)],[],.cons (.frl B (RPs.ints ns)) .nil,⟨rfl,R8,λn a o z _=>by simp at z⟩,?_⟩;rw[e];intro U' S v' _ _ r;cases r;exact hq S
 .have B:SqF (K w.params) H a (ns.map V.int):=by
   rcases hS with(z|z)|z
   .rcases hO a with y|⟨o,xs,y⟩
    .rw[y]at z;cases z
    .rw[y]at z;cases z
   .exact .inl z
   .exact .inr z
  exact⟨a,ns,rfl,B,L,λ_=>rfl⟩
 .obtain⟨_,_,_,_,_,_,_,_,_,z⟩:=z;exact z
end
section
variable{α:Type}{Z:ly}{h:MH}
@[simp]theorem UV:mC v Z h=.ok v h:=rfl
@[simp]theorem uU{v:PV}{r:ly}:ar 0 (J v::r) h=.ok v h:=rfl
@[simp]theorem vA{i:Nat}{o:Option PV}{r:ly}:ar (i+1) (o::r) h=ar i r h:=by simp[ar]
@[simp]theorem QX:aC f a b Z h=(a Z h).bind λx h1=>(b Z h1).bind λy h2=>(f x y h2).ne:=rfl
@[simp]theorem SQ:N7 f a Z h=(a Z h).bind λx h1=>(f x h1).ne:=rfl
@[simp]theorem SS:t_ f a Z h=(a Z h).bind λx h1=>(f x h1).ne:=rfl
@[simp]theorem Oj:cj f a Z h=(a Z h).bind f:=rfl
@[simp]theorem rn:ib Z h=.ok [] h:=rfl
@[simp]theorem v9:aq a r Z h=(a Z h).bind λx h1=>(r Z h1).bind λxs h2=>.ok (x::xs) h2:=rfl
@[simp]theorem F9:gL a Z h=(a Z h).bind pq:=rfl
@[simp]theorem QY:F2 a Z h=(a Z h).bind wx:=rfl
@[simp]theorem UW:mB a Z h=(a Z h).bind λv h1=>match v with|.bl b=>.ok b h1|_=>.bad:=rfl
@[simp]theorem QZ:pI a Z h=(a Z h).bind λb h1=>.ok (!b) h1:=rfl
@[simp]theorem Q0:J8 a b Z h=(a Z h).bind λx h1=>if x=I then b Z h1 else .ok T h1:=rfl
@[simp]theorem SU:SM a b Z h=(a Z h).bind λx h1=>if x=I then .ok I h1 else b Z h1:=rfl
@[simp]theorem Ol:yG a b Z h=(a Z h).bind λx h1=>match x with|.bl c=>if c=I then b Z h1 else .ok (.bl T) h1|_=>.bad:=rfl
@[simp]theorem Om:yO a Z h=(a Z h).bind λx h1=>match x with|.bl c=>.ok (.bl (!c)) h1|_=>.bad:=rfl
@[simp]theorem u3:l7 Z h=.nx Z h:=rfl
@[simp]theorem gr:bJ a b Z h=(a Z h).then b:=rfl
@[simp]theorem af:(SOut.nx Z h).then k=k Z h:=rfl
@[simp]theorem g7:(SOut.rt v h).then k=.rt v h:=rfl
@[simp]theorem then_bk:(SOut.bk Z h).then k=.bk Z h:=rfl
@[simp]theorem then_ct:(SOut.ct Z h).then k=.ct Z h:=rfl
@[simp]theorem Dn:(SOut.rse x Z h).then k=.rse x Z h:=rfl
@[simp]theorem Ck:(SOut.exc x Z h).then k=.exc x Z h:=rfl
@[simp]theorem Du:SOut.bad.then k=.bad:=rfl
def Out.rt(o:WZ)(Z:ly):SOut:=match o with
 |.ok v a=>.rt v a
 |.exc x a=>.exc x Z a
 |.bad=>.bad
@[simp]theorem Oo:(Out.ok v h).rt Z=.rt v h:=rfl
@[simp]theorem SV:(Out.exc x h:WZ).rt Z=.exc x Z h:=rfl
@[simp]theorem SW:(Out.bad:WZ).rt Z=.bad:=rfl
@[simp]theorem F_:cr m Z h=(m Z h).rt Z:=rfl
def Out.go{α:Type}(o:Out α)(Z:ly)(k:α->mh):SOut:=match o with
 |.ok v a=>k v Z a
 |.exc x a=>.exc x Z a
 |.bad=>.bad
@[simp]theorem ak:(Out.ok v h).go Z k=k v Z h:=rfl
@[simp]theorem go_exc:(Out.exc x h:Out α).go Z k=.exc x Z h:=rfl
@[simp]theorem go_bad:(Out.bad:Out α).go Z k=.bad:=rfl
@[simp]theorem SX:zi m k Z h=(m Z h).go Z k:=rfl
@[simp]theorem vi:fD m Z h=(m Z h).go Z λ_=>l7:=rfl
@[simp]theorem SY:Ec c a b Z h=(c Z h).go Z λx=>if x=I then a else b:=rfl
@[simp]theorem Ga:bN i m Z h=(m Z h).go Z λv Z h=>.nx (Z.set i (J v)) h:=rfl
@[simp]theorem Q1:pT m g Z h=(m Z h).go Z λv Z h=>match g v Z h with|.nx Z2 h2=>.nx Z2 h2|.exc x Z2 h2=>.exc x Z2 h2|_=>.bad:=rfl
@[simp]theorem S0:CL i v Z h=.nx (Z.set i (J v)) h:=rfl
@[simp]theorem S1:Oc [] Z h=.nx Z h:=rfl
@[simp]theorem S2:Im a r (v::vs) Z h=(a v Z h).then (r vs):=rfl
@[simp]theorem S3:MX r n (.tup xs) Z h=if xs.length=n then r xs Z h else .bad:=rfl
@[simp]theorem ym:nN mi g b Z h=(mi Z h).go Z λit=>xT it g b it.xs:=rfl
@[simp]theorem Gb:kI m Z h=(m Z h).bind p_:=rfl
@[simp]theorem Op:kc m Z h=(m Z h).bind λvs h1=>match vs with
 |[.int j]=>if -(2^62)<=j/\j<2^62 then .ok ⟨bI 0 j.toNat,[]⟩ h1 else .bad
 |_=>.bad:=rfl
@[simp]theorem Oq:oC m Z h=(m Z h).bind λvs h1=>match vs with
 |[.int i,.int j]=>if -(2^62)<=i/\i<2^62 /\ -(2^62)<=j/\j<2^62 then .ok ⟨bI i (j-i).toNat,[]⟩ h1 else .bad
 |_=>.bad:=rfl
@[simp]theorem S4:Io mo mi v Z h=(mo Z h).go Z λo=>zi mi λi Z h=>match pS o i v h with
 |some h2=>.nx Z h2
 |none=>.bad:=rfl
def SOut.fin(o:SOut):WZ:=match o with
 |.nx _ a=>.ok .non a
 |.rt v a=>.ok v a
 |.exc x _ a=>.exc x a
 |.rse x _ a=>.exc x a
 |_=>.bad
@[simp]theorem fin_exc:(SOut.exc x Z h).fin=.exc x h:=rfl
@[simp]theorem fin_rse:(SOut.rse x Z h).fin=.exc x h:=rfl
@[simp]theorem bY:(SOut.rt v h).fin=.ok v h:=rfl
@[simp]theorem fin_nx:(SOut.nx Z h).fin=.ok .non h:=rfl
theorem jt(e:ps.length=np):d3 n np m ps h=(m (bZ n ps) h).fin:=by delta d3;rw[c_ e];rfl
end
section
variable{h:MH}{i j:Int}
@[simp]theorem Ot:k4 (.int i) (.int j) h=.ok (.int (i+j)) h:=rfl
@[simp]theorem Ou:E1 (.int i) (.int j) h=.ok (.int (i-j)) h:=rfl
@[simp]theorem Q2:E2 (.int i) h=.ok (.int (-i)) h:=rfl
@[simp]theorem Q3:EZ (.int i) (.int j) h=.ok (.bl (decide (i<j))) h:=rfl
@[simp]theorem Q4:Ki (.int i) (.int j) h=.ok (.bl (decide (i<=j))) h:=rfl
@[simp]theorem Q5:E0 (.int i) (.int j) h=.ok (.bl (decide (j<i))) h:=rfl
@[simp]theorem Q6:EI (.int i) (.int j) h=.ok (.bl (decide (j<=i))) h:=rfl
@[simp]theorem Q7:r_ (.int i) (.int j) h=.ok (.bl (decide (i=j))) h:=rfl
@[simp]theorem Q8:Ei (.int i) (.int j) h=.ok (.bl (!decide (i=j))) h:=rfl
@[simp]theorem Q9:r_ (.bl a) (.bl b) h=.ok (.bl (a==b)) h:=by simp[r_,rd,SeqAt.shaped,PyData.canLay0,PyData.depth,PyData.eqv]
@[simp]theorem Q_:Ei (.bl a) (.bl b) h=.ok (.bl (!(a==b))) h:=by simp[Ei,rd,SeqAt.shaped,PyData.canLay0,PyData.depth,PyData.eqv]
theorem ie(a:j≠0):lf (.int i) (.int j) h=.ok (.int (i.fmod j)) h:=by simp[lf,a]
def x4(f:j≠0)(a:j.natAbs.log2<9000):EJ (.int i) (.int j) h=.ok (.int (i.fdiv j)) h:=by simp[EJ,f,PyProof.noPylong_of_log2 a]
def jy(a:-(2^64)<i/\i<2^64):j3 (.int i) (.int j) h=.ok (.int (i*j)) h:=by simp[j3,IntMulOk.of_left (intBits_le_64 a.1 a.2)]
def Gc(a:-(2^64)<j/\j<2^64):j3 (.int i) (.int j) h=.ok (.int (i*j)) h:=by simp[j3,IntMulOk.of_right (intBits_le_64 a.1 a.2)]
def vC(a:0<=j/\j<=1000000/\i.natAbs<2^64):p0 (.int i) (.int j) h=.ok (.int (i^j.toNat)) h:=by simp[p0,jE,a]
@[simp]theorem S5:DO [.int i] h=.ok (.int (if i<0 then -i else i)) h:=rfl
@[simp]theorem Ra:CO [.int i,.int j] h=.ok (.int (if j<i then j else i)) h:=rfl
@[simp]theorem Rb:E3 [.int i,.int j] h=.ok (.int (if j>i then j else i)) h:=rfl
@[simp]theorem S6:F6 [.int i] h=.ok (.int i) h:=rfl
@[simp]theorem S7:F6 [.bl b] h=.ok (.int (if b then 1 else 0)) h:=rfl
@[simp]theorem Ov:p6 [.frl xs] h=.ok (.int xs.length) h:=rfl
@[simp]theorem Ow:p6 [.tup xs] h=.ok (.int xs.length) h:=rfl
theorem qV(a:xs.length<=1000):pq xs h=.ok (.loc h.length) (h++[.lst xs]):=by delta pq;rw[c_ (ny a (by decide))]
def oD(a:m<n):qp n (m:Int)=J m:=by delta qp;rw[c_ ⋯,c_ ⋯];simp
@[simp]theorem zJ:l0 (a::r) 0=J a:=cG (j:=0) rfl
@[simp]theorem Ox:l0 (a::b::r) 1=J b:=cG (j:=1) rfl
@[simp]theorem UX:l0 (a::b::c::r) 2=J c:=cG (j:=2) rfl
@[simp]theorem UY:l0 (a::b::c::d::r) 3=J d:=cG (j:=3) rfl
def Out.ofO(o:Option PV)(h:MH):WZ:=match o with
 |some v=>.ok v h
 |none=>.bad
@[simp]theorem Oy:Out.ofO (J v) h=.ok v h:=rfl
@[simp]theorem Oz:bG (.tup xs) (.int i) h=Out.ofO (l0 xs i) h:=rfl
@[simp]theorem OA:bG (.frl xs) (.int i) h=Out.ofO (l0 xs i) h:=rfl
theorem jY(e:h[n]?=J (.lst xs)):bG (.loc n) (.int i) h=Out.ofO (l0 xs i) h:=by simp only[bG,e];rfl
def pW(e:h[n]?=J (.lst xs)):pS (.loc n) (.int i) v h=(qp xs.length i).map λp=>h.set n (.lst (xs.set p v)):=by simp only[pS,e]
def B8(e:h[n]?=J (.lst xs)):p_ (.loc n) h=.ok ⟨xs,[(n,xs)]⟩ h:=by simp only[p_,e]
@[simp]theorem M0:p_ (.tup xs) h=.ok ⟨xs,[]⟩ h:=rfl
@[simp]theorem M1:p_ (.frl xs) h=.ok ⟨xs,[]⟩ h:=rfl
@[simp]theorem sE:(⟨xs,[]⟩:MIt).ok h↔True:=⟨λ_=>trivial,λ_ p hp=>nomatch hp⟩
@[simp]theorem Ge:(⟨xs,[(n,zs)]⟩:MIt).ok h↔h[n]?=J (.lst zs):=by
 constructor
 .intro q;exact q (n,zs) (by simp)
 .intro q p hp;have e:=MK.mp hp;subst e;exact q
end
def SOut.turn(o:SOut)(k:mh):SOut:=match o with
 |.nx f a=>k f a
 |.ct f a=>k f a
 |.bk f a=>.nx f a
 |.rt v a=>.rt v a
 |.exc e f a=>.exc e f a
 |.rse e f a=>.rse e f a
 |.bad=>.bad
@[simp]theorem Dx:(SOut.rse x Z h).turn k=.rse x Z h:=rfl
@[simp]theorem Cr:(SOut.exc x Z h).turn k=.exc x Z h:=rfl
@[simp]theorem turn_nx:(SOut.nx Z h).turn k=k Z h:=rfl
@[simp]theorem turn_ct:(SOut.ct Z h).turn k=k Z h:=rfl
@[simp]theorem turn_bk:(SOut.bk Z h).turn k=.nx Z h:=rfl
@[simp]theorem turn_rt:(SOut.rt v h).turn k=.rt v h:=rfl
theorem Gf(e:it.ok h):xT it g b [] Z h=.nx Z h:=by rw[xT];dsimp only;rw[c_ e]
def De(e:it.ok h)(a:g x Z h=.nx Z1 h1):xT it g b (x::r) Z h=(b Z1 h1).turn (xT it g b r):=by rw[xT];dsimp only;rw[c_ e,a];rfl
def vD(f:Nat->Shared->Prop)(turn:∀n s,f n s->wpAny (model prog w) A (pyNext it) (λr l=>match r with
   |none=>R (.ok .next) l
   |some v=>wpAny (model prog w) A (letOwnedTupleGo target it v) (λ_ a=>wpAny (model prog w) A (assign target env v) (λ_ B =>
     wpAny (model prog w) A (forIn ifs I λc r=>if r=I then do let ok <-isTrue c env (eval c env);pure (ForInStep.yield ok)else pure (ForInStep.yield r)) (λok i =>
      if ok=I then wpAny (model prog w) A (eval elt env) (λx C =>
       wpAny (model prog w) A (call (.builtin "list.append") [acc,x]) (λ_ z=>∃m,m<n/\f m z) (λ_ _=>False) C) (λ_ _=>False) i
      else ∃m,m<n/\f m i) (λ_ _=>False) B) (λ_ _=>False) a) (λ_ _=>False) l) (λ_ _=>False) s)(n:Nat)(h:f n s):
  codeAny (model prog w) A (.compLoop (.ListComp elt [⟨target,iter,ifs,0⟩] scope pos) 0 it acc env) R s:=by
 refine codeAny_loop rfl f (λn s L=>?_) n h;refine wpAny_noted ?_;rw[compTurn_list];refine e_ (wpAny_standAt (e_ (wpAny_mono (turn n s L) (λr l y=>?_) λ_ _ j=>j.elim)))
 cases r with
 |none=>exact i5 y
 |some v =>
  refine e_ (wpAny_mono y (λ_ a E=>?_) λ_ _ j=>j.elim);refine e_ (wpAny_mono E (λ_ B G=>e_ (wpAny_mono G (λok i u=>?_) λ_ _ j=>j.elim)) λ_ _ j=>j.elim)
  cases ok with
  |false=>exact i5 ⟨rfl,u⟩
  |true =>
   exact e_ (e_ (wpAny_mono u (λx C F=>e_ (wpAny_mono F (λ_ z H=>i5 (i5 ⟨rfl,H⟩)) λ_ _ j=>j.elim)) λ_ _ j=>j.elim))
def lO(env:Env):List (Str×NameKind)->List (Str×Addr)->List (Str×Addr)
 |[],a=>a
 |(n,k)::r,a=>lO env r (if(k==NameKind.free)=I then(n,(env.cells.lookup n).getD 0)::a else a)
def uu(h:∀y∈scope.names,y.2=.free->∃c,env.cells.lookup y.1=J c):closureFor scope env=pure (lO env scope.names []):=by
 have key:∀(l:List (Str×NameKind))(f:List (Str×Addr)),(∀y∈l,y.2=.free->∃c,env.cells.lookup y.1=J c) ->
   (forIn l f λ(x:Str×NameKind)(r:List (Str×Addr))=>if(x.2==NameKind.free)=I then(do let a <-cellOf env x.1;pure (ForInStep.yield ((x.1,a)::r)):Sem _)else pure (ForInStep.yield r))=(pure (lO env l f):Sem _):=by
  intro l
  induction l with
  |nil=>intro f _;rfl
  |cons y l C =>
   intro f B;obtain⟨n,k⟩:=y;rw[R6];have E:=λz F=>B z (mw _ F);by_cases i:(k==NameKind.free)=I
   .obtain⟨c,u⟩:=B (n,k) xg (by simpa using i);rw[c_ i];have j:cellOf env n=pure c:=by unfold cellOf;rw[u]
    rw[j];refine(C ((n,c)::f) E).trans ?_;simp only[lO,i,if_true,u,Option.getD_some]
   .rw[f_ i];refine(C f E).trans ?_;simp[lO,i]
 exact(congrArg (λz=>z >>= λr=>pure r) (key scope.names [] h)).trans rfl
def oW:∀(l:List (Str×NameKind))(f:List (Str×Addr)),(∀a,f.lookup x=J a->a=(env.cells.lookup x).getD 0)->(∀a,(lO env l f).lookup x=J a->a=(env.cells.lookup x).getD 0)/\((∃k,(x,k)∈l/\k=.free)\/(∃a,f.lookup x=J a)->∃a,(lO env l f).lookup x=J a):=by
 intro l
 induction l with
 |nil =>
  intro f h;refine⟨h,λz=>?_⟩;rcases z with⟨k,z,_⟩|z
  .cases z
  .exact z
 |cons y r C =>
  intro f h;obtain⟨n,k⟩:=y;have B:∀a,(if(k==NameKind.free)=I then(n,(env.cells.lookup n).getD 0)::f else f).lookup x=J a->a=(env.cells.lookup x).getD 0:=λa i=>by
   split at i
   .rw[Fy]at i
    split at i
    .rename_i e
     have:x=n:=by simpa using e
     subst this;exact(Option.some.inj i).symm
    .exact h a i
   .exact h a i
  obtain⟨E,u⟩:=C _ B;refine⟨E,λz=>u ?_⟩;rcases z with⟨F,z,j⟩|⟨a,z⟩
  .rcases lb.mp z with e|e
   .cases e;right;subst j;exact⟨(env.cells.lookup x).getD 0,by simp⟩
   .exact .inl ⟨F,e,j⟩
  .right;split
   .rw[Fy];split
    .exact⟨_,rfl⟩
    .exact⟨a,z⟩
   .exact⟨a,z⟩
def c8{env:Env}(u:env.scope.kind=.function):∀{names:List (Str×NameKind)}{x:Str}{k:NameKind},names.lookup x=J k ->
  (names.map λ(n,k)=>if(k==NameKind.free&&env.scope.kind == .function&&env.kindOf n==J .cell)then(n,NameKind.cell)else(n,k)).lookup x=J (if k=.free/\env.kindOf x=J .cell then .cell else k):=by
 intro names
 induction names with
 |nil=>intro x k h;simp at h
 |cons y r f =>
  intro x k h;obtain⟨n,i⟩:=y;have l:=@f x k;show List.lookup x ((if(i==NameKind.free&&env.scope.kind == .function&&env.kindOf n==J .cell)=I then(n,NameKind.cell)else(n,i))::_)=_
  cases a:x==n with
  |true =>
   have e:x=n:=by simpa using a
   subst e;simp only[Fy,a]at h;cases h;by_cases z:k=.free/\env.kindOf x=J .cell
   .rw[c_ (by simp[z.1,z.2,u]),c_ z];simp
   .rw[f_ (by simp[u];intro B C;exact z ⟨B,C⟩),f_ z];simp
  |false =>
   simp only[Fy,a]at h;by_cases j:(i==NameKind.free&&env.scope.kind == .function&&env.kindOf n==J .cell)=I
   .rw[c_ j];simp only[Fy,a];exact l h
   .rw[f_ j];simp only[Fy,a];exact l h
def e7(X:Cx)(a:Scope)(cl:List (Str×Addr))(f:Shared)(i:Hp)(l:WS)(j:WM):Cx :=
 { X with N:=j,s₀:=f,H₀:=i,env:=compEnvC a cl f.heap.objs.size X.env,outer:=X.stack,ex:=l,fn:=λx=>decide (a.names.lookup x=J .cell),pn:=[],xe:=λ_ _=>False}
structure zk(X:Cx)(N:WM)(scope:Scope)(vars frees:WM)(fm:WQ):Prop where
 kind:scope.kind=.function
 cell:∀y∈scope.names,y.2=.cell->scope.names.lookup y.1=J .cell
 names:∀y∈scope.names,y.2=.local->scope.names.lookup y.1=J .local
 hv:∀x∈vars,scope.names.lookup x=J .local\/scope.names.lookup x=J .cell
 hf:∀x∈frees,scope.names.lookup x=J .free
 all:∀y∈scope.names,y.2=.free->y.1∈frees
 fm:fm.map (λi=>N[i]?)=frees.map J
 cl:∀x∈frees,X.env.kindOf x=J .cell
def EK(a:Nat)(fm:WQ)(Z:ly):ly:=List.replicate a Y++fm.map λi=>(Z[i]?).getD Y
def A_(a:MIt)(n:Nat)(i:Mg)(mt:Mx Bool)(j:Mx PV):WL->ly->MH->Out Unit
 |[],_,h=>if a.ok h then .ok () h else .bad
 |x::r,Z,h=>if a.ok h then (match i x Z h with
  |.nx f y=>(mt f y).ne.bind λb l=>if b=I then (j f l).ne.bind λv u=>(match u[n]? with
    |some (.lst ys)=>if ys.length<sizeLine then A_ a n i mt j r f (u.set n (.lst (ys++[v])))else .bad
    |_=>.bad)else A_ a n i mt j r f l
  |_=>.bad)else .bad
def fH(r:Nat)(fm:WQ)(l:Mx MIt)(i:Mg)(mt:Mx Bool)(j:Mx PV):Mx PV:=λZ h =>
 (l Z h).bind λf a=>(A_ f a.length i mt j f.xs (EK r fm Z) (a++[.lst []])).bind λ_ u=>.ok (.loc a.length) u
def IA(X:Cx)(a:WX)(m:Mx Bool):Prop :=
 ∀(f:WU)(s:Shared)(Z:L2.St)(H:Hp)(Q:Bool->Hp->Prop),Inv X f Z H s->tM X N6 m Z H Q ->
  wpAny (model X.prog X.w) X.A (forIn a I λc r=>if r=I then do let ok <-isTrue c X.env (eval c X.env);pure (ForInStep.yield ok)else pure (ForInStep.yield r)) (TP X f Z Q) X.xe s
def v_:Mx Bool:=λ_ h=>.ok I h
def sS:IA X [] v_:=λl s Z H Q a ⟨U,f,h,j,i,q⟩=>wpAny_tests_nil ⟨H,a,q U H I (Le.refl _ _) i rfl⟩
def Gg(h:MT X c m):IA X [c] m:=λf s Z H Q a q=>wpAny_tests_one (h f s Z H Q a q)
inductive CS(X:Cx)(U:WS)(H:Hp)(σp:ly)(gt:Mg)(mt:Mx Bool)(me:Mx PV)(Z0:ly)(Q:VK)(J:It)(H1:Hp):Prop
 |mk(U1:WS)(it:MIt)(h1:MH)(l:Le U H U1 H1)(rh:RH X.K X.mg U1 H1 h1)(j:rj X U1 H1 it J)(q:Ful X (RV' X) σp U1 H1 ((A_ it h1.length gt mt me it.xs Z0 (h1++[.lst []])).bind λ_ h3=>.ok (.loc h1.length) h3) Q):CS X U H σp gt mt me Z0 Q J H1
inductive CI(X Y:Cx)(it:MIt)(tn:Nat->Heap->Prop)(fp U0:WS)(H0:Hp)(σp:ly)(n1:Nat)(gt:Mg)(mt:Mx Bool)(me:Mx PV)(Q:VK)(n:Nat)(s6:Shared):Prop
 |mk(i:Nat)(Z6:L2.St)(H6:Hp)(U6:WS)(σp6:ly)(h6:MH)(e:n=it.xs.length-i)(l:i<=it.xs.length)(v:Inv Y [] Z6 H6 s6)(t:tn i s6.heap)(f:∀b∈fp,H6 b=none)(le:Le U0 H0 U6 H6)(rs:RS X.K U6 H6 σp6 Z6)(rh:RH X.K X.mg U6 H6 h6)
   (q:Ful X (RV' X) σp U6 H6 ((A_ it n1 gt mt me (it.xs.drop i) σp6 h6).bind λ_ h3=>.ok (.loc n1) h3) Q):CI X Y it tn fp U0 H0 σp n1 gt mt me Q n s6
def uk(j:Q (newEnv scope s.heap.objs.size globals (cellsFrom (s.heap.objs.size+1) scope.names closure) qual Y .none (J env) builtinsNs) { s with heap:=pushCells (s.heap.push { cls:=.type "dict",data:=.dict #[]}) scope.names}):
  wpAny M A (newFunctionEnv scope globals closure [] qual Y .none (J env)) Q E s:=by
 simp only[newFunctionEnv,Option.isSome_some,if_true];refine e_ (wpAny_alloc ?_);refine e_ (wpAny_layCells _ (λf kind a=>by cases i:kind==NameKind.cell<;>simp) _ _ _ _ ?_);rw[show({ s with heap:=s.heap.push { cls:=.type "dict",data:=.dict #[]}}:Shared).heap.objs.size=s.heap.objs.size+1 from Ep ..];exact e_ (i5 (i5 j))
def eB:∀(names:List (Str×NameKind))(n:Nat)(a:List (Str×Addr)),cellsFrom n names a=cellsFrom n names []++a
 |[],n,a=>rfl
 |(x,k)::r,n,a=>by
  unfold cellsFrom;split
  .rw[eB r (n+1) ((x,n)::a),eB r (n+1) [(x,n)]];simp
  .exact eB r n a
def gH:∀(names:List (Str×NameKind))(n:Nat)(x:Str),(∃c,(x,c)∈cellsFrom n names [])↔(x,NameKind.cell)∈names
 |[],n,x=>by simp[cellsFrom]
 |(y,k)::r,n,x=>by
  unfold cellsFrom;split
  .rename_i i
   have f:k=NameKind.cell:=by simpa using i
   subst f;rw[eB];constructor
   .rintro⟨c,a⟩;rcases ml.mp a with a|a
    .exact mw _ ((gH r (n+1) x).mp ⟨c,a⟩)
    .have:x=y:=by simp at a;exact a.1
     rw[this];exact xg
   .intro h;rcases lb.mp h with e|h
    .have:x=y:=by simpa using e
     subst this;exact⟨n,n2 _ (by simp)⟩
    .obtain⟨c,a⟩:=(gH r (n+1) x).mpr h;exact⟨c,rT _ a⟩
  .rw[gH r n x];constructor
   .exact mw _
   .intro h;rcases lb.mp h with e|h
    .exfalso
     grind
    .exact h
def pM{α:Type}:∀(a b:List (Str×α))(x:Str),(a++b).lookup x=(a.lookup x).or (b.lookup x):= by grind
def CH{α:Type}:∀(a:List (Str×α))(x:Str),a.lookup x=Y->∀c,(x,c)∉a:= by grind
section
variable{X:Cx}{N W G:WM}{k:Nat}
def tS(g:Good X N W G k){tg ax ca:Expr}{b6:WX}{f:Scope}{dt:Pos}{B frees G':WM}{fm:WQ}{mi:Mx MIt}{gt:Mg}{mt:Mx Bool}{me:Mx PV}(C:zk X N f B frees fm)(nd:(B++frees).Nodup)(g4:∀x∈G',f.names.lookup x=J .globalImplicit)(dbg:∀x∈(B++frees)++G',(x==("__debug__":Str))=T/\(x==("__classdict__":Str))=T/\x≠"__name__")(hi:MI X tg ax mi)(hY:∀al:Cx,al.prog=X.prog->al.w=X.w->al.K=X.K->al.mg=X.mg->al.base=X.base->al.env.scope=relabel f X.env->Good al (B++frees) B G' k->MG al tg gt/\IA al b6 mt/\ME al ca me)(hs:∀x,foldedSetIterable ax X.env x=pure x){use:Option (Value->Sem Unit)}{Qv:WA}{pp:Pos}{Oa:WU}{s:Shared}{Z:L2.St}{H:Hp}{Q:VK}(c2:Inv X Oa Z H s)(tm:tM X (RV' X) (fH B.length fm mi gt mt me) Z H Q)(fin:∀(ez C:Addr) (H6:Hp) (s7:Shared) (m7:WB),Inv X Oa Z H6 s7->H6 C=Y->s7.heap.Ns C m7->C≠X.env.locals->X.s₀.heap.objs.size<=C->C∉X.fs->(∀x c,X.env.cells.lookup x=J c->c≠C)->(∀p∈X.pn++Oa,p.1≠C)->Q (.ref ez) H6 ->
   compPost (model X.prog X.w) X.A X.xe use Qv (.ref ez) C (.ok .next) s7):
  wpAny (model X.prog X.w) X.A (comprehension (.ListComp ca [⟨tg,ax,b6,0⟩] f dt) f X.env pp (newList []) T (eval ax X.env) use) Qv X.xe s:=by
 obtain⟨U,as,h,rs,rh,q⟩:=tm;have bx:∀y∈f.names,y.2=.free->∃c,X.env.cells.lookup y.1=J c:=λy hy e=>c2.ok.has y.1 (.inl (C.cl _ (C.all y hy e)));refine wpAny_comprehension_free (use:=use) rfl hs (uu bx) C.kind C.names ?_;generalize da:lO X.env f.names []=cl;have eF:∀x a,cl.lookup x=J a->X.env.cells.lookup x=J a\/((X.env.cells.lookup x)=Y/\a=0):=λx a e=>by
  rw[<-da]at e
  have:=(oW (env:=X.env) (x:=x) f.names [] (λa z=>by simp at z)).1 a e
  cases z:X.env.cells.lookup x with
  |none=>right;rw[z]at this;exact⟨rfl,this⟩
  |some c=>left;rw[z]at this;rw[this];rfl
 have fk:∀x∈frees,∃c,cl.lookup x=J c/\X.env.cells.lookup x=J c:=λx hx=>by
  obtain⟨c,hc⟩:=c2.ok.has x (.inl (C.cl x hx));have hm:(∃kk,(x,kk)∈f.names/\kk=.free):=⟨.free,PySem.mem_of_lookup (C.hf x hx),rfl⟩;obtain⟨a,ha⟩:=(oW (env:=X.env) (x:=x) f.names [] (λa z=>by simp at z)).2 (.inl hm);rw[da]at ha;rcases eF x a ha with z|⟨z,_⟩
  .rw[hc]at z;cases z;exact⟨c,ha,hc⟩
  .rw[hc]at z;cases z
 have fl:∀x a,cl.lookup x=J a->X.env.cells.lookup x=J a/\x∈frees:=λx a e=>by
   have only:∀(l:List (Str×NameKind))(cs:List (Str×Addr))(x:Str)(a:Addr),(lO X.env l cs).lookup x=J a->(x,NameKind.free)∈l\/cs.lookup x=J a:=by
    intro l
    induction l with
    |nil=>intro cs x a e;exact .inr e
    |cons y l ih =>
     intro cs x a e;obtain⟨n,kk⟩:=y;rcases ih _ x a e with z|z
     .exact .inl (mw _ z)
     .split at z
      .rename_i hk
       have f5:kk=NameKind.free:=by simpa using hk
       rw[Fy]at z
       split at z
       .rename_i e'
        have:x=n:=by simpa using e'
        subst this;subst f5;exact .inl xg
       .exact .inr z
      .exact .inr z
   have e':=e;rw[<-da]at e';rcases only _ _ x a e' with z'|z'
   .refine⟨?_,C.all _ z' rfl⟩;rcases eF x a e with z|⟨z,_⟩
    .exact z
    .obtain⟨c,hc⟩:=bx _ z' rfl;rw[z]at hc;cases hc
   .simp at z'
 have start:=hi Oa s Z H (CS X U H as gt mt me (EK B.length fm as) Q) c2
  ⟨U,as,h,rs,rh,Ful.bind q λU1 H1 it f0 h1 _ l1 cf jr q1=>⟨U1,it,h1,l1,cf,jr,q1⟩⟩
 refine wpAny_mono start (λx hF ei=>wpAny_mono ei (λhK F fa=>?_) λ_ _ e=>e) λ_ _ e=>e;obtain⟨eC,fp,tn,f0,H2,rfl,I2,S,eh,f2,U1,it,h1,l1,cf,jr,q1⟩:=fa;refine wpAny_newObj_type ?_;have gp:H2 F.heap.objs.size=Y:=I2.hok.fresh (i4 _);have M:=I2.lnew (ys:=[]) (its:=[]) (t':=F.toks) .nil (t0 _);obtain⟨eG,l3⟩:=cf.new gp (o:=.lst []) (ho:=.lst []) ⟨[],rfl,.nil⟩;generalize hq:({ F with heap:=F.heap.push { cls:=.type "list",data:=.seq ([]:WT).toArray},toks:=F.toks}:Shared)=E at M;generalize e0:ky H2 F.heap.objs.size (.lst [])=L at M eG l3;have hD:L F.heap.objs.size=J (.lst []):=by rw[<-e0];exact cg
 have hC:E.heap=F.heap.push { cls:=.type "list",data:=.seq ([]:WT).toArray}:=by rw[<-hq]
 have cd:tn 0 E.heap:=S.keep _ _ _ eh λb _ o e=>by rw[hC];exact k_ _ e
 have b3:∀b∈fp,jS X Oa L b:=λb R=>by
  obtain⟨a0,a1⟩:=f2 b R;refine⟨?_,a1⟩;obtain⟨o,eo,_⟩:=S.obj _ _ eh b R;rw[<-e0,bh (tt (l_ eo))];exact a0
 have c4:wpAny (model X.prog X.w) X.A (newFunctionEnv f X.env.globals cl [] X.env.qual Y .none (J X.env)) (λw_ ew =>
    codeAny (model X.prog X.w) X.A (.compStart (.ListComp ca [⟨tg,ax,b6,0⟩] f dt) 0 (.ref eC) (.ref F.heap.objs.size) { w_ with scope:=relabel f X.env}) (compPost (model X.prog X.w) X.A X.xe use Qv (.ref F.heap.objs.size) w_.locals) ew) X.xe E:=by
  refine uk ?_;have O:∀b o,E.heap.get? b=J o->(pushCells (E.heap.push { cls:=.type "dict",data:=.dict #[]}) f.names).get? b=J o:=λb o e=>pushCells_keeps _ _ b o (k_ _ e);have fc:=(Heap.Ns.new E.heap (.type "dict")).keeps (pushCells_keeps f.names _);have bn:=cellsFrom_ok f.names (E.heap.push { cls:=.type "dict",data:=.dict #[]}) (E.heap.objs.size+1) [] ⟨λ_ _ hm=>(nomatch hm),List.Pairwise.nil⟩ (by rw[Ep];exact i4 _);rw[Ep]at bn;rw[eB];have cb:=gH f.names (E.heap.objs.size+1);generalize cellsFrom (E.heap.objs.size+1) f.names []=cn at bn cb ⊢;generalize pushCells (E.heap.push { cls:=.type "dict",data:=.dict #[]}) f.names=h' at O fc bn ⊢;dsimp only[newEnv];have a9:∀x c,(cn++cl).lookup x=J c->((x,c)∈cn/\f.names.lookup x=J .cell/\E.heap.objs.size<c/\h'.IsCell c Y)\/(X.env.cells.lookup x=J c/\f.names.lookup x=J .free):=λx c e=>by
   rw[pM]at e
   cases z:cn.lookup x with
   |some c' =>
    rw[z]at e
    have:c'=c:=by simpa using e
    subst this;have m:=PySem.mem_of_lookup z;obtain⟨q1,q2⟩:=bn.empty x c' m;exact .inl ⟨m,C.cell _ ((cb x).mp ⟨c',m⟩) rfl,q2,q1⟩
   |none =>
    rw[z]at e;obtain⟨q1,q2⟩:=fl x c (by simpa using e);exact .inr ⟨q1,C.hf x q2⟩
  have es:∀x c,x∈frees->cl.lookup x=J c->(cn++cl).lookup x=J c:=λx c hx e=>by
   rw[pM]
   cases z:cn.lookup x with
   |none=>simpa using e
   |some c' =>
    have:=C.cell _ ((cb x).mp ⟨c',PySem.mem_of_lookup z⟩) rfl
    rw[C.hf x hx]at this;cases this
  have old:∀x c,X.env.cells.lookup x=J c->c<E.heap.objs.size:=λx c e=>by
   obtain⟨v,qc⟩:=M.cell x c e;exact qc.lt
  have ok:(e7 X f (cn++cl) E L fp (B++frees)).Ok:=by
   refine⟨M.ok.mod,C.kind,M.ok.glob,M.ok.blt,i4 _,λx y c h1 h2=>?_,λx hx=>?_,λx c hx e=>?_,M.ok.hd,M.ok.frames,.inl rfl,
    λb R=>⟨?_,λx c e z=>?_⟩,M.bs,ny M.ok.bsz M.sz,λb o e R=>?_,λb R z=>?_,M.stack,M.stkFree⟩
   .rcases a9 x c h1 with⟨a1,_,a2,_⟩|⟨a1,_⟩<;>rcases a9 y c h2 with⟨b1,_,b2,_⟩|⟨b1,_⟩
    .exact PySem.name_of_addr bn.apart a1 b1
    .exact absurd (Sb a2 (old y c b1)) (Ef _)
    .exact absurd (Sb b2 (old x c a1)) (Ef _)
    .exact M.ok.inj x y c a1 b1
   .
    have bi:(relabel f X.env).names.lookup x=J .cell\/(relabel f X.env).names.lookup x=J .free:=hx
    cases e:f.names.lookup x with
    |none =>
     exfalso;have nn:∀(l:List (Str×NameKind)),l.lookup x=Y->(l.map λ(n,k)=>if(k==NameKind.free&&X.env.scope.kind == .function&&X.env.kindOf n==J .cell)then(n,NameKind.cell)else(n,k)).lookup x=Y:=by
      intro l
      induction l with
      |nil=>intro _;rfl
      |cons y l ih =>
       intro hl;obtain⟨n,kk⟩:=y;rw[Fy]at hl
       split at hl
       .cases hl
       .rename_i gg
        rw[oI];dsimp only
        split<;>(rw[Fy];simp only[gg];exact ih hl)
     have e2:=nn f.names e;rcases bi with z|z
     .rw[show(relabel f X.env).names.lookup x=Y from e2]at z;cases z
     .rw[show(relabel f X.env).names.lookup x=Y from e2]at z;cases z
    |some kk =>
     have e2:=c8 (env:=X.env) M.ok.kind e;have hk:kk=.free\/kk=.cell:=by
      rcases bi with z|z
      .rw[show(relabel f X.env).names.lookup x=_ from e2]at z;have z':=Option.some.inj z;by_cases zz:kk=.free/\X.env.kindOf x=J .cell
       .exact .inl zz.1
       .rw[f_ zz]at z';exact .inr z'
      .rw[show(relabel f X.env).names.lookup x=_ from e2]at z;have z':=Option.some.inj z;by_cases zz:kk=.free/\X.env.kindOf x=J .cell
       .exact .inl zz.1
       .rw[f_ zz]at z';exact .inl z'
     rcases hk with hk|hk
     .subst hk;have hf:=C.all _ (PySem.mem_of_lookup e) rfl;obtain⟨c,h1,_⟩:=fk x hf;exact⟨c,es x c hf h1⟩
     .subst hk;obtain⟨c,hc⟩:=(cb x).mpr (PySem.mem_of_lookup e);show ∃c,(cn++cl).lookup x=J c;rw[pM]
      cases z:cn.lookup x with
      |some c'=>exact⟨c',rfl⟩
      |none=>exact absurd hc (CH cn x z c)
   .have bi:=of_decide_eq_true hx;rcases a9 x c e with⟨_,_,q,_⟩|⟨_,q⟩
    .exact wr q
    .rw[q]at bi;cases bi
   .obtain⟨o,eo,_⟩:=S.obj _ _ cd b R;exact tt (l_ eo)
   .rcases a9 x c e with⟨_,_,q,_⟩|⟨q,_⟩
    .obtain⟨o,eo,_⟩:=S.obj _ _ cd b R;exact absurd (Sb q (z▸l_ eo)) (Ef _)
    .exact (b3 b R).2.2.2.2.1 x c q z
   .obtain⟨_,_,_,h4,_⟩:=b3 b R;rcases h4 with h4|h4
    .exact M.ok.noex b o e h4
    .exact absurd (oy (l_ e) (ny M.ok.bsz h4)) (Ef _)
   .obtain⟨_,h2,h3,_⟩:=b3 b R;rcases lb.mp (M.stkSub b z)with e|e
    .exact h2 e
    .exact h3 e
  obtain⟨mX,hO,lX⟩:=M.loc;have hj:Le U H (U1++[F.heap.objs.size]) L:=l1.trans l3
  let ay:L2.St:=List.replicate B.length Y++fm.map λi=>(Z[i]?).getD Y
  have hz:fm.length=frees.length:=by have:=congrArg List.length C.fm;simpa using this
  have ey:Inv (e7 X f (cn++cl) E L fp (B++frees)) [] ay L { E with heap:=h',toks:=E.toks}:=by
   refine⟨ok,rfl,M.bare,Un.kept O,⟨_,fc,λi x v hN hv hE=>?_⟩,λx c e=>?_,?_,λx c e=>?_,λp hp=>absurd (show p∈([]:WU)from hp) (by simp),M.hok.kept O,?_⟩
   .have c5:(B++frees)[i]?=J x:=hN;have fv:B.length<=i:=by
     by_cases z:B.length<=i
     .exact z
     .exfalso;have a3:ay[i]?=J (J v):=hv;rw[q7 (by simp;ext),Mz]at a3
      split at a3<;>cases a3
    have a3:ay[i]?=J (J v):=hv;rw[Eb (by simpa using fv),Nj,oe]at a3;rw[Eb fv]at c5
    cases ej:fm[i-B.length]? with
    |none=>rw[ej]at a3;cases a3
    |some j =>
     rw[ej]at a3;have ef:=congrArg (λl=>l[i-B.length]?) C.fm;simp only[oe,ej,c5,Jo]at ef;have f1:N[j]?=J x:=by simpa using ef
     have ev:Z[j]?=J (J v):=by
      have:(Z[j]?).getD Y=J v:=by simpa using a3
      cases z:Z[j]? with
      |none=>rw[z]at this;cases this
      |some o=>rw[z]at this;simp at this;rw[this]
     have hx:x∈frees:=wj c5;have hA:QT X.env.scope x:=.inr (.inl (C.cl x hx));obtain⟨u,ru,d2⟩:=lX j x v (by rw[g.hN];exact f1) ev hA;refine⟨u,ru,.inr ⟨?_,?_⟩⟩
     .left;show(relabel f X.env).names.lookup x=J .cell
      have:=c8 (env:=X.env) M.ok.kind (C.hf x hx)
      rw[c_ ⟨rfl,C.cl x hx⟩]at this;exact this
     .rcases d2 with⟨hk,_⟩|⟨_,c,hc,dx⟩
      .rw[C.cl x hx]at hk;cases hk
      .obtain⟨c',h1,h2⟩:=fk x hx;rw[hc]at h2;cases h2;obtain⟨o,eo,ed⟩:=dx;exact⟨c,es x c hx h1,o,O _ _ eo,ed⟩
   .rcases a9 x c e with⟨_,_,_,q⟩|⟨q,_⟩
    .exact⟨Y,q⟩
    .obtain⟨v,o,eo,ed⟩:=M.cell x c q;exact⟨v,o,O _ _ eo,ed⟩
   .exact M.hok.fresh (i4 _)
   .rcases a9 x c e with⟨_,_,q,_⟩|⟨q,_⟩
    .exact M.hok.fresh (wr q)
    .exact M.freeC x c q
   .show ay.length=(B++frees).length;simp[ay,hz]
  have gY:Good (e7 X f (cn++cl) E L fp (B++frees)) (B++frees) B G' k:=by
   refine⟨rfl,nd,λx hx=>?_,λx hx=>?_,λx hx=>?_,dbg,g.calm,g.room,PassesOwn.never⟩
   .rcases ml.mp hx with z|z
    .rcases C.hv x z with z|z
     .left
      have:=c8 (env:=X.env) M.ok.kind z
      rw[f_ (λq=>nomatch q.1)]at this;exact this
     .right
      have:=c8 (env:=X.env) M.ok.kind z
      rw[f_ (λq=>nomatch q.1)]at this;exact this
    .right
     have:=c8 (env:=X.env) M.ok.kind (C.hf x z)
     rw[c_ ⟨rfl,C.cl x z⟩]at this;exact this
   .rcases C.hv x hx with z|z
    .right
     have:=c8 (env:=X.env) M.ok.kind z
     rw[f_ (λq=>nomatch q.1)]at this;exact this
    .exact .inl (decide_eq_true z)
   .have:=c8 (env:=X.env) M.ok.kind (g4 x hx)
    rw[f_ (λq=>nomatch q.1)]at this;exact this
  obtain⟨hg,ht,he⟩:=hY (e7 X f (cn++cl) E L fp (B++frees)) rfl rfl rfl rfl rfl rfl gY;have ge:RS X.K (U1++[F.heap.objs.size]) L (EK B.length fm as) ay:=by
   refine⟨by simp[ay,EK],λi v e=>?_⟩;unfold EK at e;by_cases z:B.length<=i
   .rw[Eb (by simpa using z),Nj,oe]at e
    cases ej:fm[i-B.length]? with
    |none=>rw[ej]at e;cases e
    |some j =>
     rw[ej]at e;have ev:as[j]?=J (J v):=by
      have:(as[j]?).getD Y=J v:=by simpa using e
      cases z:as[j]? with
      |none=>rw[z]at this;cases this
      |some o=>rw[z]at this;simp at this;rw[this]
     obtain⟨v',e',rv⟩:=rs.2 j v ev;refine⟨v',?_,rv.le hj⟩;show ay[i]?=_;rw[Eb (by simpa using z),Nj,oe,ej];simp[e']
   .rw[q7 (by simp;ext),Mz]at e
    split at e<;>cases e
  have q3:Ful X (RV' X) as (U1++[F.heap.objs.size]) L ((A_ it h1.length gt mt me it.xs (EK B.length fm as) (h1++[.lst []])).bind λ_ h3=>.ok (.loc h1.length) h3) Q:=Ful.le l3 q1;have bt:(U1++[F.heap.objs.size])[h1.length]?=J F.heap.objs.size:=by rw[<-cf.len];simp
  have cq:∀b0:Shared,b0={ E with heap:=h',toks:=E.toks}->codeAny (model X.prog X.w) X.A (.compLoop (.ListComp ca [⟨tg,ax,b6,0⟩] f dt) 0 (.ref eC) (.ref F.heap.objs.size) (compEnvC f (cn++cl) E.heap.objs.size X.env))
    (compPost (model X.prog X.w) X.A X.xe use Qv (.ref F.heap.objs.size) E.heap.objs.size) b0:=by
   rintro b0 rfl;refine vD (CI X (e7 X f (cn++cl) E L fp (B++frees)) it tn fp (U1++[F.heap.objs.size]) L as h1.length gt mt me Q) ?_ it.xs.length
    ⟨0,ay,L,_,_,_,rfl,t0 _,ey,S.keep _ _ _ cd (λb _ o e=>O b o e),λb R=>(b3 b R).1,Le.refl _ _,ge,eG,by simpa using q3⟩
   rintro n s6 ⟨i,Z6,H6,U6,bv,h6,rfl,hH,I6,el,et,l6,gx,ds,q6⟩;have bq:∀{H':Hp},(∀b∈fp,H' b=Y)->∀b∈fp,jS (e7 X f (cn++cl) E L fp (B++frees)) [] H' b:=λ{H'} hn b R =>
    ⟨hn b R,(ok.exf b R).1,ok.exfs b R,.inl R,(ok.exf b R).2,λp hp=>absurd (show p∈([]:WU)from hp) (by simp)⟩
   by_cases b4:i<it.xs.length
   .have ed:it.xs.drop i=it.xs[i]::it.xs.drop (i+1):=HQ b4;rw[ed]at q6;simp only[A_]at q6;by_cases hok:it.ok h6
    .rw[c_ hok]at q6;obtain⟨j1,_⟩:=jr U6 H6 h6 i (l3.trans l6) ds hok;obtain⟨go,yl⟩:=j1 b4;refine ki (S.item (e7 X f (cn++cl) E L fp (B++frees)) rfl rfl rfl g.calm i [] s6 Z6 H6 (λ_ _=>False) I6 (bq et) el go) λr s7 ⟨u,hr,h7⟩=>?_;subst hr;refine ki h7 λ_ s8 ⟨x8,H8,I8,r8,y8,dc,hw⟩=>?_;obtain⟨U8,x,l8,hB,ex,rx⟩:=yl x8 H8 y8;have gV:x=it.xs[i]:=by rw[q_ b4]at ex;exact(Option.some.inj ex).symm
     subst gV;have gi:=I8.pinned (bq hw) (S.obj _ _ dc);have q8:=Ful.le l8 q6;have ck:∀{Z9:L2.St}{H9:Hp}{s9:Shared},Inv (e7 X f (cn++cl) E L fp (B++frees)) ([]++mU fp s8.heap) Z9 H9 s9->Inv (e7 X f (cn++cl) E L fp (B++frees)) [] Z9 H9 s9/\tn (i+1) s9.heap/\∀b∈fp,H9 b=Y:=λ{Z9 H9 s9} I9=>by
      refine⟨I9.unpinned,S.keep _ _ _ dc λb R o e=>(I9.pin (b,o) (n2 _ (n2 _ (jo R e)))).1,λb R=>?_⟩;obtain⟨o,e,d⟩:=S.obj _ _ dc b R;exact(I9.pin (b,o) (n2 _ (n2 _ (jo R e)))).2.1
     cases eg:gt it.xs[i] bv h6 with
     |nx P h9 =>
      rw[eg]at q8;dsimp only at q8
      refine ki (hg _ s8 Z6 H8 x8 u (λZ' H'=>∃U',Le U8 H8 U' H'/\RH X.K X.mg U' H' h9/\RS X.K U' H' P Z') gi r8 ⟨U8,bv,h6,_,gx.le l8,hB,rx,by
       show pc _ _ _ (gt it.xs[i] bv h6) _
       rw[eg];exact λU' H' Z' l r s=>⟨U',l,r,s⟩⟩) λ_ s9 ⟨Z9,H9,I9,U9,l9,f4,b5⟩=>?_
      have q9:=Ful.le l9 q8
      cases em:mt P h9 with
      |ok b ba =>
       rw[em,Out.ne_ok]at q9;rw[Out.bind_ok]at q9
       refine ki (ht _ s9 Z9 H9 (λb' H'=>b'=b/\∃U',Le U9 H9 U' H'/\RH X.K X.mg U' H' ba) I9 ⟨U9,P,h9,b5,f4,by
        show Ful _ _ _ _ _ (mt P h9) _
        rw[em];exact λU' H' v' l r e=>⟨e.symm,U',l,r⟩⟩) λb' g1 ⟨c3,fi,eb,dd,a8,cy⟩=>?_
       subst eb;have an:=Ful.le a8 q9
       cases b' with
       |false =>
        rw[f_ Np]at an ⊢;obtain⟨e6,en,eu⟩:=ck fi;exact⟨_,by ext,i+1,Z9,c3,dd,P,ba,rfl,b4,e6,en,eu,l6.trans (l8.trans (l9.trans a8)),b5.le a8,cy,an⟩
       |true =>
        rw[c_ rfl]at an ⊢
        cases ee:me P ba with
        |ok v ek =>
         rw[ee,Out.ne_ok]at an;rw[Out.bind_ok]at an
         refine ki (he _ g1 Z9 c3 (λv' H'=>∃U',Le dd c3 U' H'/\RH X.K X.mg U' H' ek/\RP X.K U' H' v v') fi ⟨dd,P,ba,b5.le a8,cy,by
          show Ful _ _ _ _ _ (me P ba) _
          rw[ee];exact λU' H' v' l r e=>⟨U',l,r,e⟩⟩) λgy g5 ⟨v',c6,g3,ep,d0,db,cx,d1⟩=>?_
         have a7:=Ful.le db an;have be:Le (U1++[F.heap.objs.size]) L d0 c6:=l6.trans (l8.trans (l9.trans (a8.trans db)));obtain⟨oa,gs,hu⟩:=cx.obj (be.get bt);rw[gs]at a7
         cases oa with
         |dic hQ=>exact a7.elim
         |exc x=>exact a7.elim
         |lst ys =>
          dsimp only at a7;by_cases bu:ys.length<sizeLine
          .rw[c_ bu]at a7;obtain⟨dF,hh,ry⟩:=hu;obtain⟨ea,c1⟩:=cx.put (be.get bt) (o:=.lst (ys++[v])) (ho:=.lst (dF++[v'])) ⟨_,rfl,ry.append (.cons d1 .nil)⟩;have ap:=tK (X:=e7 X f (cn++cl) E L fp (B++frees)) _ g5 Z9 c6 (.ref F.heap.objs.size) [v'] (.ref F.heap.objs.size) [gy] (λ_ H'=>H'=ky c6 F.heap.objs.size (.lst (dF++[v']))) g3 rfl (.cons ep .nil) ⟨F.heap.objs.size,dF,v',rfl,rfl,hh,by rw[<-ry.length];exact bu,rfl⟩;refine ki ap λ_ hM ⟨_,hP,g2,_,eH⟩=>?_;subst eH;obtain⟨er,ec,dV⟩:=ck g2;exact⟨_,by ext,i+1,Z9,_,d0,P,_,rfl,b4,er,ec,dV,be.trans c1,(b5.le a8).le (db.trans c1),ea,Ful.le c1 a7⟩
          .rw[f_ bu]at a7;exact a7.elim
        |exc x ek=>rw[ee]at an;exact an.elim
        |bad=>rw[ee]at an;exact an.elim
      |exc x ba=>rw[em]at q9;exact q9.elim
      |bad=>rw[em]at q9;exact q9.elim
     |_=>rw[eg]at q8;exact q8.elim
    .rw[f_ hok]at q6;exact q6.elim
   .have e:i=it.xs.length:=by ext
    rw[e,List.drop_length]at q6;simp only[A_]at q6;by_cases hok:it.ok h6
    .rw[c_ hok]at q6;obtain⟨_,j2⟩:=jr U6 H6 h6 i (l3.trans l6) ds hok;refine ki (S.done (e7 X f (cn++cl) E L fp (B++frees)) rfl rfl rfl g.calm i [] s6 Z6 H6 (λ_ _=>False) I6 (bq et) el (j2 (by ext))) λr s7 ⟨hr,I7⟩=>?_;subst hr;obtain⟨m7,f3,_⟩:=I7.loc;have IX:=M.call' (s':=s7) (ch:=fp) I7.os I7.base I7.hok I7.bare λb R=>by
      obtain⟨_,a2,_,a4,a5,a6⟩:=b3 b R;exact⟨a4,a2,a5,a6⟩
     exact fin _ _ H6 s7 m7 IX I7.free f3 (DL M.lt) M.sz (M.nofs (i4 _)) (λx c e z=>by
      obtain⟨v,qc⟩:=M.cell x c e
      exact absurd qc.lt (by rw[z];exact Ef _)) (λp hp z=>absurd (l_ (M.pin p hp).1) (by rw[z];exact Ef _)) (q6 U6 H6 _ (Le.refl _ _) ds (.loc (l6.get bt)))
    .rw[f_ hok]at q6;exact q6.elim
  exact codeAny_compStart_list (cq _ rfl) (S.self X.A 0 _ _ _ (S.keep _ _ _ cd (λb _ o e=>O b o e)) (cq _ rfl))
 exact c4
def yi(g:Good X N W G k){B j l:Expr}{r:WX}{i:Scope}{F:Pos}{f frees E:WM}{fm:WQ}{O:Mx MIt}{M:Mg}{mt:Mx Bool}{P:Mx PV}(C:zk X N i f frees fm)(nd:(f++frees).Nodup)(z:∀x∈E,i.names.lookup x=J .globalImplicit)(dbg:∀x∈(f++frees)++E,(x==("__debug__":Str))=T/\(x==("__classdict__":Str))=T/\x≠"__name__")(hi:MI X B j O)(hY:∀a:Cx,a.prog=X.prog->a.w=X.w->a.K=X.K->a.mg=X.mg->a.base=X.base->a.env.scope=relabel i X.env->Good a (f++frees) f E k->MG a B M/\IA a r mt/\ME a l P)(hs:∀x,foldedSetIterable j X.env x=pure x:=by intro _;rfl):ME X (.ListComp l [⟨B,j,r,0⟩] i F) (fH f.length fm O M mt P):=by
 intro Oa s Z H Q u U;refine tS g C nd z dbg hi hY hs u U λL D S s7 m7 IX R ns hL hz an y hp q=>?_;refine⟨m7,ns,λal Ev=>⟨.ref L,S,?_,rfl,q⟩⟩;exact IX.turned (t':=s7.toks) (λb o hb e=>Ev.extBut b o hb e) R hL (.inr hz) y hp
def ye(g:Good X N W G k)(i:Nat){y:Str}{py B:Pos}{Q u F:Expr}{E:WX}{a:Scope}{O:Pos}{j frees G':WM}{fm:WQ}{mi:Mx MIt}{gt:Mg}{mt:Mx Bool}{me:Mx PV}(M:N[i]?=J y)(hw:W[i]?=J y)(as:swapsWith (.ListComp F [⟨Q,u,E,0⟩] a O) (J (.Name y py)) B.line X.env=pure I)(C:zk X N a j frees fm)(nd:(j++frees).Nodup)(an:∀x∈G',a.names.lookup x=J .globalImplicit)(dbg:∀x∈(j++frees)++G',(x==("__debug__":Str))=T/\(x==("__classdict__":Str))=T/\x≠"__name__")(hi:MI X Q u mi)(hY:∀f:Cx,f.prog=X.prog->f.w=X.w->f.K=X.K->f.mg=X.mg->f.base=X.base->f.env.scope=relabel a X.env->Good f (j++frees) j G' k->MG f Q gt/\IA f E mt/\ME f F me)(hs:∀x,foldedSetIterable u X.env x=pure x:=by intro _;rfl):MS X (.Assign [.Name y py] (.ListComp F [⟨Q,u,E,0⟩] a O) B) (bN i (fH j.length fm mi gt mt me)):=by
 intro Oa s Z H D R tm;obtain⟨U,ax,h,rs,rh,q⟩:=tm;rw[exec_Assign_Name_used _ _ _ _ as];refine e_ (wpAny_standAt (e_ ?_))
 refine e_ (wpAny_mono (tS g C nd an dbg hi hY hs R
  ⟨U,ax,h,rs,rh,bU.ex q λU1 H1 v v' h1 l r z w=>w U1 H1 _ (Le.refl _ _) r ((rs.le l).set i z)⟩ λL P H6 s7 m7 IX hC ns hL hz ap al hp q6=>?_) (λ_ s' hq=>i5 (i5 hq)) λ_ _ e=>e)
 .obtain⟨o,es,ep,ho,hd,hr⟩:=id ns;have IP:Inv X (Oa++[(P,o)]) Z H6 s7:=IX.pins_of λp S=>(ml.mp S).elim (λz=>IX.pin p (n2 _ z)) λz=>by
   have e:p=(P,o):=by simpa using z
   subst e;exact⟨ho,hC,hL,ap,λv z=>by rw[hd]at z;cases z⟩
  have st:=yy (pos:=py) (by rw[g.hN];exact g.nd) (g.x M) (g.loc y (aN M)) (g.fn y (aN hw)) (Oa++[(P,o)]) s7 Z H6 (.ref L) (.ref L) (λZ' H'=>Z'=Z.set i (J (.ref L))/\H'=H6) IP rfl ⟨rfl,rfl⟩;refine ki st λ_ s8 ⟨Z8,H8,I8,e1,e2⟩=>?_;subst e1;subst e2;have pn:=I8.pin (P,o) (n2 _ (n2 _ (by simp)));refine⟨m7,⟨o,es,ep,pn.1,hd,hr⟩,λay Ev=>⟨_,_,?_,q6⟩⟩;exact(I8.unpinned).turned (t':=s8.toks) (λb o hb e=>Ev.extBut b o hb e) hC hL (.inr hz) al hp
end
section
variable{X:Cx}{N W G:WM}{k:Nat}{Z:L2.St}{H:Hp}{s:Shared}
end
section
variable{prog:Program}{w:World}{A:Around}{E:WA}{h:Heap}{g:Array GenState}{d:Drawn}{t:Nat}{os:OsState}{a C:Addr}{o:Obj}{K:h_}
end
section
variable{X:Cx}{N W G:WM}{k:Nat}
end
def oY(hf:∀v d,f v=J d->d.depth<=n/\d.hasDict=T):∀{xs:WL}{a:List PyData},de f xs=J a->PyData.depthAll a<=n/\PyData.hasDictAll a=T
 |[],a,e=>by cases e;simp[PyData.depthAll,PyData.hasDictAll]
 |x::r,a,e=>by
  simp only[de]at e
  split at e
  .rename_i d i e1 e2
   cases e;obtain⟨y,l⟩:=hf _ _ e1;obtain⟨u,j⟩:=oY hf e2;simp only[PyData.depthAll,PyData.hasDictAll,l,j];exact⟨⋯,rfl⟩
  .cases e
def vR:∀(n:Nat)(v:PV)(d:PyData),rd n h v=J d->d.depth<=n/\d.hasDict=T
 |0,v,d,e=>by
  cases v<;>simp only[rd]at e<;>cases e<;>simp[PyData.depth,PyData.hasDict]
 |n+1,v,d,e=>by
  have key:∀xs,(∀f,de (rd n h) xs=J f->PyData.depthAll f<=n/\PyData.hasDictAll f=T):=λxs f=>oY (vR n)
  cases v with
  |non=>cases e;simp[PyData.depth,PyData.hasDict]
  |bl b=>cases e;simp[PyData.depth,PyData.hasDict]
  |int b=>cases e;simp[PyData.depth,PyData.hasDict]
  |str b=>cases e;simp[PyData.depth,PyData.hasDict]
  |tup xs =>
   simp only[rd,tr]at e;obtain⟨f,e1,rfl⟩:=e;obtain⟨a,b⟩:=key xs f e1;exact⟨by simp only[PyData.depth];lia,by simp only[PyData.hasDict,b]⟩
  |frl xs =>
   simp only[rd,tr]at e;obtain⟨f,e1,rfl⟩:=e;obtain⟨a,b⟩:=key xs f e1;exact⟨by simp only[PyData.depth];lia,by simp only[PyData.hasDict,b]⟩
  |loc m =>
   simp only[rd]at e
   split at e
   .rename_i xs _
    simp only[tr]at e;obtain⟨f,e1,rfl⟩:=e;obtain⟨a,b⟩:=key xs f e1;exact⟨by simp only[PyData.depth];lia,by simp only[PyData.hasDict,b]⟩
   .cases e
section
variable{X:Cx}{N W G:WM}{k:Nat}
end
def wG{p:Str->Prop}{a:Str}{l:WM}(h:p a)(t:∀x∈l,p x):∀x∈a::l,p x:=λx f=>by
 rcases lb.mp f with rfl|z
 .exact h
 .exact t x z
section
variable{X:Cx}{N W G:WM}{k:Nat}
end
def Ks(CU:X.env.scope=sc)(l:scope.kind=.function)(B:∀y∈scope.names,y.2=.cell->scope.names.lookup y.1=J .cell)(C:∀y∈scope.names,y.2=.local->scope.names.lookup y.1=J .local)(E:∀x∈a,scope.names.lookup x=J .local\/scope.names.lookup x=J .cell)(j:∀x∈frees,scope.names.lookup x=J .free)(u:∀y∈scope.names,y.2=.free->y.1∈frees)(z:fm.map (λi=>N[i]?)=frees.map J)(f:∀x∈frees,sc.names.lookup x=J .cell):zk X N scope a frees fm :=
 ⟨l,B,C,E,j,u,z,λx r=>by rw[<-CU]at f;exact f x r⟩
section
variable{Z:ly}{h:MH}
@[simp]theorem vg{nv:Nat}{fm:WQ}{mi:Mx MIt}{gt:Mg}{mt:Mx Bool}{me:Mx PV}:fH nv fm mi gt mt me Z h =
 (mi Z h).bind λit h1=>(A_ it h1.length gt mt me it.xs (EK nv fm Z) (h1++[.lst []])).bind λ_ h3=>.ok (.loc h1.length) h3:=rfl
def Gh{a:MIt}{n:Nat}{f:Mg}{mt:Mx Bool}{i:Mx PV}(e:a.ok h):A_ a n f mt i [] Z h=.ok () h:=by rw[A_,c_ e]
def Gi{j:MIt}{n:Nat}{f:Mg}{mt:Mx Bool}{l:Mx PV}{x v:PV}{r ys:WL}{a:ly}{y u i:MH}(e:j.ok h)(E:f x Z h=.nx a y)(C:mt a y=.ok I u)(B:l a u=.ok v i)(z:i[n]?=J (.lst ys))(F:ys.length<1000):
  A_ j n f mt l (x::r) Z h=A_ j n f mt l r a (i.set n (.lst (ys++[v]))):=by
 rw[A_,c_ e,E];simp only[C,Out.ne_ok,Out.bind_ok,if_true,B,z];rw[c_ (oy F (by decide))]
def zW:(h++g)[h.length+k]?=g[k]?:=by rw[Eb ⋯];congr 1;lia
def qW{o:MO}{g:MH}:(h++o::g)[h.length]?=J o:=by simp
def IB{g:MH}{n:Nat}{o:MO}(e:h[n]?=J o):(h++g)[n]?=J o:=by rw[q7 (kx.mp e).1];exact e
def Gj:(h++g).set (h.length+k) o=h++g.set k o:=by rw[UM _ _ ⋯];congr 2;lia
end
def Ed(f:Nat->WL->MH->WZ)(m:Mx PV)(l:Mx (WL)):Mx PV:=λZ h=>(m Z h).bind λo a=>match o with
 |.loc n=>(match a[n]? with
  |some (.lst _)=>(l Z a).bind λj i=>(f n j i).ne
  |_=>.bad)
 |_=>.bad
def dE(n:Nat)(a:WL)(h:MH):WZ:=match a,h[n]? with
 |[v],J (.lst xs)=>if xs.length<sizeLine then .ok .non (h.set n (.lst (xs++[v])))else .bad
 |_,_=>.bad
def kU(n:Nat)(a:WL)(h:MH):WZ:=match a with
 |[.loc m]=>(match h[n]?,h[m]? with
  |some (.lst xs),J (.lst ys)=>if xs.length+ys.length<=sizeLine then .ok .non (h.set n (.lst (xs++ys)))else .bad
  |_,_=>.bad)
 |[.tup ys]=>(match h[n]? with
  |some (.lst xs)=>if xs.length+ys.length<=sizeLine then .ok .non (h.set n (.lst (xs++ys)))else .bad
  |_=>.bad)
 |_=>.bad
section
variable{X:Cx}{N W G:WM}{k:Nat}
def Gk(X:Cx)(f:Nat->WL->MH->WZ):V->List V->Hp->VK->Prop:=λx j H Q=>∃U h n a i,x=.ref a/\U[n]?=J a/\RH X.K X.mg U H h/\RPs X.K U H i j/\kK X (RV' X) U H (f n i h) Q
def ni:FV X "list.append" (Gk X dE):=by
 intro O s Z H x R v C Q f B y ⟨U,h,n,a,S,e,l,u,rp,q⟩;subst e;obtain⟨o,F,z⟩:=u.obj l;unfold dE at q
 cases rp with
 |nil=>exact q.elim
 |cons P M =>
  cases M with
  |cons _ _=>exact q.elim
  |nil =>
   rw[F]at q
   cases o with
   |lst xs =>
    dsimp only at q;by_cases j:xs.length<sizeLine
    .rw[c_ j]at q;obtain⟨ys,E,r⟩:=z;obtain⟨i,L⟩:=u.put l (o:=.lst (xs++[_])) ⟨_,rfl,r.append (.cons P .nil)⟩;exact tK O s Z H _ _ v C Q f B y ⟨a,ys,_,rfl,rfl,E,by rw[<-r.length];exact j,q U _ .non L i .non⟩
    .rw[f_ j]at q;exact q.elim
   |_=>exact q.elim
def ug(l b:Addr)(f:Array Value)(n:Nat)(a:Array Value)(r:¬(!f.isEmpty&&Builtin.List.listTooLong (f.size+a.size))=I)(u:f.size<=sizeLine)(i:f.size+a.size<=sizeLine+1):
  Meets (Builtin.«list.extend» ⟨[.ref l,.ref b],[]⟩) (λ_ R s=>s.heap.get? l=J { cls:=.type "list",data:=.seq f n}/\IsTup s.heap b a/\R (.ok (.ret Value.none)) { s with heap:=s.heap.update l (Obj.mapSeq λx=>x++a),toks:=s.toks}):=by
 intro prog w A R s ⟨z,⟨o,y,B,E,hd⟩,h⟩;have j:(f++a).size<=sizeLine+1:=by rw[Nr];exact i
 show wpAny _ A.in1 (Builtin.List.listExtendWith (.ref l) (.ref b) .none) _ _ s;refine e_ (wpAny_typeOf ⟨o,y,B⟩ ?_);have C:(Builtin.List.listSameRef (.ref l) (.ref b)||Value.type "tuple" == Value.type "list" || Value.type "tuple" == Value.type "tuple")=I:=by simp
 simp only[C];refine e_ ?_;refine e_ (wpAny_seqItems y hd (i5 ?_));refine e_ ?_;refine e_ (wpAny_seqItems z rfl (i5 ?_));simp only[r];refine e_ (wpAny_updateSeq z rfl ?_ (hz:=u) (_hz':=j));exact i5 h
def BD:FV X "list.extend" (Gk X kU):=by
 intro Oa s Z H x vs v us Q j rx rv ⟨U,h,n,a,ps,e,en,P,rp,q⟩;subst e;obtain⟨o,eo,ro⟩:=P.obj en;unfold kU at q
 cases rp with
 |nil=>exact q.elim
 |cons r1 t1 =>
  cases t1 with
  |cons _ _=>cases r1<;>exact q.elim
  |nil =>
   cases r1 with
   |@loc m b em =>
    obtain⟨o2,S,al⟩:=P.obj em;dsimp only at q;rw[eo,S]at q
    cases o with
    |lst xs =>
     cases o2 with
     |lst L =>
      dsimp only at q;by_cases B:xs.length+L.length<=sizeLine
      .rw[c_ B]at q;obtain⟨ys,O,M⟩:=ro;obtain⟨C,ew,E⟩:=al;obtain⟨y,l'⟩:=P.put en (o:=.lst (xs++L)) (ho:=.lst (ys++C)) ⟨_,rfl,M.append E⟩;exact AR Oa s Z H _ _ v us Q j rx rv ⟨a,b,ys,C,rfl,rfl,O,ew,by rw[<-M.length,<-E.length];exact B,q U _ .non l' y .non⟩
      .rw[f_ B]at q;exact q.elim
     |_=>exact q.elim
    |_=>exact q.elim
   |@tup L a2 C sq rr =>
    rw[eo]at q
    cases o with
    |lst xs =>
     dsimp only at q;by_cases B:xs.length+L.length<=sizeLine
     .rw[c_ B]at q;obtain⟨ys,O,M⟩:=ro;obtain⟨y,l'⟩:=P.put en (o:=.lst (xs++L)) (ho:=.lst (ys++C)) ⟨_,rfl,M.append rr⟩;cases rx;obtain⟨u,rfl,ru⟩:=rv.one;cases ru;obtain⟨z,i,n,r,as,e⟩:=j.lstM O;obtain⟨f,r2,pl,ax⟩:=j.tuple sq;have an:ys.length+C.length<=sizeLine:=by rw[<-M.length,<-rr.length];exact B
      have ap:=r2.length;have R:i.toArray.size+f.toArray.size<=sizeLine:=by rw[oh,oh];lia
      have l:¬(!i.toArray.isEmpty&&Builtin.List.listTooLong (i.toArray.size+f.toArray.size))=I:=by rw[pE R,R7];exact Np
      refine call_meets F.slot_list_extend ⟨_,e,rfl⟩ F.entry_list_extend (F.args_list_extend_2 _ _) (ug a _ i.toArray n f.toArray l (by rw[oh];lia) ⋯) ⟨e,pl,?_⟩;refine⟨.non,_,j.lset (its':=i++f) O e (by simp) (r.append r2) ?_,rfl,q U _ .non l' y .non⟩;rw[Em];lia
     .rw[f_ B]at q;exact q.elim
    |_=>exact q.elim
   |_=>exact q.elim
variable{o e:Expr}{es:WX}{name:Str}{apos cpos:Pos}{id:String}{f:Nat->WL->MH->WZ}{m:Mx PV}{ma:Mx (WL)}
def OB{C:TA}(z:∀Z H Q,tM X (RVs' X) ma Z H Q->C Z H Q){Z:L2.St}{H:Hp}{Q:VK}(O:tM X (RV' X) (Ed f m ma) Z H Q):tM X (RV' X) m Z H (λx r=>SG X.K "list" x r/\C Z r λxs E=>Gk X f x xs E Q):=by
 obtain⟨U,l,h,F,rh,q⟩:=O;refine⟨U,l,h,F,rh,?_⟩;refine Ful.bind q λL r x x' h1 _ l1 j S i=>?_
 cases S with
 |@loc n a B =>
  obtain⟨ob,eo,R⟩:=j.obj B;dsimp only at i;rw[eo]at i
  cases ob with
  |lst xs =>
   obtain⟨ys,ey,ry⟩:=R;refine⟨.inl ⟨rfl,ys,SqL.of ey⟩,z Z r _ ⟨L,l,h1,F.le l1,j,?_⟩⟩;exact Ful.bind i λU2 E vs P M _ l2 u y q2=>⟨U2,M,n,a,vs,rfl,l2.get B,u,y,q2.zero⟩
  |_=>exact i.elim
 |_=>exact i.elim
def y9(slot:Slot "list" name id)(r:typeOf (.builtin id)=pure (.type "method_descriptor"))(B:FV X id (Gk X f))(u:ME X o m)(y:MA X (e::es) ma)(j:attributeBase o name X.env (eval o X.env)=eval o X.env:=by rfl)(l:((backTo cpos (starEach (e::es) X.env)).all (λx=>!x.1)&&(backToKw cpos (keywordEach [] X.env)).all (λx=>x.1.isSome)
   && decide ((e::es).length+([]:List Keyword).length+(if([]:List Keyword).isEmpty then 0 else 1)<30))=I:=by rfl)(i:(apos.endLine==cpos.line)=I:=by rfl)(C:starEach (e::es) X.env=(T,eval e X.env)::starEach es X.env:=by rfl)(a:(backTo cpos (starEach es X.env)).any (·.1)=T:=by rfl):
  ME X (.Call (.Attribute o name apos) (e::es) [] cpos) (Ed f m ma) :=
 PE.imp (N4 PySem.F.plainAttrs_list slot r B u y j l i C a) λZ H Q q=>OB (λ_ _ _ z=>z) q
@[simp]theorem S8:Ed f m ma Z h=(m Z h).bind λo h1=>match o with
 |.loc n=>(match h1[n]? with
  |some (.lst _)=>(ma Z h1).bind λvs h2=>(f n vs h2).ne
  |_=>.bad)
 |_=>.bad:=rfl
end
def bX(h:MH):PV->Option (WL)
 |.tup xs=>J xs
 |.frl xs=>J xs
 |.loc n=>(match h[n]? with
  |some (.lst xs)=>J xs
  |_=>Y)
 |_=>Y
section
variable{X:Cx}{N W G:WM}{k:Nat}
def jz(B:RH X.K X.mg U H h)(i:RP X.K U H x x')(e:bX h x=J xs):∃a ys,x'=.ref a/\(SqL X.K H a ys\/SqT X.K H a ys)/\RPs X.K U H xs ys:=by
 cases i with
 |tup s r=>cases e;exact⟨_,_,rfl,.inr s,r⟩
 |frl s r=>cases e;exact⟨_,_,rfl,.inl s.sq,r⟩
 |@loc n a j =>
  obtain⟨o,u,f⟩:=B.obj j;simp only[bX,u]at e
  cases o with
  |lst ys =>
   cases e;obtain⟨z,l,y⟩:=f;exact⟨a,z,rfl,.inl (SqL.of l),y⟩
  |_=>cases e
 |_=>cases e
def qX(f g:PV->PV->MH->WZ)(a b c:Mx PV):Mx PV:=λZ h=>(a Z h).bind λx j=>(b Z j).bind λy l=>(f x y l).ne.bind λz i=>match z with
 |.bl t=>if t=I then(c Z i).bind λw r=>(g y w r).ne else .ok (.bl T) i
 |_=>.bad
variable{a b c:Expr}{ma mb mc:Mx PV}{f g':PV->PV->MH->WZ}{op op':CmpOp}{pos:Pos}
def DD{Z:L2.St}{H:Hp}{Q:VK}(q:tM X (RV' X) (qX f g' ma mb mc) Z H Q):AO (rJ X f) (rJ X g') (tM X (RV' X) ma) (tM X (RV' X) mb) (tM X (RV' X) mc) Z H Q:=by
 obtain⟨U,i,h,F,rh,q⟩:=q;refine⟨U,i,h,F,rh,Ful.bind q λU1 H1 x x' h1 _ S C rx q1=>?_⟩;refine⟨U1,i,h1,F.le S,C,Ful.bind q1 λO H2 y y' M _ l2 r ry q2=>?_⟩;refine⟨O,M,x,y,r,rx.le l2,ry,?_⟩;have key:Ful X (RV' X) i O H2 (f x y M).ne (λz l=>∃k,z=.bl k/\(if k=I then tM X (RV' X) mc Z l λR P=>rJ X g' y' R P Q else Q (.bl T) l)):=Ful.bind q2 λL l z z' h3 _ l3 j rz B=>by
  cases rz with
  |bl t =>
   refine⟨t,rfl,?_⟩
   cases t with
   |true =>
    exact⟨L,i,h3,F.le (S.trans (l2.trans l3)),j,Ful.bind B λU4 P w R h4 _ l4 E u q4=>⟨U4,h4,y,w,E,(ry.le l3).le l4,u,q4.zero⟩⟩
   |false =>
    exact B L l _ (Le.refl _ _) j (.bl _)
  |_=>exact B.elim
 exact key.zero
def C5(j:xy X (compareOp op) f)(i:xy X (compareOp op') g')(u:ME X a ma)(y:ME X b mb)(l:ME X c mc)(r:lastMarks [op,op'] [b,c]=T:=by with_unfolding_all rfl):ME X (.Compare a [op,op'] [b,c] pos) (qX f g' ma mb mc) :=
 PE.imp (Dk j i u y l r) λ_ _ _ q=>DD q
@[simp]theorem M2:qX f g' ma mb mc Z h=(ma Z h).bind λx h1=>(mb Z h1).bind λy h2=>(f x y h2).ne.bind λz h3=>match z with
 |.bl t=>if t=I then(mc Z h3).bind λw h4=>(g' y w h4).ne else .ok (.bl T) h3
 |_=>.bad:=rfl
def Gm(i:Bool)(x y:PV)(h:MH):WZ:=match bX h y with
 |some ys=>(match rd 60 h x,de (rd 60 h) ys with
  |some d,J j=>if d.canLay0=I/\PyData.canLayAll0 j=I then .ok (.bl (if i then !j.any (λe=>PyData.eqv e d)else j.any (λe=>PyData.eqv e d))) h else .bad
  |_,_=>.bad)
 |none=>.bad
def qB:∀{i:List PyData},PyData.canLayAll0 i=I->∀d∈i,d.canLay0=I
 |e::i,h,d,hd=>by
  simp only[PyData.canLayAll0,MP]at h;rcases lb.mp hd with rfl|hd
  .exact h.1
  .exact qB h.2 d hd
def tN(hf:∀u d i,Reads hp u d i->fq u=PyData.eqv d dx):∀{j:WT}{l:List PyData}{i:WS},ReadsAll hp j l i->j.any fq=l.any λe=>PyData.eqv e dx
 |_,_,_,.nil=>rfl
 |_,_,_,.cons r t=>by rw[QP,QP,hf _ _ _ r,tN hf t]
def tU:∀{j:WT}{l:List PyData}{y:WS},ReadsAll hp j l y->∀u∈j,∃d i,d∈l/\Reads hp u d i
 |_,_,_,.nil,u,h=>nomatch h
 |_,_,_,.cons r t,u,h=>by
  rcases lb.mp h with rfl|h
  .exact⟨_,_,xg,r⟩
  .obtain⟨d,i,hd,z⟩:=tU t u h;exact⟨d,i,mw _ hd,z⟩
def fq(l:Heap)(j:PyData)(u:Value):Bool:=if z:∃d i,Reads l u d i then PyData.eqv z.choose j else T
def IC(r:Reads hp u d i):fq hp dx u=PyData.eqv d dx:=by have z:∃d i,Reads hp u d i:=⟨d,i,r⟩;delta fq;rw[dif_pos z];obtain⟨l,j⟩:=z.choose_spec;rw[<-(Reads.unique r _ _ j).1]
def ID(hr:Room k X.A)(O:Bool):xy X (compareOp (if O then .NotIn else .In)) (Gm O):=by
 intro Oa s Z H x' y' u v Q j ap an ⟨U,h,x,y,P,rx,ry,q⟩;unfold Gm at q
 cases es:bX h y with
 |none=>rw[es]at q;exact q.elim
 |some ys =>
  rw[es]at q;dsimp only at q;obtain⟨a,zs,rfl,S,al⟩:=jz P ry es
  cases ex:rd 60 h x with
  |none=>rw[ex]at q;exact q.elim
  |some l =>
   rw[ex]at q
   cases ed:de (rd 60 h) ys with
   |none=>rw[ed]at q;exact q.elim
   |some ds =>
    rw[ed]at q;dsimp only at q;by_cases hl:l.canLay0=I/\PyData.canLayAll0 ds=I
    .rw[c_ hl]at q;cases an;obtain⟨_,rX⟩:=g9 j P 60 x x' u l rx ap ex;have ax:=(vR 60 x l ex).1;have C:∀(i:WT),aD zs i->(∀w∈i,SeqAt.EqAt X.A.in1 s w u (fq s.heap l w))/\i.any (fq s.heap l)=ds.any λe=>PyData.eqv e l:=λi z=>by
      obtain⟨as,RA⟩:=iz (λv v' u d r1 r2 e=>g9 j P 60 v v' u d r1 r2 e) al z ed;refine⟨λw B=>?_,tN (λu d as r=>IC r) RA⟩;obtain⟨d,ay,hd,R⟩:=tU RA w B;rw[IC R];refine SeqAt.eqAt_reads d l X.A.in1 s w u _ _ R rX (qB hl.2 d hd) hl.1 ?_
      have:=hr.un
      lia
     cases O with
     |false =>
      rcases S with M|M
      .obtain⟨i,z,F,hz⟩:=j.list M;obtain⟨L,E⟩:=C i z;refine SeqAt.in_listAt (fq s.heap l) F.isList (λw B=>L w (by simpa using B)) ⟨.bl _,H,j,rfl,?_⟩;rw[show i.toArray.any (fq s.heap l)=i.any (fq s.heap l) by simp,E];exact q U H _ (Le.refl _ _) P (.bl _)
      .obtain⟨i,z,F,hz⟩:=j.tuple M;obtain⟨L,E⟩:=C i z;refine SeqAt.in_tupleAt (fq s.heap l) F (λw B=>L w (by simpa using B)) ⟨.bl _,H,j,rfl,?_⟩;rw[show i.toArray.any (fq s.heap l)=i.any (fq s.heap l) by simp,E];exact q U H _ (Le.refl _ _) P (.bl _)
     |true =>
      rcases S with M|M
      .obtain⟨i,z,F,hz⟩:=j.list M;obtain⟨L,E⟩:=C i z;refine SeqAt.notIn_listAt (fq s.heap l) F.isList (λw B=>L w (by simpa using B)) ⟨.bl _,H,j,rfl,?_⟩;rw[show i.toArray.any (fq s.heap l)=i.any (fq s.heap l) by simp,E];exact q U H _ (Le.refl _ _) P (.bl _)
      .obtain⟨i,z,F,hz⟩:=j.tuple M;obtain⟨L,E⟩:=C i z;refine SeqAt.notIn_tupleAt (fq s.heap l) F (λw B=>L w (by simpa using B)) ⟨.bl _,H,j,rfl,?_⟩;rw[show i.toArray.any (fq s.heap l)=i.any (fq s.heap l) by simp,E];exact q U H _ (Le.refl _ _) P (.bl _)
    .rw[f_ hl]at q;exact q.elim
def Es(xs:WL)(h:MH):WZ:=match xs with
 |[x]=>(match bX h x with
  |some ys=>pq ys h
  |none=>.bad)
 |_=>.bad
def CT(xs:WL)(h:MH):WZ:=match xs with
 |[x]=>(match bX h x with
  |some ys=>.ok (.tup ys) h
  |none=>.bad)
 |_=>.bad
def Gn:dv X (.type "list") Es:=by
 intro L s Z H xs B Q i r ⟨U,h,O,z,rp,q⟩
 cases rp with
 |nil=>exact q.elim
 |cons M C =>
  cases C with
  |cons _ _=>exact q.elim
  |nil =>
   rename_i x y
   unfold Es at q
   cases u:bX h x with
   |none=>simp only[u]at q;exact q.elim
   |some ys =>
    simp only[u]at q;obtain⟨a,E,rfl,l,j⟩:=jz z M u;obtain⟨_,F⟩:=oq z j q;exact vc L s Z H _ B Q i r ⟨a,E,rfl,l,F⟩
def DQ:dv X (.type "tuple") CT:=by
 intro M s Z H xs F Q i r ⟨U,h,ps,E,rp,q⟩
 cases rp with
 |nil=>exact q.elim
 |cons R P =>
  cases P with
  |cons _ _=>exact q.elim
  |nil =>
   rename_i x y
   unfold CT at q
   cases C:bX h x with
   |none=>simp only[C]at q;exact q.elim
   |some ys =>
    simp only[C]at q;obtain⟨a,B,rfl,z,j⟩:=jz E R C;rcases z with u|u
    .refine mM M s Z H _ F Q i r ⟨a,B,rfl,.inl ⟨u,λl S=>?_⟩⟩;obtain⟨O,L⟩:=E.tup S B;exact q U _ _ L O (.tup (SqT.of cg) (j.le L))
    .exact mM M s Z H _ F Q i r ⟨a,B,rfl,.inr ⟨u,q U H _ (Le.refl _ _) E (.tup u j)⟩⟩
def ic(xs:WL)(lo i:WW):WL:=(xs.drop (HT.k0 xs.length 0 lo)).take (HT.k0 xs.length xs.length i-HT.k0 xs.length 0 lo)
def Kt(x:PV)(lo i:WW)(h:MH):WZ:=match x with
 |.tup xs=>if HT.k0 xs.length 0 lo=0/\HT.k0 xs.length xs.length i=xs.length then .bad else .ok (.tup (ic xs lo i)) h
 |.frl xs=>.ok (.loc h.length) (h++[.lst (ic xs lo i)])
 |.loc n=>(match h[n]? with
  |some (.lst xs)=>.ok (.loc h.length) (h++[.lst (ic xs lo i)])
  |_=>.bad)
 |_=>.bad
def VW(X:Cx)(f:PV->WW->WW->MH->WZ):V->WW->WW->Hp->VK->Prop:=λj lo i H Q=>∃U h x,RH X.K X.mg U H h/\RP X.K U H x j/\kK X (RV' X) U H (f x lo i h) Q
def sH{K:h_}{U:WS}{H:Hp}{xs:WL}{ys:List V}(r:RPs K U H xs ys)(lo i:WW):RPs K U H (ic xs lo i) (pB ys lo i):=by delta ic pB;rw[r.length];exact(r.drop _).take _
def OC:QV X (VW X Kt):=by
 intro R s Z H x' v O L lo i sl Q j E S C M ⟨U,h,x,r,P,q⟩
 cases P with
 |tup F B =>
  unfold Kt at q;dsimp only at q
  rename_i xs a ys
  by_cases z:HT.k0 xs.length 0 lo=0/\HT.k0 xs.length xs.length i=xs.length
  .rw[c_ z]at q;exact q.elim
  .rw[f_ z]at q;refine JV R s Z H _ v O L lo i sl Q j E S C M ⟨a,ys,rfl,F,by rw[<-B.length];exact z,λp y=>?_⟩;obtain⟨u,l⟩:=r.tup y (pB ys lo i);exact q U _ _ l u (.tup (SqT.of cg) ((sH B lo i).le l))
 |frl F B =>
  rename_i xs a ys
  refine xP R s Z H _ v O L lo i sl Q j E S C M ⟨a,ys,rfl,F.sq,λp y=>?_⟩;obtain⟨u,l⟩:=r.new y (o:=.lst (ic xs lo i)) ⟨_,rfl,sH B lo i⟩;exact q _ _ _ l u (.loc (by rw[<-r.len];simp))
 |@loc n a en =>
  obtain⟨o,eo,ro⟩:=r.obj en;unfold Kt at q;dsimp only at q;rw[eo]at q
  cases o with
  |lst xs =>
   obtain⟨ys,ey,ry⟩:=ro;refine xP R s Z H _ v O L lo i sl Q j E S C M ⟨a,ys,rfl,SqL.of ey,λp y=>?_⟩;obtain⟨u,l⟩:=r.new y (o:=.lst (ic xs lo i)) ⟨_,rfl,sH ry lo i⟩;exact q _ _ _ l u (.loc (by rw[<-r.len];simp))
  |_=>exact q.elim
 |_=>exact q.elim
def MO'(X:Cx)(e:Option Expr)(m:Mx (WW)):Prop:=PO X e (tM X N6 m)
def UZ:Mx (WW):=λ_ h=>.ok Y h
def U3(m:Mx PV):Mx (WW):=λZ h=>(m Z h).bind λv j=>match v with
 |.int i=>.ok (J i) j
 |_=>.bad
def Go:MO' X Y UZ:=λj s Z H Q i ⟨U,l,h,u,r,q⟩=>FS j s Z H Q i (q U H Y (Le.refl _ _) r rfl)
def Gp(h:ME X e m):MO' X (J e) (U3 m):=λF s Z H Q j ⟨U,r,B,E,L,q⟩=>FT h F s Z H Q j ⟨U,r,B,E,L,Ful.bind q λz C v O M _ P l y u=>by
 cases y with
 |int i=>exact⟨i,rfl,u z C (J i) (Le.refl _ _) l rfl⟩
 |_=>exact u.elim⟩
def U_(m:Mx PV)(y l:Mx (WW)):Mx PV:=λZ h=>(m Z h).bind λx i=>(y Z i).bind λlo j=>(l Z j).bind λr u=>(Kt x lo r u).ne
def OD{e:Expr}{lo u:Option Expr}{m:Mx PV}{E z:Mx (WW)}{R:Pos}(he:ME X e m)(hl:MO' X lo E)(hu:MO' X u z):ME X (.Subscript e (.Slice lo u Y R) pos) (U_ m E z) :=
 PE.imp (Ci OC he hl hu) λZ H Q ⟨U,i,h,y,rh,q⟩=>⟨U,i,h,y,rh,Ful.bind q λM H1 x x' h1 _ B r rx P=>⟨M,i,h1,y.le B,r,Ful.bind P λU2 H2 lo F S _ C j O q2=>by
  subst O
  exact⟨U2,i,S,y.le (B.trans C),j,Ful.bind q2 λL H3 u al h3 _ l3 l eh q3=>by
   subst eh
   exact⟨L,h3,x,l,(rx.le C).le l3,q3.zero⟩⟩⟩⟩
end
section
variable{X:Cx}{N W G:WM}{k:Nat}
def o8{A:Around}{E:WA}{L:WU}{Z:L2.St}{H:Hp}{s:Shared}{a:Addr}{ys:List V}{Q:WA}(C:A.handled=Y)(r:Inv X L Z H s)(y:SqL X.K H a ys\/SqT X.K H a ys)(h:∀(f:WT)(z:Heap)(It:Addr)(St:Nat->Heap->Prop),aD ys f->Walks X.prog X.w A It [It,a] [It] f.toArray.size (λi v=>f.toArray[i]?=J v) St->St 0 z->(∀b∈[It,a],b<z.objs.size)->(∀b o,s.heap.get? b=J o->z.get? b=J o)->s.heap.objs.size=It->Q (.ref It) { s with heap:=z}):
  wpAny (model X.prog X.w) A (pyIter (.ref a)) Q E s:=by
 have sz:∀(o:Obj),a<s.heap.objs.size->∀b∈[s.heap.objs.size,a],b<(s.heap.push o).objs.size:=λo j b u=>by
  rw[Ep];rcases lb.mp u with rfl|u
  .exact MQ _
  .rcases lb.mp u with rfl|u
   .exact ML j
   .cases u
 rcases y with y|y
 .obtain⟨f,B,F,_⟩:=r.list y;have l:=F.isList;have j:a<s.heap.objs.size:=by obtain⟨_,e,_⟩:=l;exact l_ e
  exact wpAny_pyIter_list l (h f _ _ _ B (Walks.list C _ a (tt j) f.toArray) ⟨⟨_,rb _ rfl,rfl,rfl⟩,l.push _⟩ (sz _ j) (λb o e=>k_ _ e) rfl)
 .obtain⟨f,B,l,_⟩:=r.tuple y;have j:a<s.heap.objs.size:=by obtain⟨_,e,_⟩:=l;exact l_ e
  exact wpAny_pyIter_tuple l (h f _ _ _ B (Walks.tuple C _ a (tt j) f.toArray) ⟨⟨_,rb _ rfl,rfl,rfl⟩,l.push _⟩ (sz _ j) (λb o e=>k_ _ e) rfl)
def ze{s:Shared}{f a:Heap}{It:Addr}(l:∀b o,s.heap.get? b=J o->f.get? b=J o)(e:s.heap.objs.size=It)(j:∀b o,b∉[It]->f.get? b=J o->a.get? b=J o):∀b o,s.heap.get? b=J o->a.get? b=J o:=λb o q=>by
 refine j b o (λi=>?_) (l b o q)
 have:b=It:=by simpa using i
 exact absurd (l_ q) (by rw[this,e];exact Ef _)
def o9:WL->Option (List Bool)
 |[]=>J []
 |.bl b::r=>(o9 r).map (b::·)
 |_=>Y
def iC:WL->Option (WN)
 |[]=>J []
 |.int i::r=>(iC r).map (i::·)
 |_=>Y
def Gq{K:h_}{U:WS}{H:Hp}:∀{xs:WL}{ys:List V}{bs:List Bool}{a:WT},RPs K U H xs ys->aD ys a->o9 xs=J bs->a=bs.map Value.bool:=by
 intro xs
 induction xs with
 |nil=>intro ys bs a r v e;cases r;cases v;cases e;rfl
 |cons x xs j =>
  intro ys bs a r v e
  cases r with
  |cons z i =>
   cases v with
   |cons l y =>
    cases z with
    |bl b =>
     simp only[o9,tr]at e;obtain⟨u,f,rfl⟩:=e;rw[j i y f,show _=Value.bool b from l];rfl
    |_=>cases e
def ve{K:h_}{U:WS}{H:Hp}:∀{xs:WL}{ys:List V}{f:WN}{j:WT},RPs K U H xs ys->aD ys j->iC xs=J f->j.length=f.length/\∀(i:Nat)(u:Value),j[i]?=J u->∃t,u=.int (f.getD i 0) t:=by
 intro xs
 induction xs with
 |nil=>intro ys f j r v e;cases r;cases v;cases e;exact⟨rfl,λi u h=>by simp at h⟩
 |cons x xs z =>
  intro ys f j r v e
  cases r with
  |cons L y =>
   cases v with
   |cons B F =>
    cases L with
    |int b =>
     simp only[iC,tr]at e;obtain⟨M,l,rfl⟩:=e;obtain⟨a,C⟩:=z y F l;obtain⟨E,rfl⟩:=B;refine⟨by simp[a],λi u h=>?_⟩
     cases i with
     |zero=>simp at h;exact⟨E,by rw[<-h];rfl⟩
     |succ i=>obtain⟨t,e⟩:=C i u (by simpa using h);exact⟨t,by rw[e];simp⟩
    |_=>cases e
def wR(bs:List Bool):TruthOf X.prog X.w A (λi v=>(bs.map Value.bool).toArray[i]?=J v) (λi=>bs.getD i T):=λi v s Q E a f=>by
 have:v=.bool (bs.getD i T):=by
  have a:(List.map Value.bool bs).toArray[i]?=J v:=a;rw[MC,oe,tr]at a;obtain⟨b,e,rfl⟩:=a
  simp_all
 subst this;exact wpAny_truthy_bool f
def Bk(bs:List Bool):(List.range bs.length).all (λi=>bs.getD i T)=bs.all id:=by
 induction bs with
 |nil=>rfl
 |cons b r a =>
  rw[pk,RK,List.all_cons,List.all_map,List.all_cons,<-a];rfl
def Gr(xs:WL)(h:MH):WZ:=match xs with
 |[x]=>(match (bX h x).bind o9 with
  |some bs=>.ok (.bl (bs.all id)) h
  |none=>.bad)
 |_=>.bad
def Ku(g:Good X N W G k):dv X (.builtin "all") Gr:=by
 intro Oa s Z H xs us Q f r ⟨U,h,ps,C,rp,q⟩
 cases rp with
 |nil=>exact q.elim
 |cons R P =>
  cases P with
  |cons _ _=>exact q.elim
  |nil =>
   rename_i x y
   unfold Gr at q
   cases z:(bX h x).bind o9 with
   |none=>simp only[z]at q;exact q.elim
   |some bs =>
    simp only[z]at q;obtain⟨ys,e1,e2⟩:=ED.mp z;obtain⟨a,zs,rfl,u,j⟩:=jz C R e1
    cases r with
    |cons O M =>
     cases M;cases O;refine call_all_walk (o8 g.room.hd f u λi S It St E F st fp kp l=>?_);have B:=Gq j E e2;refine⟨It,_,_,_,_,St,_,rfl,F,st,by rw[B];exact wR bs,λh' tk kk=>?_⟩;have L:i.toArray.size=bs.length:=by rw[B];simp
     rw[L,Bk];exact⟨.bl _,H,f.kept (ze kp l kk),rfl,q U H _ (Le.refl _ _) C (.bl _)⟩
def oi(b:Nat->Nat->Bool)(a:WN):Int:=a.getD (argBest b (a.length-1)) 0
def Et(xs:WL)(h:MH):WZ:=match xs with
 |[x]=>(match (bX h x).bind iC with
  |some a=>if 0<a.length then .ok (.int (oi (λi j=>decide (a.getD i 0>a.getD j 0)) a)) h else .bad
  |none=>.bad)
 |[.int i,.int j]=>.ok (.int (if j>i then j else i)) h
 |_=>.bad
def Eu(xs:WL)(h:MH):WZ:=match xs with
 |[x]=>(match (bX h x).bind iC with
  |some a=>if 0<a.length then .ok (.int (oi (λi j=>decide (a.getD i 0<a.getD j 0)) a)) h else .bad
  |none=>.bad)
 |[.int i,.int j]=>.ok (.int (if j<i then j else i)) h
 |_=>.bad
def Gs(g:Good X N W G k):dv X (.builtin "max") Et:=by
 intro Oa s Z H xs us Q f r ⟨U,h,ps,O,rp,q⟩;unfold Et at q
 split at q
 .rename_i x
  cases rp with
  |cons M F =>
  cases F
  cases L:(bX h x).bind iC with
  |none=>simp only[L]at q;exact q.elim
  |some u =>
   simp only[L]at q;by_cases E:0<u.length
   .rw[c_ E]at q;obtain⟨ys,e1,e2⟩:=ED.mp L;obtain⟨a,zs,rfl,C,z⟩:=jz O M e1
    cases r with
    |cons ru tu =>
     cases tu;cases ru;refine call_max_walk (o8 g.room.hd f C λy h2 It St R S st fp kp B=>?_);obtain⟨el,P⟩:=ve z R e2;have l:y.toArray.size=u.length:=by exact el
     refine⟨It,_,_,_,_,St,_,rfl,S,st,fp,by rw[l];exact E,CmpOf.ints_gt (λi=>u.getD i 0) (λi v hv=>P i v (by simpa using hv)),λv h' tk hP kk=>?_⟩;have j:=hP;rw[l,MC]at j;obtain⟨t,rfl⟩:=P _ v j;exact⟨.int _,H,f.kept (ze kp B kk),⟨t,rfl⟩,q U H _ (Le.refl _ _) O (.int _)⟩
   .rw[f_ E]at q;exact q.elim
 .cases rp with
  |cons M F =>
   cases F with
   |cons r2 t2 =>
    cases t2;cases M;cases r2;exact t7 g.calm Oa s Z H _ us Q f r ⟨_,_,rfl,q U H _ (Le.refl _ _) O (.int _)⟩
 .exact q.elim
def Gu(g:Good X N W G k):dv X (.builtin "min") Eu:=by
 intro Oa s Z H xs us Q f r ⟨U,h,ps,O,rp,q⟩;unfold Eu at q
 split at q
 .rename_i x
  cases rp with
  |cons M F =>
  cases F
  cases L:(bX h x).bind iC with
  |none=>simp only[L]at q;exact q.elim
  |some u =>
   simp only[L]at q;by_cases E:0<u.length
   .rw[c_ E]at q;obtain⟨ys,e1,e2⟩:=ED.mp L;obtain⟨a,zs,rfl,C,z⟩:=jz O M e1
    cases r with
    |cons ru tu =>
     cases tu;cases ru;refine call_min_walk (o8 g.room.hd f C λy h2 It St R S st fp kp B=>?_);obtain⟨el,P⟩:=ve z R e2;have l:y.toArray.size=u.length:=by exact el
     refine⟨It,_,_,_,_,St,_,rfl,S,st,fp,by rw[l];exact E,CmpOf.ints_lt (λi=>u.getD i 0) (λi v hv=>P i v (by simpa using hv)),λv h' tk hP kk=>?_⟩;have j:=hP;rw[l,MC]at j;obtain⟨t,rfl⟩:=P _ v j;exact⟨.int _,H,f.kept (ze kp B kk),⟨t,rfl⟩,q U H _ (Le.refl _ _) O (.int _)⟩
   .rw[f_ E]at q;exact q.elim
 .cases rp with
  |cons M F =>
   cases F with
   |cons r2 t2 =>
    cases t2;cases M;cases r2;exact tX g.calm Oa s Z H _ us Q f r ⟨_,_,rfl,q U H _ (Le.refl _ _) O (.int _)⟩
 .exact q.elim
end
def RH.loose{K:h_}{mg:F0}{U:WS}{H:Hp}{h:MH}(r:RH K mg U H h){p:Addr}(i:H p=Y)(j:HO):RH K mg U (ky H p j) h/\Le U H U (ky H p j):=by
 have f:∀n a,U[n]?=J a->a≠p:=λn a e z=>by
  obtain⟨B,_,q⟩:=r.obj e;rw[z,i]at q;exact q.some rfl
 have l:Le U H U (ky H p j):=⟨⟨[],by simp⟩,λa xs e=>by rw[bh (b7 e i)];exact e,λa y u e=>by rw[bh (b7 e i)];exact e⟩;exact⟨⟨r.len,r.nd,λn a o e1 e2=>by rw[bh (f n a e1)];exact(r.at' n a o e1 e2).le l⟩,l⟩
section
variable{X:Cx}{N W G:WM}{k:Nat}
def nK(xs:WL)(i:Int)(v:PV):WL :=
 let k:=if i<0 then(i+(xs.length:Int)).toNat else min i.toNat xs.length
 xs.take k++v::xs.drop k
def nZ(n:Nat)(a:WL)(h:MH):WZ:=match a with
 |[.int i,v]=>(match h[n]? with
  |some (.lst xs)=>if(-(2^63)<=i/\i<2^63)/\xs.length<sizeLine then .ok .non (h.set n (.lst (nK xs i v)))else .bad
  |_=>.bad)
 |_=>.bad
def Br:FV X "list.insert" (Gk X nZ):=by
 intro Oa s Z H x vs v us Q j rx rv ⟨U,h,n,a,ps,e,en,rh,rp,q⟩;subst e;obtain⟨o,eo,ro⟩:=rh.obj en;unfold nZ at q
 split at q
 .rename_i i C
  cases rp with
  |cons r1 t1 =>
   cases t1 with
   |cons r2 t2 =>
    cases t2;cases r1;rw[eo]at q
    cases o with
    |lst xs =>
     dsimp only at q;by_cases B:(-(2^63)<=i/\i<2^63)/\xs.length<sizeLine
     .rw[c_ B]at q;obtain⟨ys,ey,P⟩:=ro;cases rx
      cases rv with
      |cons M F=>cases F with
       |cons L E =>
        cases E
        rename_i S u1 u2
        obtain⟨t,rfl⟩:=M;obtain⟨z,f,nn,r,y,e⟩:=j.lstM ey
        let kk:=if i<0 then(i+(f.length:Int)).toNat else min i.toNat f.length
        have l:RPs X.K U H (nK xs i C) (ys.take kk++S::ys.drop kk):=by
         have:(if i<0 then(i+(xs.length:Int)).toNat else min i.toNat xs.length)=kk:=by rw[P.length,y]
         delta nK;rw[this];exact(P.take kk).append (.cons r2 (P.drop kk))
        obtain⟨O,l'⟩:=rh.put en (o:=.lst (nK xs i C)) ⟨_,rfl,l⟩;refine call_meets PySem.F.slot_list_insert ⟨_,e,rfl⟩ PySem.F.entry_list_insert (PySem.F.args_list_insert_3 _ _ _) (AutoListH.list_insert_list_int_val_1 a f.toArray nn i t u2 (by rw[fitsIndex_both B.1.1 B.1.2];simp) (by rw[oh];ext)) ⟨e,?_⟩;have u:=(r.take kk).append (.cons L (r.drop kk));have R:(ys.take kk++S::ys.drop kk).length<=sizeLine:=by
         rw[<-l.length];have e1:(nK xs i C).length=xs.length+1:=by delta nK;simp only[Em,pk,HY,Eo];ext
         ext
        refine⟨.non,_,j.lset (its':=f.take kk++u2::f.drop kk) ey e ?_ u R,rfl,q U _ .non l' O .non⟩;simp[kk,List.extract];refine Ft ?_;rw[Eo];exact i4 _
     .rw[f_ B]at q;exact q.elim
    |_=>exact q.elim
 .exact q.elim
def Gw(g:Good X N W G k){a:Expr}{m:Mx PV}{f y:String}{c l:Str}{i j j':Nat}{p q z M pt:Pos}{kt}(hi:G[i]?=J "isinstance")(hm:X.mg "isinstance"=Y)(hj:G[j]?=J c)(hc:X.mg c=Y)(hv:bootBuiltins c=J (.type f))(hT:Fl f)(L:G[j']?=J l)(ay:X.mg l=Y)(a3:bootBuiltins l=J (.type y))(a1:Fl y)(ha:ME X a m)(he:starEach [a,.Tuple [.Name c q,.Name l z] kt pt] X.env=(T,eval a X.env)::starEach [.Tuple [.Name c q,.Name l z] kt pt] X.env:=by rfl)(a0:starEach [.Tuple [.Name c q,.Name l z] kt pt] X.env=[(T,eval (.Tuple [.Name c q,.Name l z] kt pt) X.env)]:=by rfl)(an:(backTo M (starEach [.Tuple [.Name c q,.Name l z] kt pt] X.env)).any (·.1)=T:=by rfl)(a4:starEach [.Name c q,.Name l z] X.env=(T,eval (.Name c q) X.env)::starEach [.Name l z] X.env:=by rfl)(a8:starEach [.Name l z] X.env=[(T,eval (.Name l z) X.env)]:=by rfl):
  ME X (.Call (.Name "isinstance" p) [a,.Tuple [.Name c q,.Name l z] kt pt] [] M) (N7 (nR [f,y]) m):=by
 have d1:=g.dbg _ (n2 _ (aN hi));have d:=g.dbg c (n2 _ (aN hj));have d':=g.dbg l (n2 _ (aN L));have C:cK X (.builtin "isinstance") (λxs H Q=>∃P E,xs=[P,.ref E]/\SqT X.K H E [.ty f,.ty y]/\uJ X (nR [f,y]) P H Q):=by
  intro Oa s Z H xs us Q B r ⟨P,E,e,al,U,h,x,R,rx,q⟩;subst e
  cases r with
  |cons r1 t1=>cases t1 with
   |cons r2 t2 =>
    cases t2;cases r2;obtain⟨as,rv,ht,_⟩:=B.tuple al;have ei:as=[.type f,.type y]:=by
     cases rv with
     |cons v1 w1=>cases w1 with
      |cons v2 w2 =>
       cases w2;rw[show _=Value.type f from v1,show _=Value.type y from v2]
    subst ei;obtain⟨⟨oc,od,be,ba⟩,ho,ax,nn,a5⟩:=ht;subst ax;subst a5;unfold nR at q
    cases S:Iz h x with
    |none=>rw[S]at q;exact q.elim
    |some t =>
     rw[S]at q;obtain⟨F,ap,Hq,Za,hz⟩:=yw B R rx r1 S;have O:PySem.W.kitAny X.K (.type t) [.type f,.type y]=J (c7 t f||c7 t y):=by
      unfold PySem.W.kitAny;rw[hT X.K t F]
      cases c7 t f with
      |true=>rfl
      |false =>
       unfold PySem.W.kitAny;rw[a1 X.K t F];cases c7 t y<;>rfl
     exact PySem.W.kia_tup Za B.kIn hz ho O ap λtk=>⟨.bl _,H,B.tok _,rfl,by
      have z:=q U H _ (Le.refl _ _) R (.bl _)
      simpa using z⟩
 refine PE.imp (jZ C (g.gl _ (aN hi)) hm PyProof.Rows.Boot.«isinstance» (eJ ha (eJ (BY (eJ (sO (v:=.ty f) (u:=.type f) (g.gl c (aN hj)) hc hv rfl d.2.2 d.1) (eJ (sO (v:=.ty y) (u:=.type y) (g.gl l (aN L)) ay a3 rfl d'.2.2 d'.1) jA a8) a4)) jA a0) he) d1.2.2 d1.1 he an) λZ H Q ⟨U,a9,h,rs,R,q⟩=>?_;refine⟨U,a9,h,rs,R,Ful.bind q λU1 H1 x P h1 _ l1 a6 rx q1=>?_⟩;refine⟨by show 2<=sizeLine;decide,λE a7=>?_⟩;obtain⟨a2,l2⟩:=a6.tup a7 [.ty f,.ty y];exact⟨P,E,rfl,SqT.of cg,U1,h1,x,a2,rx.le l2,(Ful.le l2 q1).zero⟩
def OE(i:TA):TE:=λZ H Q=>i Z H λf a=>∃j:Int,f=[.int j] /\ -(2^62)<=j/\j<2^62/\∀p,a p=Y->Q (.ref p) (ky a p (.rng 0 j))
def AZ(B:Gl X "range")(u:X.mg "range"=Y)(C:PA X [a] ta)(L:starEach [a] X.env=[(T,eval a X.env)]:=by rfl):PE X (.Call (.Name "range" p) [a] [] pos) (OE ta):=by
 intro E s Z H R f h;refine Call_ (iO f B u boot_range (PyProof.Rows.callWith_type1 (ki (C pos E s Z H _ f h) λM z ⟨P,O,l,F,i⟩=>?_) L rfl));obtain⟨j,e,i,Q,q⟩:=i;subst e
 cases F with
 |cons r y =>
  cases y;obtain⟨t,rfl⟩:=r;refine call_range_1 ⟨.ref z.heap.objs.size,_,l.laid (λb o e=>k_ _ e) (i4 _) ?_,rfl,q _ (l.hok.fresh (i4 _))⟩;exact⟨_,_,_,rb _ rfl⟩
def qU:∀(n:Nat)(lo:Int)(a:WT),a.length=n->(∀(i:Nat)(v:Value),a[i]?=J v->∃t,v=.int (lo+i) t)->aD ((List.range n).map λi=>V.int (lo+(i:Nat))) a
 |0,lo,a,f,_=>by cases a with|nil=>exact .nil|cons _ _=>simp at f
 |n+1,lo,a,f,h=>by
  cases a with
  |nil=>simp at f
  |cons u a =>
   rw[RK,oI,CA];obtain⟨t,e⟩:=h 0 u rfl;refine .cons ⟨t,e⟩ ?_;have j:=qU n (lo+1) a (by simpa using f) λi v hv=>by
    obtain⟨t,e⟩:=h (i+1) v (by simpa using hv);exact⟨t,by rw[e];congr 1;push_cast;ext⟩
   have e2:((λi=>V.int (lo+((i:Nat):Int)))∘Nat.succ)=λi=>V.int (lo+1+((i:Nat):Int)):=by funext i;simp only[Function.comp];congr 1;push_cast;ext
   rw[e2];exact j
def uf(L:X.calm=I):cK X (.type "list") (λxs H Q=>∃r j,xs=[.ref r]/\H r=J (.rng 0 j) /\ -(2^62)<=j/\j<2^62/\j.toNat<=sizeLine/\∀l,H l=Y->Q (.ref l) (ky H l (.lst ((List.range j.toNat).map λi=>V.int (0+(i:Nat)))))):=by
 intro Oa s Z H xs U Q a r ⟨P,j,e,C,F,B,y,q⟩;subst e
 cases r with
 |cons R O =>
  cases O;cases R;obtain⟨t,u,v,E⟩:=(a.hok P _ C);refine call_list_range (a.ok.hd L) E (small_one (by ext) (by ext) F B) (by rw[rangeSize_one];split<;>ext) y λh' tk f M kp e z=>?_;have S:=qU _ 0 _ (by exact z.1) λi v hv=>by
   obtain⟨t,e⟩:=z.2 i v (by rw[<-y6];exact hv)
   grind
  refine⟨.ref s.heap.objs.size,_,a.laid (o:=.lst _) kp (i4 _) (⟨by simpa using y,f.toList,M,S,by simpa using e⟩),rfl,q _ (a.hok.fresh (i4 _))⟩
def VX(m:Mx (WL)):Mx PV:=λZ h=>(m Z h).bind λf a=>match f with
 |[.int j]=>if -(2^62)<=j/\j<2^62/\j.toNat<=sizeLine then .ok (.loc a.length) (a++[.lst (bI 0 j.toNat)])else .bad
 |_=>.bad
def tw{K:h_}{U:WS}{H:Hp}{lo:Int}:∀(l:WQ),RPs K U H (l.map λ(i:Nat)=>PV.int (lo+(i:Int))) (l.map λ(i:Nat)=>V.int (lo+(i:Int)))
 |[]=>.nil
 |i::l=>.cons (.int _) (tw l)
def Cl(g:Good X N W G k){a:Expr}{m:Mx (WL)}{i j:Nat}{p F O f:Pos}(P:G[i]?=J "list")(hm:X.mg "list"=Y)(hj:G[j]?=J "range")(E:X.mg "range"=Y)(ha:MA X [a] m)(hs:starEach [a] X.env=[(T,eval a X.env)]:=by rfl)(R:starEach [.Call (.Name "range" F) [a] [] f] X.env=[(T,eval (.Call (.Name "range" F) [a] [] f) X.env)]:=by rfl):ME X (.Call (.Name "list" p) [.Call (.Name "range" F) [a] [] f] [] O) (VX m):=by
 have d:=g.dbg _ (n2 _ (aN P));refine PE.imp (j6 (uf g.calm) (g.gl _ (aN P)) hm PyProof.Rows.Boot.«list» (eJ (AZ (g.gl _ (aN hj)) E ha hs) jA R) d.2.2 d.1 R rfl) λZ H Q ⟨U,M,h,rs,rh,q⟩=>?_;refine⟨U,M,h,rs,rh,Ful.bind q λU1 H1 x x' h1 _ l1 B rx u=>?_⟩
 cases rx with
 |nil=>exact u.elim
 |cons S t1 =>
  cases t1 with
  |cons _ _=>cases S<;>exact u.elim
  |nil =>
   cases S with
   |int y =>
    dsimp only at u;by_cases z:-(2^62)<=y/\y<2^62/\y.toNat<=sizeLine
    .rw[c_ z]at u;refine⟨y,rfl,z.1,z.2.1,λr hr=>?_⟩;obtain⟨C,l2⟩:=B.loose hr (.rng 0 y);refine⟨r,y,rfl,cg,z.1,z.2.1,z.2.2,λl hl=>?_⟩;obtain⟨L,l3⟩:=C.new hl (o:=.lst (bI 0 y.toNat)) ⟨_,rfl,tw _⟩;exact u _ _ _ (l2.trans l3) L (.loc (by rw[<-B.len];simp))
    .rw[f_ z]at u;exact u.elim
   |_=>exact u.elim
end
end MM
namespace SetT
open PySem.SetTable
def f7(xs:Array Nat):Prop:=∀a b u v:Nat,a<b->xs[a]?=J u->xs[b]?=J v->u<v
def DE(xs:Array Nat)(j:Nat)(H:f7 xs):∀l lo i:Nat,i-lo<=l->lo<=i->i<=xs.size ->
  (∀a v,xs[a]?=J v->a<lo->v<j)->(∀a v,xs[a]?=J v->i<=a->j<=v) ->
  below.go xs j l lo i<=xs.size/\(∀a v,xs[a]?=J v->a<below.go xs j l lo i->v<j) /\
   (∀a v,xs[a]?=J v->below.go xs j l lo i<=a->j<=v):=by
 intro l
 induction l with
 |zero =>
  intro lo i Q O F C z
  have:lo=i:=by lia
  subst this;exact⟨F,C,z⟩
 |succ f M =>
  intro lo i Q O F C z;unfold below.go;by_cases y:lo<i
  .simp only[y,if_true];have u:(lo+i)/2<xs.size:=by lia
   have B:xs[(lo+i)/2]?=J (xs[(lo+i)/2]'u):=Nh u;have hd:xs.getD ((lo+i)/2) j=xs[(lo+i)/2]'u:=by simp[Array.getD,u]
   rw[hd];by_cases E:xs[(lo+i)/2]'u<j
   .simp only[E,if_true];apply M
    .lia
    .lia
    .lia
    .intro a v r L;by_cases G:a=(lo+i)/2
     .subst G;rw[B]at r;cases r;exact E
     .have:=H a ((lo+i)/2) v _ ⋯ r B;lia
    .exact z
   .simp only[E,if_false];apply M
    .lia
    .lia
    .lia
    .exact C
    .intro a v r P;by_cases G:a=(lo+i)/2
     .subst G;rw[B]at r;cases r;lia
     .have:=H ((lo+i)/2) a _ v ⋯ B r;lia
  .simp only[y,if_false]
   have:lo=i:=by lia
   subst this;exact⟨F,C,z⟩
def fE(xs:Array Nat)(j:Nat)(f:f7 xs):
  below xs j<=xs.size/\(∀a v,xs[a]?=J v->a<below xs j->v<j)/\(∀a v,xs[a]?=J v->below xs j<=a->j<=v):=by
 apply DE xs j f
 .lia
 .lia
 .lia
 .lia
 .intro a v i h
  simp_all
def jX(xs:Array Nat)(i j:Nat)(l:f7 xs)(h:xs[i]?=J j):below xs j=i:=by
 obtain⟨_,u,y⟩:=fE xs j l;by_cases z:i<below xs j
 .have:=u i j h z;lia
 .by_cases r:below xs j=i
  .exact r
  .have a:below xs j<i:=by lia
   have B:i<xs.size:=by grind
   have f:xs[below xs j]?=J (xs[below xs j]'⋯):=Nh ⋯;have C:=l _ i _ j a f h;have E:=y _ _ f (i4 _);lia
def DY(a:Array Nat)(s:Nat):Prop:=∃i:Nat,a[i]?=J s
def yE(j:Nat):has (#[]:Array Nat) j=T:=by delta has;simp
def tI(t:SetTable)(a:f7 t.place)(i s:Nat)(h:t.place[i]?=J s):t.slot s=.live i:=by unfold SetTable.slot;simp only[jX t.place i s a h,h];simp
def y0(t:SetTable)(hd:t.dummies=#[])(s:Nat)(h:¬DY t.place s):t.slot s=.empty:=by
 unfold SetTable.slot;simp only[hd,yE];split
 .rename_i a
  exact absurd ⟨_,by simpa using a⟩ h
 .simp
def c0(xs:Array α)(p:Nat)(x:α)(l:p<=xs.size)(i:Nat):
  (insertAt xs p x)[i]?=if i<p then xs[i]? else if i=p then J x else xs[i-1]?:=by
 unfold insertAt;have e1:(xs.extract 0 p).size=p:=by simp;lia
 rw[Array.getElem?_append];simp only[FA,e1];split
 .rw[Array.getElem?_push];simp only[e1];split
  .rename_i a;subst a;simp
  .rw[Ni];lia
 .have a:¬i<p:=by lia
  have j:¬i=p:=by lia
  rw[Ni];have e2:p+(i-(p+1))=i-1:=by lia
  simp only[e2];split
  .rfl
  .rename_i f
   rw[UI];simp at f;lia
def d9(xs:Array α)(p:Nat)(x:α)(a:p<=xs.size):(insertAt xs p x).size=xs.size+1:=by unfold insertAt;simp;lia
def wp(f:α->β)(xs:Array α)(p:Nat)(x:α):(insertAt xs p x).map f=insertAt (xs.map f) p (f x):=by unfold insertAt;simp
def qC(x M:Nat):x % (M+1)<=M:=HW (QQ x (Nat.succ_pos M))
def Ej(M:Nat)(p:Probe):Probe :=
 if p.more>0 then { p with j:=p.j+1,more:=p.more-1} else
 { p with j:=(leap M p.i p.perturb).1,more:=runEnd M (leap M p.i p.perturb).1-(leap M p.i p.perturb).1,i:=(leap M p.i p.perturb).1,perturb:=(leap M p.i p.perturb).2}
def zu(t:SetTable)(p:Probe):t.advance p=Ej t.mask p:=by unfold SetTable.advance Ej;rfl
def E6(M:Nat)(h:Int):Probe:={ j:=bits h % (M+1),more:=runEnd M (bits h % (M+1))-bits h % (M+1),i:=bits h % (M+1),perturb:=bits h,dummy:=Y}
def st(M:Nat)(h:Int):Nat->Probe
 |0=>E6 M h
 |n+1=>Ej M (st M h n)
def sl(M:Nat)(h:Int)(n:Nat):Nat:=(st M h n).j
def iG(M i:Nat)(h:i<=M):i<=runEnd M i/\runEnd M i<=M/\runEnd M i-i<=9:=by unfold runEnd;split<;>lia
def BM(M:Nat)(h:Int)(n:Nat):(st M h n).i<=M/\(st M h n).j+(st M h n).more=runEnd M (st M h n).i/\(st M h n).dummy=Y:=by
 induction n with
 |zero =>
  have a:bits h % (M+1)<=M:=qC _ _
  have:=iG M _ a
  refine⟨a,?_,rfl⟩;show bits h % (M+1)+(runEnd M (bits h % (M+1))-bits h % (M+1))=runEnd M (bits h % (M+1));lia
 |succ n f =>
  show(Ej M (st M h n)).i<=M/\(Ej M (st M h n)).j+(Ej M (st M h n)).more=runEnd M (Ej M (st M h n)).i/\(Ej M (st M h n)).dummy=Y;delta Ej;split
  .lia
  .have a:(leap M (st M h n).i (st M h n).perturb).1<=M:=qC _ _
   have:=iG M _ a
   grind
def IE(M:Nat)(h:Int)(n:Nat):sl M h n<=M:=by
 have:=BM M h n
 have a:=iG M _ this.1;delta sl;lia
def base(M:Nat)(h:Int):Nat->Nat×Nat
 |0=>(bits h % (M+1),bits h)
 |b+1=>leap M (base M h b).1 (base M h b).2
def rP(M:Nat)(h:Int)(b:Nat):(base M h b).1<=M:=by
 cases b with
 |zero=>exact qC _ _
 |succ b =>
  exact qC _ _
def tb(M:Nat)(h:Int):Nat->Nat
 |0=>0
 |b+1=>tb M h b+(runEnd M (base M h b).1-(base M h b).1)+1
def OF(M:Nat)(h:Int)(b:Nat):tb M h b<=10*b:=by
 induction b with
 |zero=>exact i4 _
 |succ b a =>
  have:=iG M _ (rP M h b)
  show tb M h b+(runEnd M (base M h b).1-(base M h b).1)+1<=10*(b+1);lia
def OG(M:Nat)(h:Int)(b k:Nat):Probe :=
 { j:=(base M h b).1+k,more:=runEnd M (base M h b).1-(base M h b).1-k,i:=(base M h b).1,perturb:=(base M h b).2,dummy:=Y}
def u8(M:Nat)(h:Int)(b:Nat):∀k,k<=runEnd M (base M h b).1-(base M h b).1->st M h (tb M h b+k)=OG M h b k:=by
 induction b with
 |zero =>
  intro k
  induction k with
  |zero=>intro _;rfl
  |succ k f =>
   intro i;show Ej M (st M h (tb M h 0+k))=_;rw[f ⋯];delta Ej OG;lia
 |succ b a =>
  intro k
  induction k with
  |zero =>
   intro _;show Ej M (st M h (tb M h b+(runEnd M (base M h b).1-(base M h b).1)))=_;rw[a _ (i4 _)];delta Ej OG;simp;exact⟨rfl,rfl,rfl,rfl⟩
  |succ k f =>
   intro i;show Ej M (st M h (tb M h (b+1)+k))=_;rw[f ⋯];delta Ej OG
   have:runEnd M (base M h (b+1)).1-(base M h (b+1)).1-k>0:=by lia
   lia
def Gx(h:Int):bits h<2^64:=by unfold bits;lia
def BE(M:Nat)(h:Int):∀b,(base M h b).2=bits h/32^b:=by
 intro b
 induction b with
 |zero=>simp[base]
 |succ b a =>
  show(base M h b).2/32=_;rw[a,Nat.div_div_eq_div_mul,Nat.pow_succ]
def zb(M:Nat)(h:Int)(b:Nat)(a:13<=b):(base M h b).2=0:=by rw[BE];apply Nat.div_eq_of_lt;have f:=Gx h;have i:32^13<=32^b:=Nat.pow_le_pow_right (by decide) a;lia
def Ek(M:Nat):Nat->Nat->Nat
 |0,x=>x
 |n+1,x=>(Ek M n x*5+1) % (M+1)
def C2(M:Nat)(h:Int)(n:Nat):(base M h (13+n)).1=Ek M n (base M h 13).1:=by
 induction n with
 |zero=>rfl
 |succ n a =>
  show((base M h (13+n)).1*5+1+(base M h (13+n)).2/32) % (M+1)=(Ek M n (base M h 13).1*5+1) % (M+1);rw[a,zb M h (13+n) ⋯]
def oP(M:Nat)(a b x:Nat):Ek M (a+b) x=Ek M a (Ek M b x):=by
 induction a with
 |zero=>simp[Ek]
 |succ a f=>rw[Nat.succ_add];show(Ek M (a+b) x*5+1) % (M+1)=(Ek M a (Ek M b x)*5+1) % (M+1);rw[f]
def M3(M:Nat):Nat->Nat->WQ
 |0,_=>[]
 |n+1,x=>x::M3 M n ((x*5+1) % (M+1))
def Dt(M n x:Nat):Ek M n ((x*5+1) % (M+1))=Ek M (n+1) x:=by
 have:=oP M n 1 x
 rw[this];rfl
def xD(M:Nat)(s:Nat):∀n x,s∈M3 M n x->∃m,m<n/\Ek M m x=s:=by
 intro n
 induction n with
 |zero=>intro x h;cases h
 |succ n a =>
  intro x h
  cases h with
  |head=>exact⟨0,⋯,rfl⟩
  |tail _ h =>
   obtain⟨m,f,e⟩:=a _ h;exact⟨m+1,⋯,by rw[<-e,Dt]⟩
def ig(M:Nat):Prop:=Ek M (M+1) 0=0/\∀s,s<=M->s∈M3 M (M+1) 0
set_option maxRecDepth 100000 in
theorem OH:ig 7:=⟨by decide,by
 have:∀s:Fin 8,(M3 7 8 0).contains s.val=I:=by decide
 intro s a;have:=this ⟨s,⋯⟩;simpa using this⟩
set_option maxRecDepth 100000 in
theorem Kv:ig 31:=⟨by decide,by
 have:(List.range 32).all (λs=>(M3 31 32 0).contains s)=I:=by decide
 intro s f;have a:=QO.mp this s (by simp;lia)
 simpa using a⟩
set_option maxRecDepth 100000 in
theorem Gy:ig 127:=⟨by decide,by
 have:(List.range 128).all (λs=>(M3 127 128 0).contains s)=I:=by decide
 intro s f;have a:=QO.mp this s (by simp;lia)
 simpa using a⟩
def BK(M:Nat)(hf:ig M)(x s:Nat)(j:x<=M)(l:s<=M):∃m,m<=2*M+1/\m<=M/\Ek M m x=s:=by
 obtain⟨a,r,f⟩:=xD M x _ _ (hf.2 x j);obtain⟨b,u,i⟩:=xD M s _ _ (hf.2 s l);by_cases h:a<=b
 .refine⟨b-a,⋯,⋯,?_⟩;rw[<-f,<-oP,Ji h];exact i
 .refine⟨M+1-a+b,⋯,⋯,?_⟩;rw[<-f,<-oP]
  have:M+1-a+b+a=b+(M+1):=by lia
  rw[this,oP,hf.1];exact i
def qQ(M:Nat)(hf:ig M)(h:Int)(s:Nat)(a:s<=M):∃b,b<=M+13/\(base M h b).1=s:=by obtain⟨m,_,f,e⟩:=BK M hf (base M h 13).1 s (rP M h 13) a;exact⟨13+m,⋯,by rw[C2];exact e⟩
def C9(M:Nat)(hf:ig M)(h:Int)(s:Nat)(a:s<=M):∃n,n<=10*(M+13)/\sl M h n=s:=by
 obtain⟨b,f,e⟩:=qQ M hf h s a;refine⟨tb M h b,?_,?_⟩
 .have:=OF M h b;lia
 .have:=u8 M h b 0 ⋯
  delta sl;rw[Nat.add_zero]at this;rw[this];show(base M h b).1+0=s;lia
structure WF(M:Nat)(pl:Array Nat)(hs:Array Int):Prop where
 rise:f7 pl
 bound:∀i v:Nat,pl[i]?=J v->v<=M
 size:pl.size=hs.size
 reach:∀(i:Nat)(h:Int)(v:Nat),hs[i]?=J h->pl[i]?=J v->∃n,sl M h n=v/\∀m,m<n->DY pl (sl M h m)
def fQ{α:Type}{xs:Array α}{i:Nat}{v:α}(h:xs[i]?=J v):i<xs.size:=by grind
def e8{α:Type}(xs:Array α)(i:Nat)(h:i<xs.size):∃v,xs[i]?=J v:=⟨_,Nh h⟩
def AJ(f:Array Nat)(r:f7 f)(M:Nat)(h:∀s,s<=M->DY f s):∀s i:Nat,s<=M->f[i]?=J s->s<=i:=by
 intro s
 induction s with
 |zero=>lia
 |succ s l =>
  intro i B j;obtain⟨k,a⟩:=h s ⋯;have y:=l k ⋯ a;by_cases z:k<i
  .lia
  .by_cases u:k=i
   .subst u;rw[a]at j;cases j
   .have:=r i k (s+1) s ⋯ j a;lia
def AQ(f:Array Nat)(r:f7 f)(M:Nat)(l:f.size<=M):∃s,s<=M/\¬DY f s:=by
 apply Classical.byContradiction;intro u;have a:∀s,s<=M->DY f s:=by
  intro s y
  simp_all
 obtain⟨i,j⟩:=a M (i4 _)
 have:=AJ f r M a M i (i4 _) j
 have:=fQ j
 lia
def OI(P:Nat->Prop):∀n,P n->∃m,m<=n/\P m/\∀k,k<m->¬P k:=by
 intro n
 induction n using Nat.strongRecOn with
 |_ n i =>
  intro j;by_cases h:∃k,k<n/\P k
  .obtain⟨k,a,f⟩:=h;obtain⟨m,l,r⟩:=i k a f;exact⟨m,⋯,r⟩
  .exact⟨n,i4 _,j,λk a f=>h ⟨k,a,f⟩⟩
def zf(a:Array Nat)(j:f7 a)(M:Nat)(hf:ig M)(f:a.size<=M)(h:Int):
  ∃n,n<=10*(M+13)/\¬DY a (sl M h n)/\∀m,m<n->DY a (sl M h m):=by
 obtain⟨s,y,i⟩:=AQ a j M f;obtain⟨n,z,e⟩:=C9 M hf h s y;obtain⟨m,B,u,r⟩:=OI (λn=>¬DY a (sl M h n)) n (by rw[e];exact i);exact⟨m,⋯,u,λk l=>Classical.byContradiction (r k l)⟩
def CV(t:SetTable)(hd:t.dummies=#[])(H:f7 t.place)(hashAt:Nat->Int)(h:Int)(y:Nat)(Q:¬DY t.place (sl t.mask h y))(E:∀m,m<y->DY t.place (sl t.mask h m)):
  ∀j n,n<=y->y-n<j ->
   (probe.go t hashAt h j (st t.mask h n)=J (.empty (sl t.mask h y) Y) /\
    ∀m i:Nat,n<=m->m<y->t.place[i]?=J (sl t.mask h m)->hashAt i≠h) \/
   (∃m i:Nat,n<=m/\m<y/\t.place[i]?=J (sl t.mask h m)/\hashAt i=h /\
    probe.go t hashAt h j (st t.mask h n)=J (.candidate (sl t.mask h m) i (st t.mask h (m+1))) /\
    ∀z l:Nat,n<=z->z<m->t.place[l]?=J (sl t.mask h z)->hashAt l≠h):=by
 intro j
 induction j with
 |zero=>intro n Z W;lia
 |succ f ih =>
  intro n Z W;by_cases he:n=y
  .subst he;left;refine⟨?_,λm i O F=>by lia⟩;unfold probe.go;have r:=y0 t hd _ Q;unfold sl at r;simp only[r]
   have:=(BM t.mask h n).2.2
   rw[this];rfl
  .obtain⟨i,M⟩:=E n ⋯;have r:=tI t H i _ M;have R:probe.go t hashAt h (f+1) (st t.mask h n)=if hashAt i==h then J (.candidate (sl t.mask h n) i (st t.mask h (n+1)))else probe.go t hashAt h f (st t.mask h (n+1)):=by
    conv=>lhs;unfold probe.go
    unfold sl at r;simp only[r,zu];rfl
   by_cases C:hashAt i=h
   .right;refine⟨n,i,i4 _,⋯,M,C,?_,λz l O F=>by lia⟩;rw[R];simp[C]
   .have L:probe.go t hashAt h (f+1) (st t.mask h n)=probe.go t hashAt h f (st t.mask h (n+1)):=by
     rw[R];simp[C]
    rw[L];have u:∀l:Nat,t.place[l]?=J (sl t.mask h n)->l=i:=by intro l P;have a:=jX _ _ _ H M;have b:=jX _ _ _ H P;lia
    rcases ih (n+1) ⋯ ⋯with⟨r1,r2⟩|⟨m,U,q1,q2,q3,X,S,q6⟩
    .left;refine⟨r1,?_⟩;intro m l O F B;by_cases G:m=n
     .subst G;rw[u l B];exact C
     .exact r2 m l ⋯ F B
    .right;refine⟨m,U,⋯,q2,q3,X,S,?_⟩;intro z l O F B;by_cases G:z=n
     .subst G;rw[u l B];exact C
     .exact q6 z l ⋯ F B
def rC(f:Array Nat)(p s:Nat)(l:p<=f.size)(x:Nat)(h:DY f x):DY (insertAt f p s) x:=by
 obtain⟨i,j⟩:=h;by_cases r:i<p
 .exact⟨i,by rw[c0 _ _ _ l];simp[r,j]⟩
 .refine⟨i+1,?_⟩;rw[c0 _ _ _ l];have a:¬i+1<p:=by lia
  have b:¬i+1=p:=by lia
  simp[a,b,j]
def CK(j:Array Nat)(s:Nat)(r:f7 j)(C:¬DY j s):f7 (insertAt j (below j s) s):=by
 obtain⟨F,E,B⟩:=fE j s r;intro a b u v y l f;rw[c0 _ _ _ F]at l f;have z:=λi L=>C ⟨i,L⟩
 split at l
 .rename_i G
  have H:=E a u l G
  split at f
  .exact r a b u v y l f
  .split at f
   .cases f;exact H
   .exact r a (b-1) u v ⋯ l f
 .split at l
  .have e1:¬b<below j s:=by lia
   have e2:¬b=below j s:=by lia
   simp only[e1,e2,if_false]at f
   have:=B (b-1) v f ⋯
   have M:v≠s:=λe=>z (b-1) (by rw[f,e]);lia
  .have e1:¬b<below j s:=by lia
   have e2:¬b=below j s:=by lia
   simp only[e1,e2]at f;exact r (a-1) (b-1) u v ⋯ l f
def Kw(M:Nat)(a:Array Nat)(F:Array Int)(w:WF M a F)(h:Int)(n:Nat)(E:¬DY a (sl M h n))(z:∀m,m<n->DY a (sl M h m)):
  WF M (insertAt a (below a (sl M h n)) (sl M h n)) (insertAt F (below a (sl M h n)) h):=by
 have j:=(fE a (sl M h n) w.rise).1;have y:below a (sl M h n)<=F.size:=by have:=w.size;lia
 refine⟨CK a _ w.rise E,?_,?_,?_⟩
 .intro i v l;rw[c0 _ _ _ j]at l
  split at l
  .exact w.bound _ _ l
  .split at l
   .cases l;exact IE M h n
   .exact w.bound _ _ l
 .rw[d9 _ _ _ j,d9 _ _ _ y,w.size]
 .intro i G v f hv;rw[c0 _ _ _ j]at hv;rw[c0 _ _ _ y]at f
  split at hv
  .rename_i C
   simp only[C]at f;obtain⟨k,e,r⟩:=w.reach i G v f hv;exact⟨k,e,λm u=>rC _ _ _ j _ (r m u)⟩
  .rename_i C
   split at hv
   .rename_i B
    simp only[B]at f;cases hv;simp at f;cases f;exact⟨n,rfl,λm u=>rC _ _ _ j _ (z m u)⟩
   .rename_i B
    simp only[C,B]at f;obtain⟨k,e,r⟩:=w.reach (i-1) G v f hv;exact⟨k,e,λm u=>rC _ _ _ j _ (r m u)⟩
def jP(ow:Array (WD))(s:Nat):Prop:=∃i:Nat,ow[s]?=J (J i)
structure LC(M:Nat)(ow:Array (WD))(k:Nat)(hs:Array Int):Prop where
 size:ow.size=M+1
 own:∀i,i<k->∃j:Nat,ow[j]?=J (J i)
 inj:∀i j j':Nat,ow[j]?=J (J i)->ow[j']?=J (J i)->j=j'
 lt:∀j i:Nat,ow[j]?=J (J i)->i<k
 reach:∀(j i:Nat)(h:Int),ow[j]?=J (J i)->hs[i]?=J h->∃n,sl M h n=j/\∀m,m<n->jP ow (sl M h m)
def mJ(ow:Array (WD))(s:Nat)(a:s<ow.size):(ow.getD s (J 0)).isNone=I↔¬jP ow s:=by
 delta jP
 have:=Nh a
 simp only[Array.getD,a,this]
 cases h:ow[s]'a with
 |none=>simp[h]
 |some v=>simp[h]
def A4(M:Nat)(hf:ig M)(ow:Array (WD))(Q:ow.size=M+1)(h:Int)(s:Nat)(W:s<=M)(H:¬jP ow s):
  ∀a b,M+13<b+a->(∀m,m<tb M h b->jP ow (sl M h m)) ->
   ∃n,layClean.free M ow a (base M h b).1 (base M h b).2=J (sl M h n)/\¬jP ow (sl M h n)/\∀m,m<n->jP ow (sl M h m):=by
 have r:∀b c,b<c->tb M h b<tb M h c:=by
  intro b c al
  induction c with
  |zero=>lia
  |succ c F =>
   show tb M h b<tb M h c+(runEnd M (base M h c).1-(base M h c).1)+1;by_cases e:b=c
   .subst e;lia
   .have:=F ⋯;lia
 intro a
 induction a with
 |zero =>
  intro b U i;obtain⟨C,X,e⟩:=qQ M hf h s W;have z:=r C b ⋯;have u:=i _ z;have y:=u8 M h C 0 ⋯;rw[Nat.add_zero]at y;unfold sl at u;rw[y]at u
  have:(OG M h C 0).j=s:=by show(base M h C).1+0=s;lia
  rw[this]at u;exact absurd u H
 |succ f F =>
  intro b U i;have G:=rP M h b;have P:=iG M _ G;have l:∀k,k<=runEnd M (base M h b).1-(base M h b).1->sl M h (tb M h b+k)=(base M h b).1+k:=by intro k O;delta sl;rw[u8 M h b k O];rfl
  unfold layClean.free
  cases M5:(List.range (runEnd M (base M h b).1+1-(base M h b).1)).find? λk=>(ow.getD ((base M h b).1+k) (J 0)).isNone with
  |some k =>
   rw[List.find?_range_eq_some]at M5;obtain⟨Z,R,p3⟩:=M5;have O:k<runEnd M (base M h b).1+1-(base M h b).1:=by simpa using R
   refine⟨tb M h b+k,?_,?_,?_⟩
   .rw[l k ⋯]
   .rw[l k ⋯];exact(mJ ow _ ⋯).mp Z
   .intro m L;by_cases z:m<tb M h b
    .exact i m z
    .have e:m=tb M h b+(m-tb M h b):=by lia
     rw[e,l _ ⋯];have u:=p3 (m-tb M h b) ⋯;have y:=mJ ow ((base M h b).1+(m-tb M h b)) ⋯;apply Classical.byContradiction;intro E;rw[y.mpr E]at u;simp at u
  |none =>
   rw[List.find?_range_eq_none]at M5;have B:∀m,m<tb M h (b+1)->jP ow (sl M h m):=by
    intro m L;by_cases z:m<tb M h b
    .exact i m z
    .have S:m<tb M h b+(runEnd M (base M h b).1-(base M h b).1)+1:=L;have e:m=tb M h b+(m-tb M h b):=by lia
     rw[e,l _ ⋯];have u:=M5 (m-tb M h b) ⋯;have y:=mJ ow ((base M h b).1+(m-tb M h b)) ⋯;apply Classical.byContradiction;intro E;rw[y.mpr E]at u;simp at u
   exact F (b+1) ⋯ B
def Gz(M:Nat)(ow:Array (WD))(k:Nat)(j:Array Int)(c:LC M ow k j)(L:k<=M):∃s,s<=M/\¬jP ow s:=by
 apply Classical.byContradiction;intro B;have r:=λs j=>Classical.byContradiction (λh=>B ⟨s,j,h⟩);have f:∀s,s<=M->ow[s]?=J (J ((ow.getD s Y).getD 0)):=by
  intro s j;obtain⟨i,H⟩:=r s j
  simp_all
 have z:((List.range (M+1)).map (λs=>(ow.getD s Y).getD 0)).Nodup:=by unfold List.Nodup;rw[Nt];apply List.Pairwise.imp_of_mem _ RY;intro a b F E u e;have y:=f a (by simp at F;lia);have C:=f b (by simp at E;lia);rw[<-e]at C;exact u (c.inj _ _ _ y C)
 have l:((List.range (M+1)).map (λs=>(ow.getD s Y).getD 0)) ⊆ List.range k:=by
  intro x G;obtain⟨s,j,e⟩:=mm.mp G;have y:=f s (by simp at j;lia)
  have:=c.lt _ _ y
  rw[e]at this;simpa using this
 have:=List.Nodup.length_le_of_subset z l
 simp at this;lia
def GA(M:Nat)(hf:ig M)(ow:Array (WD))(k:Nat)(B:Array Int)(c:LC M ow k B)(S:k<=M)(h:Int)(R:B[k]?=J h):
  ∃j,layClean.free M ow (turns M) (bits h % (M+1)) (bits h)=J j/\LC M (ow.setIfInBounds j (J k)) (k+1) B:=by
 obtain⟨s,F,C⟩:=Gz M ow k B c S;obtain⟨n,e,G,z⟩:=A4 M hf ow c.size h s F C (turns M) 0 (by unfold turns;lia) (by intro m y;exact absurd y (Nat.not_lt_zero m));refine⟨sl M h n,e,?_⟩;have H:=IE M h n;have E:sl M h n<ow.size:=by have:=c.size;lia
 have a:∀s:Nat,(ow.setIfInBounds (sl M h n) (J k))[s]?=if s=sl M h n then J (J k)else ow[s]?:=by
  intro s;by_cases e:sl M h n=s
  .subst e;simp[E]
  .have e2:¬s=sl M h n:=λx=>e x.symm;simp[e,e2]
 have l:∀s,jP ow s->jP (ow.setIfInBounds (sl M h n) (J k)) s:=by
  intro s ⟨i,L⟩;by_cases e:s=sl M h n
  .exact⟨k,by rw[a];simp[e]⟩
  .exact⟨i,by rw[a];simp[e,L]⟩
 refine⟨by simp[c.size],?_,?_,?_,?_⟩
 .intro i L;by_cases e:i=k
  .subst e;exact⟨sl M h n,by rw[a];simp⟩
  .obtain⟨j,H⟩:=c.own i ⋯;refine⟨j,?_⟩;rw[a]
   have:¬j=sl M h n:=λe=>G ⟨i,by rw[<-e];exact H⟩
   simp[this,H]
 .intro i j Q f u;rw[a]at f u;by_cases e1:j=sl M h n<;>by_cases e2:Q=sl M h n
  .rw[e1,e2]
  .simp[e1]at f;simp[e2]at u
   have:=c.lt _ _ u;lia
  .simp[e1]at f;simp[e2]at u
   have:=c.lt _ _ f;lia
  .simp[e1]at f;simp[e2]at u;exact c.inj _ _ _ f u
 .intro j i f;rw[a]at f;by_cases e1:j=sl M h n
  .simp[e1]at f;lia
  .simp[e1]at f;have:=c.lt _ _ f;lia
 .intro j i U f u;rw[a]at f;by_cases e1:j=sl M h n
  .simp[e1]at f;subst f;rw[R]at u;cases u;exact⟨n,e1.symm,λm y=>l _ (z m y)⟩
  .simp[e1]at f;obtain⟨P,O,r⟩:=c.reach _ _ _ f u;exact⟨P,O,λm y=>l _ (r m y)⟩
def Kx(M:Nat)(f:Array Int):LC M (Array.replicate (M+1) Y) 0 f:=by
 have a:∀(s i:Nat),(Array.replicate (M+1) (Y:WD))[s]?≠J (J i):=by
  intro s i h;rw[Array.getElem?_replicate]at h
  split at h<;>cases h
 exact⟨by simp,λi u=>by lia,λi j r h=>absurd h (a _ _),λj i h=>absurd h (a _ _),λj i h l=>absurd l (a _ _)⟩
def um(M:Nat)(hf:ig M)(f:Array Int)(z:f.size<=M):∀(l:WN)(ow:Array (WD))(k:Nat),
  LC M ow k f->(∀q:Nat,l[q]?=f[k+q]?)->k<=f.size ->
  ∃a,(l.foldl (init:=J (ow,k)) λu h=>do
   let(owner,k) <-u
   let j <-layClean.free M owner (turns M) (bits h % (M+1)) (bits h)
   pure (owner.setIfInBounds j (J k),k+1))=J (a,f.size)/\LC M a f.size f:=by
 intro l
 induction l with
 |nil =>
  intro ow k c i F
  have:=i 0
  simp at this;have r:k=f.size:=by lia
  subst r;exact⟨ow,rfl,c⟩
 |cons h l E =>
  intro ow k c i F;have y:=i 0;have G:=fQ y.symm;obtain⟨j,e,C⟩:=GA M hf ow k f c ⋯ h y.symm
  obtain⟨a,e2,B⟩:=E (ow.setIfInBounds j (J k)) (k+1) C (by
   intro q
   have:=i (q+1)
   simp at this
   lia) ⋯
  refine⟨a,?_,B⟩;rw[<-e2];simp[e]
def wT(M:Nat)(hf:ig M)(a:Array Int)(f:a.size<=M):∃ow,layClean M a=J ow/\LC M ow a.size a:=by
 obtain⟨ow,e,c⟩:=um M hf a f a.toList _ 0 (Kx M a) (by simp) ⋯;refine⟨ow,?_,c⟩;unfold layClean
 simp_all
def GB{L:WQ}(h:L.Pairwise (·<·)):f7 L.toArray:=by intro a b u v j y z;simp at y z;obtain⟨f,l⟩:=kx.mp y;obtain⟨r,i⟩:=kx.mp z;rw[<-l,<-i];exact HR.mp h a b f r j
def fX{α β:Type}(f:α->Option β):∀(l:List α),(∀x,x∈l->∃v,f x=J v)->∀q:Nat,(l.filterMap f)[q]?=l[q]?.bind f:=by
 intro l
 induction l with
 |nil=>intro _ q;simp
 |cons x l a =>
  intro h q;obtain⟨v,hv⟩:=h x (by simp);rw[QH,hv]
  cases q with
  |zero=>simp[hv]
  |succ q=>exact a (λy i=>h y (by simp[i])) q
def lI{α:Type}(a:Array α):(List.range a.size).filterMap (a[·]?)=a.toList:=by
 apply Fw;intro q;rw[fX _ _ (by intro x f;exact e8 a x (by simpa using f))];by_cases h:q<a.size
 .rw[RU h];simp
 .rw[EF (by simp;lia)];simp;lia
def GC{α:Type}(M:Nat)(hf:ig M)(E:α->Int)(B:Array α)(Z:B.size<=M)(fin mv:Nat)(led W:Bool):
  ∃pl z,laid M fin mv led W (B.map E)=J ({ mask:=M,place:=pl,dummies:=#[],finger:=fin,led:=led,moves:=mv,plain:=W},z) /\
   WF M pl ((z.filterMap (B[·]?)).map E)/\(z.filterMap (B[·]?)).size=B.size/\(z.filterMap (B[·]?)).toList.Perm B.toList /\
   z.toList.Perm (List.range B.size):=by
 obtain⟨ow,e,c⟩:=wT M hf (B.map E) (by simpa using Z);have hn:(B.map E).size=B.size:=by simp
 let f:Nat->Option (Nat×Nat):=λj=>(ow.getD j Y).map (j,·)
 let l:=(List.range (M+1)).filterMap f
 have F:∀j b,f j=J b↔(b.1=j/\ow[j]?=J (J b.2)):=by
  intro j b;show(ow.getD j Y).map (j,·)=J b↔_;by_cases H:j<ow.size
  .have:ow[j]?=J (ow[j]'H):=Nh H
   simp only[Array.getD,H,dite_true,this]
   cases h:ow[j]'H with
   |none=>simp[h]
   |some v =>
    simp[h];constructor
    .intro e;subst e;simp
    .rintro⟨e1,e2⟩;cases b;simp_all
  .simp[Array.getD,H]
 have u:∀b:Nat×Nat,b∈l↔ow[b.1]?=J (J b.2):=by
  intro b;rw[Fh];constructor
  .rintro⟨j,_,H⟩;obtain⟨e1,e2⟩:=(F j b).mp H;rw[e1];exact e2
  .intro h;refine⟨b.1,?_,(F b.1 b).mpr ⟨rfl,h⟩⟩
   have:=fQ h
   have:=c.size
   simp;lia
 have U:l.Pairwise (λa b=>a.1<b.1):=by show((List.range (M+1)).filterMap f).Pairwise _;rw[RJ];apply List.Pairwise.imp _ (RL (n:=M+1));intro a b S x hx y hy;rw[((F _ _).mp hx).1,((F _ _).mp hy).1];exact S
 have al:(l.map (·.2)).Nodup:=by
  unfold List.Nodup;rw[Nt];apply List.Pairwise.imp_of_mem _ U;intro a b ha L S e;have O:=(u a).mp ha;have R:=(u b).mp L;have e':a.2=b.2:=e;rw[<-e']at R
  have:=c.inj _ _ _ O R
  lia
 have C:(l.map (·.2)).Perm (List.range B.size):=by
  rw[Qx al RY];intro i;rw[mm];constructor
  .rintro⟨b,L,e⟩
   have:=c.lt _ _ ((u b).mp L)
   rw[e]at this;simpa using this
  .intro X;obtain⟨j,H⟩:=c.own i (by simpa using X);exact⟨(j,i),(u (j,i)).mpr H,rfl⟩
 have Q:((l.map (·.2)).filterMap (B[·]?)).Perm B.toList:=by
  have:=C.filterMap (B[·]?)
  rw[lI]at this;exact this
 have G:((l.map (·.2)).toArray.filterMap (B[·]?)).toList=(l.map (·.2)).filterMap (B[·]?):=by simp
 have P:∀x,x∈l.map (·.2)->∃v,B[x]?=J v:=by
  intro x hx
  have:=C.mem_iff.mp hx
  exact e8 B x (by simpa using this)
 refine⟨(l.map (·.1)).toArray,(l.map (·.2)).toArray,?_,?_,?_,?_,?_⟩
 .unfold laid;rw[e];rfl
 .refine⟨GB (by rw[Nt];exact U),?_,?_,?_⟩
  .intro i v X;simp at X;obtain⟨b,L⟩:=X;have O:=(u _).mp (wj L);have R:=fQ O
   have:=c.size
   have h3:v<ow.size:=R;lia
  .have O:=Q.length_eq;have R:(((l.map (·.2)).toArray.filterMap (B[·]?)).map E).size=((l.map (·.2)).filterMap (B[·]?)).length:=by
    rw[Array.size_map,<-DB,G]
   rw[R,O]
   have:=C.length_eq
   simp at this ⊢;exact this
  .intro i h v hh hv;simp at hv;obtain⟨b,L⟩:=hv;have O:=(u _).mp (wj L);have h3:((l.map (·.2)).toArray.filterMap (B[·]?))[i]?=B[b]?:=by
    rw[<-y6,G,fX _ _ P];simp[L]
   rw[Array.getElem?_map,h3]at hh;obtain⟨n,en,r⟩:=c.reach v b h O (by rw[Array.getElem?_map];exact hh);refine⟨n,en,?_⟩;intro m hm;obtain⟨i',an⟩:=r m hm;have h5:=(u (sl M h m,i')).mpr an;have h6:sl M h m∈l.map (·.1):=mm.mpr ⟨_,h5,rfl⟩;obtain⟨q,hq⟩:=vv.mp h6;exact⟨q,by simpa using hq⟩
 .rw[<-DB,G,Q.length_eq];simp
 .rw[G];exact Q
 .exact C
section
variable{prog:Program}{w:World}{A:Around}{E:WA}{s:Shared}
abbrev TK(prog:Program)(w:World)(h:Heap)(k:WN)(a:Addr):Prop:=IsTupleKey (intKind prog w) h k a
abbrev TH(prog:Program)(w:World)(k:WN):Int:=tupleKeyHash (intKind prog w) k
def ItemsAre.ints(h:ItemsAre (intKind prog w) r f):∀v∈f,∃i t,v=.int i t:=by
 induction h with
 |nil=>intro v hv;cases hv
 |@cons k v r f j _ l =>
  intro u a
  cases a with
  |head =>
   cases v with
   |int i t=>exact⟨i,t,rfl⟩
   |_=>simp[intKind,Value.isInt]at j
  |tail _ a=>exact l u a
def lh(B:TK prog w s.heap ks a)(h:Q I s):wpAny (model prog w) A (hashByValue 8 (.ref a)) Q E s:=by
 have G:=B.typeIs;obtain⟨o,items,n,C,_,hd,H⟩:=B;refine e_ (wpAny_specialOf G F.slot_tuple_hash.lookup ?_);refine e_ (wpAny_seqItems C hd ?_);refine e_ ?_;rw[<-Array.forIn_toList];refine wpAny_forIn_list _ (λj r y=>r.1=Y/\y=s/\∀v∈j,∃i t,v=Value.int i t) _ ?_ ?_ _ _ ⟨rfl,rfl,ItemsAre.ints H⟩
 .rintro v j r y ⟨z,rfl,f⟩;obtain⟨i,t,rfl⟩:=f v xg;exact i5 ⟨rfl,rfl,λu l=>f u (mw _ l)⟩
 .rintro⟨M,L⟩ y ⟨z,rfl,_⟩;subst z;exact i5 h
def iJ(B:TK prog w s.heap ks a)(h:Q T s):wpAny (model prog w) A (ofAClassStatement 8 (.ref a)) Q E s:=by
 have F:=B.typeIs;obtain⟨o,items,n,C,_,hd,G⟩:=B;unfold ofAClassStatement;refine e_ (wpAny_typeOf F ?_);refine e_ ?_;refine i5 ?_;refine e_ (wpAny_seqItems C hd ?_);refine e_ ?_;rw[<-Array.forIn_toList];refine wpAny_forIn_list _ (λj r y=>r.1=Y/\y=s/\∀v∈j,∃i t,v=Value.int i t) _ ?_ ?_ _ _ ⟨rfl,rfl,ItemsAre.ints G⟩
 .rintro v j r y ⟨z,rfl,f⟩;obtain⟨i,t,rfl⟩:=f v xg;exact i5 ⟨rfl,rfl,λu l=>f u (mw _ l)⟩
 .rintro⟨L,H⟩ y ⟨z,rfl,_⟩;subst z;exact i5 h
def sJ{k:WN}{a:Addr}{stored:WT}{Q:Bool->Shared->Prop}(G:TK prog w s.heap k a)(f:∀v∈stored,∃b y,v=.ref b/\TK prog w s.heap y b)(h:Q T s):wpAny (model prog w) A (searchCouldBeSeen (.ref a) stored) Q E s:=by
 refine e_ ?_;refine wpAny_forIn_list _ (λj r B=>r.1=Y/\B=s/\∀v∈j,∃b y,v=Value.ref b/\TK prog w s.heap y b) _ ?_ ?_ _ _ ⟨rfl,rfl,f⟩
 .rintro v j r B ⟨C,rfl,f⟩;obtain⟨b,y,rfl,F⟩:=f v xg;have i:=λu z=>f u (mw _ z);by_cases l:(a==b||(carriedByValue (.ref a)&&carriedByValue (.ref b)))=I
  .rw[c_ l];exact i5 ⟨rfl,rfl,i⟩
  .rw[f_ l];refine e_ (wpAny_eqIsQuiet_tuple G ?_);refine e_ (wpAny_eqIsQuiet_tuple F ?_);refine e_ (iJ G ?_);refine e_ (iJ F ?_);exact i5 ⟨rfl,rfl,i⟩
 .rintro⟨L,H⟩ B ⟨C,rfl,_⟩;subst C;exact i5 h
def ja(prog:Program)(w:World)(P:Addr->Prop)(h:Heap)(j:Array (Int×Value))(f:WP):Prop :=
 j.size=f.length/\∀(i:Nat)(e:Int×Value)(k:WN),j[i]?=J e->f[i]?=J k->∃a,e.2=.ref a/\TK prog w h k a/\e.1=TH prog w k/\P a
def ja.at'{P:Addr->Prop}{h:Heap}{j:Array (Int×Value)}{f:WP}(x:ja prog w P h j f){i:Nat}{e:Int×Value}(l:j[i]?=J e):
  ∃k a,f[i]?=J k/\e.2=.ref a/\TK prog w h k a/\e.1=TH prog w k:=by
 have r:=fQ l
 have:i<f.length:=by rw[<-x.1];exact r
 obtain⟨a,y,u,z,_⟩:=x.2 i e f[i] l (by simp);exact⟨f[i],a,by simp,y,u,z⟩
def ja.key{P:Addr->Prop}{h:Heap}{f:Array (Int×Value)}{l:WP}(x:ja prog w P h f l){i:Nat}{k:WN}(j:l[i]?=J k):
  ∃e a,f[i]?=J e/\e.2=.ref a/\TK prog w h k a/\e.1=TH prog w k:=by
 have B:i<f.size:=by rw[x.1];exact(kx.mp j).1
 obtain⟨e,r⟩:=e8 f i B;obtain⟨a,y,u,z,_⟩:=x.2 i e k r j;exact⟨e,a,r,y,u,z⟩
def AL{P:Addr->Prop}{S:Addr}{o:Obj}{r:Array (Int×Value)}{ep:Nat}{t:SetTable}{ks:WP}{k:WN}{a:Addr}{n1:Nat}{Q:SetFound->Shared->Prop}(hu:A.units<cLine)(ho:s.heap.get? S=J o)(hd:o.data=.set r ep t)(hf:t.fits r.size=I)(a7:t.dummies=#[])(ap:t.gaveWay=T)(W:WF t.mask t.place (r.map (·.1)))(z:ja prog w P s.heap r ks)(hk:TK prog w s.heap k a)(U:¬DY t.place (sl t.mask (TH prog w k) n1))(an:∀m,m<n1->DY t.place (sl t.mask (TH prog w k) m))(bn:n1<10*turns t.mask)(h1:k∈ks->Q (.there Y) s)(h2:k∉ks->Q (.free (sl t.mask (TH prog w k) n1) T) s):
  ∀(l n:Nat)(j:Option Probe),j.getD (t.probeStart (TH prog w k))=st t.mask (TH prog w k) n->n<=n1->n1-n<l ->
   (∀(m i:Nat),m<n->t.place[i]?=J (sl t.mask (TH prog w k) m)->ks[i]?≠J k) ->
   wpAny (model prog w) A (setSearchFrom S (.ref a) (TH prog w k) I l j) Q E s:=by
 intro l
 induction l with
 |zero=>intro n j _ _ h;lia
 |succ f ih =>
  intro n j a6 hn bq B;unfold setSearchFrom;refine e_ (wpAny_setState_of ho hd hf ?_);dsimp only;rw[ap];simp only[nw,if_false];rw[a6];have a3:=CV t a7 W.rise (λi=>(r[i]?.map (·.1)).getD 0) (TH prog w k) n1 U an (10*turns t.mask) n hn ⋯;have F:∀i:Nat,ks[i]?=J k->∃m,m<n1/\t.place[i]?=J (sl t.mask (TH prog w k) m):=by
   intro i hi;obtain⟨e,b,C,_,_,Z⟩:=z.key hi;have hl:i<t.place.size:=by have:=W.size;simp at this;rw[this];exact fQ C
   obtain⟨v,hv⟩:=e8 t.place i hl;obtain⟨m,em,hm⟩:=W.reach i (TH prog w k) v (by simp[C,Z]) hv;refine⟨m,?_,by rw[em];exact hv⟩;by_cases a9:m<n1
   .exact a9
   .exfalso;by_cases X:m=n1
    .subst X;exact U ⟨i,by rw[em];exact hv⟩
    .exact U (hm n1 ⋯)
  rcases a3 with⟨e1,e2⟩|⟨m,i,q1,q2,q3,q4,q5,q6⟩
  .have M:t.probe (λi=>(r[i]?.map (·.1)).getD 0) (TH prog w k) (st t.mask (TH prog w k) n)=J (.empty (sl t.mask (TH prog w k) n1) Y):=e1;erw [M];dsimp only;refine i5 (h2 λax=>?_);obtain⟨i,hi⟩:=vv.mp ax;obtain⟨m,hm,hp⟩:=F i hi;by_cases a8:m<n
   .exact B m i a8 hp hi
   .obtain⟨e,b,C,_,_,Z⟩:=z.key hi;exact e2 m i ⋯ hm hp (by simp[C,Z])
  .have M:t.probe (λi=>(r[i]?.map (·.1)).getD 0) (TH prog w k) (st t.mask (TH prog w k) n)=J (.candidate (sl t.mask (TH prog w k) m) i (st t.mask (TH prog w k) (m+1))):=q5;erw [M];dsimp only;have ay:i<r.size:=by
    have:=W.size;simp at this;rw[<-this];exact fQ q3
   obtain⟨e,C⟩:=e8 r i ay;obtain⟨k',b,al,eb,hb,Z⟩:=z.at' C;obtain⟨eh,ev⟩:=e;simp only at eb Z;subst eb
   have as:wpAny (model prog w) A (do
     let J (_,y):=r[i]? | unsupported "internal:set-entry"
     let u <-holding [y] (eqBool y (.ref a))
     let(es',_,t') <-setState S
     if I&&u then return .there Y
     let J same:=t'.sameMemory t.moves t.mask|unsupported "set.changed-during-lookup:is-the-new-block-at-the-old-address"
     let R <-match(if same then t'.slot (sl t.mask (TH prog w k) m)else .empty) with
      |.live H=>match es'[H]? with
       |some (_,y')=>do pure (if <-isSame y' y then J H else Y)
       |none=>pure Y
      |_=>pure Y
     match R with
     |none=>rule "set.search.anew";setSearchFrom S (.ref a) (TH prog w k) I f Y
     |some H=>if u then return .there (J H)else setSearchFrom S (.ref a) (TH prog w k) I f (J (st t.mask (TH prog w k) (m+1)))) Q E s:=by
    rw[C];dsimp only;refine e_ (wpAny_holding (wpAny_eqBool_tuple hu hb hk ?_));refine e_ (wpAny_setState_of ho hd hf ?_);dsimp only;by_cases L:k'=k
    .subst L;simp only[decide_true,Bool.and_self,if_true];exact i5 (h1 (vv.mpr ⟨i,al⟩))
    .simp only[L,decide_false,R7,nw,if_false];have ba:t.sameMemory t.moves t.mask=J I:=by unfold SetTable.sameMemory;simp
     rw[ba];simp only[if_true];rw[tI t W.rise i _ q3];dsimp only;rw[C];dsimp only;refine e_ (wpAny_isSame_ref_self ?_);simp only[if_true];refine e_ (i5 ?_);dsimp only;refine ih (m+1) _ rfl ⋯ ⋯ ?_;intro m' H bi O G;by_cases a4:m'<n
     .exact B m' H a4 O G
     .by_cases a0:m'<m
      .obtain⟨e,b,C,_,_,Z⟩:=z.key G;exact q6 m' H ⋯ a0 O (by simp[C,Z])
      .have:m'=m:=by lia
       subst this;have a1:=jX _ _ _ W.rise q3;have a2:=jX _ _ _ W.rise O
       have:H=i:=by lia
       subst this;rw[al]at G;exact L (Option.some.inj G)
   cases be:t.led with
   |true =>
    simp only[ET,nw,if_false];exact as
   |false =>
    simp only[Bool.not_false,if_true];refine e_ (sJ hk ?_ ?_)
    .intro v hv;obtain⟨e,a5,rfl⟩:=mm.mp hv;have X:e∈r.toList:=by
      have:e∈r.filter (λx=>x.1==TH prog w k):=Array.mem_toList_iff.mp a5
      exact Array.mem_toList_iff.mpr (Array.mem_filter.mp this).1
     obtain⟨q,hq⟩:=vv.mp X;obtain⟨k2,b2,_,e2,h2,_⟩:=z.at' (i:=q) (e:=e) (by simpa using hq);exact⟨b2,k2,e2,h2⟩
    .simp only[nw,if_false];exact as
structure TTab(prog:Program)(w:World)(P:Addr->Prop)(h:Heap)(S:Addr)(led:Bool)(o:Obj)(es:Array (Int×Value))(ep:Nat)(t:SetTable)(ks:WP):Prop where
 get:h.get? S=J o
 ex:o.ExactSet
 data:o.data=.set es ep t
 dm:t.dummies=#[]
 mask:t.mask=7\/t.mask=31\/t.mask=127
 plain:t.plain=I
 led':t.led=led
 wf:WF t.mask t.place (es.map (·.1))
 ents:ja prog w P h es ks
def n5(t:SetTable)(n:Nat):Prop:=n*5<t.mask*3
def eK(prog:Program)(w:World)(P:Addr->Prop)(h:Heap)(S:Addr)(led:Bool)(f:WP):Prop :=
 ∃o i j t a,TTab prog w P h S led o i j t a/\n5 t i.size/\a.Perm f/\f.Nodup
def xm(h:M=7\/M=31\/M=127):ig M:=by
 rcases h with h|h | h<;>subst h
 .exact OH
 .exact Kv
 .exact Gy
def TTab.size{P:Addr->Prop}{h:Heap}{S:Addr}{led:Bool}{o:Obj}{a:Array (Int×Value)}{f:Nat}{t:SetTable}{i:WP}(x:TTab prog w P h S led o a f t i):t.place.size=a.size:=by have:=x.wf.size;simpa using this
def TTab.fits{P:Addr->Prop}{h:Heap}{S:Addr}{led:Bool}{o:Obj}{a:Array (Int×Value)}{f:Nat}{t:SetTable}{i:WP}(x:TTab prog w P h S led o a f t i)(j:a.size<=t.mask):t.fits a.size=I:=by
 unfold SetTable.fits SetTable.fill
 have:=x.size
 simp[this,x.dm];exact j
def TTab.odd{P:Addr->Prop}{h:Heap}{S:Addr}{led:Bool}{o:Obj}{i:Array (Int×Value)}{a:Nat}{t:SetTable}{f:WP}(x:TTab prog w P h S led o i a t f):t.gaveWay=T:=by unfold SetTable.gaveWay;rcases x.mask with h|h | h<;>rw[h]<;>rfl
def GD(z:Heap.SameBut S h h')(r:h.get? S=J o)(j:o.ExactSet)(x:TK prog w h k a):TK prog w h' k a:=by
 obtain⟨u,items,n,f,l,hd,y⟩:=x;have i:a≠S:=by rintro rfl;obtain rfl:=Option.some.inj (f.symm.trans r);rw[j.1]at l;exact absurd l (by simp)
 exact⟨u,items,n,(z.2 a i).trans f,l,hd,y⟩
def tP(r:Heap.SameBut S h h')(l:h.get? S=J o)(j:o.ExactSet)(x:ja prog w P h es ks):ja prog w P h' es ks :=
 ⟨x.1,λi e k a b=>let⟨c,d,f,g⟩:=x.2 i e k a b;⟨c,d,GD r l j f,g⟩⟩
def t8{h:Heap}{S:Addr}{o:Obj}{l a:Array (Int×Value)}{i:Nat}{t f:SetTable}(j:h.get? S=J o)(hd:o.data=.set l i t):
  (h.update S (Obj.putSet a f)).get? S=J { o with data:=.set a (i+1) f}:=by
 have:=Nk (Obj.putSet a f) j (by rw[putSet_of a f hd];rfl)
 rw[putSet_of a f hd]at this;exact this
def Be(x:ja prog w P h es ks)(f:Array Nat)(u:f.toList.Perm (List.range es.size)):
  ja prog w P h (f.filterMap (es[·]?)) (f.toList.filterMap (ks[·]?))/\(f.toList.filterMap (ks[·]?)).Perm ks:=by
 have r:∀i,i∈f.toList->i<es.size:=λi j=>by simpa using u.mem_iff.mp j
 have F:=λi j=>e8 es i (r i j);have C:∀i,i∈f.toList->∃v,ks[i]?=J v:=λi j=>⟨_,q_ (by rw[<-x.1];exact r i j)⟩;have e1:(f.filterMap (es[·]?)).toList=f.toList.filterMap (es[·]?):=by simp
 have z:(f.toList.filterMap (ks[·]?)).Perm ks:=by
  have a:=u.filterMap (ks[·]?);have b:(List.range es.size).filterMap (ks[·]?)=ks:=by
   have:=lI ks.toArray
   simp only[MC]at this;rw[x.1];exact this
  rw[b]at a;exact a
 have G:(f.toList.filterMap (es[·]?)).Perm es.toList:=by have a:=u.filterMap (es[·]?);rw[lI]at a;exact a
 refine⟨⟨?_,?_⟩,z⟩
 .rw[<-DB,e1,G.length_eq,z.length_eq,DB,x.1]
 .intro i e k l y;rw[<-y6,e1,fX _ _ F]at l;rw[fX _ _ C]at y
  cases B:f.toList[i]? with
  |none=>rw[B]at l;cases l
  |some q =>
   rw[B]at l y;exact x.2 q e k l y
def OK:SetTable.sizeAbove (SetTable.grown 5)=32:=by decide
def OL:SetTable.sizeAbove (SetTable.grown 19)=128:=by decide
def wF{P:Addr->Prop}{S:Addr}{led:Bool}{o:Obj}{l:Array (Int×Value)}{X:Nat}{t:SetTable}{L:WP}{f M:Nat}{Q:Unit->Shared->Prop}(a:TTab prog w P s.heap S led o l X t L)(z:l.size<=t.mask)(R:SetTable.sizeAbove f=M+1)(j:M=7\/M=31\/M=127)(r:l.size*5<M*3)(h:∀F o' y H U u,Heap.SameBut S s.heap F->TTab prog w P F S led o' y H U u->n5 U y.size->u.Perm L->Q () { s with heap:=F}):
  wpAny (model prog w) A (setRelay S f) Q E s:=by
 obtain⟨O,i,e1,w1,G,p1,W⟩:=GC M (xm j) (λe:Int×Value=>e.1) l ⋯ t.finger (t.movedTo M) t.led t.plain;have B:t.relaid (l.map (·.1)) f=J ({ mask:=M,place:=O,dummies:=#[],finger:=t.finger,led:=t.led,moves:=t.movedTo M,plain:=t.plain},i):=by unfold SetTable.relaid;rw[R];exact e1
 refine e_ (wpAny_setState_of a.get a.data (a.fits z) ?_);dsimp only;have C:¬SetTable.sizeAbove f>sizeLine:=by rw[R];rcases j with h|h | h<;>rw[h]<;>decide
 rw[f_ C,B];have hz:l.size<=sizeLine:=by rw[sizeLine_eq];rcases j with h|h | h<;>lia
 refine e_ (?_:wpAny _ _ (if((i.filterMap (l[·]?)).size != l.size)=I then _ else _) _ _ _);rw[f_ (by simp[G])];refine i5 ?_;refine wpAny_storeSet_of a.get a.data ?_ (by rw[G];exact hz);have sb:=Heap.SameBut.update s.heap S (Obj.putSet (i.filterMap (l[·]?)) { mask:=M,place:=O,dummies:=#[],finger:=t.finger,led:=t.led,moves:=t.movedTo M,plain:=t.plain});obtain⟨n1,Z⟩:=Be a.ents i W;refine h _ _ _ _ _ _ sb ⟨t8 a.get a.data,a.ex,rfl,rfl,j,a.plain,a.led',w1,tP sb a.get a.ex n1⟩ ?_ Z;rw[G];exact r
def Dj(x:ja prog w P h es ks)(y:p<=es.size)(F:TK prog w h k a)(B:P a):
  ja prog w P h (insertAt es p (TH prog w k,.ref a)) (ks.take p++k::ks.drop p):=by
 have G:=x.1;refine⟨?_,?_⟩
 .rw[d9 _ _ _ y];simp;lia
 .intro i e z j f;rw[c0 _ _ _ y]at j;by_cases r:i<p
  .rw[c_ r]at j;rw[q7 (by simp;lia),QB r]at f;exact x.2 i e z j f
  .rw[f_ r]at j;rw[Eb (by simp;lia)]at f;have l:(ks.take p).length=p:=by simp;lia
   rw[l]at f;by_cases u:i=p
   .rw[c_ u]at j
    have:i-p=0:=by lia
    rw[this]at f;simp at f;cases j;subst f;exact⟨a,rfl,F,rfl,B⟩
   .rw[f_ u]at j;obtain⟨q,C⟩:∃q,i-p=q+1:=⟨i-p-1,⋯⟩;rw[C,QD,QL]at f
    have:p+q=i-1:=by lia
    rw[this]at f;exact x.2 (i-1) e z j f
def Cz(p:Nat)(k:WN):(ks.take p++k::ks.drop p).Perm (ks++[k]):=by have a:(ks.take p++k::ks.drop p).Perm (k::(ks.take p++ks.drop p)):=H_;rw[EW]at a;exact a.trans (Qy k ks).symm
def Ky{P:Addr->Prop}{S a:Addr}{led:Bool}{C:WP}{k:WN}{Q:Bool->Shared->Prop}(hu:A.units<cLine)(f:eK prog w P s.heap S led C)(hk:TK prog w s.heap k a)(hP:P a)(a3:k∈C\/C.length<66)(h:∀b G,Heap.SameBut S s.heap G->eK prog w P G S led (if k∈C then C else C++[k])->Q b { s with heap:=G}):
  wpAny (model prog w) A (setAddHashed S (.ref a) (TH prog w k)) Q E s:=by
 obtain⟨o,z,ep,t,F,f,hr,W,a0⟩:=f;unfold n5 at hr;have X:z.size<=t.mask:=by rcases f.mask with e|e | e<;>rw[e]at hr ⊢<;>lia
 have hf:=f.fits X;have a6:t.place.size<=t.mask:=by rw[f.size];exact X
 obtain⟨l,a8,a2,Z⟩:=zf t.place f.wf.rise t.mask (xm f.mask) a6 (TH prog w k);have a5:t.mask<=127:=by rcases f.mask with e|e | e<;>lia
 have a7:z.size=C.length:=by rw[f.ents.1,W.length_eq]
 refine wpAny_holding ?_;refine e_ (wpAny_setState_of f.get f.data hf ?_);dsimp only;have a4:byScan (.ref a) z=T:=rfl;rw[a4];unfold setSearch;refine e_ (AL (n1:=l) (ks:=F) hu f.get f.data hf f.dm f.odd f.wf f.ents hk a2 Z (by unfold turns;lia) ?_ ?_ 100000 0 Y rfl (t0 _) ⋯ (λm i hm=>absurd hm (Nat.not_lt_zero m)))
 .intro R;have r:k∈C:=W.mem_iff.mp R;dsimp only;refine i5 ?_
  have:=h T s.heap (Heap.SameBut.refl _ _)
  rw[c_ r]at this;exact this ⟨o,z,ep,t,F,f,hr,W,a0⟩
 .intro R;have r:k∉C:=λx=>R (W.mem_iff.mpr x);have a9:C.length<66:=a3.resolve_left r;rw[f_ r]at h;dsimp only;refine e_ (wpAny_setState_of f.get f.data hf ?_);dsimp only;have ay:t.put (sl t.mask (TH prog w k) l)=({ t with place:=insertAt t.place (below t.place (sl t.mask (TH prog w k) l)) (sl t.mask (TH prog w k) l)},below t.place (sl t.mask (TH prog w k) l)):=by
   delta SetTable.put;simp only[f.dm,yE,nw,if_false]
  rw[ay];dsimp only;rw[c_ f.plain];refine e_ (lh hk ?_);simp only[if_true];have hp:=(fE t.place (sl t.mask (TH prog w k) l) f.wf.rise).1;have a1:below t.place (sl t.mask (TH prog w k) l)<=z.size:=by rw[<-f.size];exact hp
  have H:=d9 z (below t.place (sl t.mask (TH prog w k) l)) (TH prog w k,.ref a) a1;refine e_ (wpAny_storeSet_of f.get f.data ?_ (by rw[H,sizeLine_eq];lia))
  have sb:=Heap.SameBut.update s.heap S (Obj.putSet (insertAt z (below t.place (sl t.mask (TH prog w k) l)) (TH prog w k,.ref a))
   { t with place:=insertAt t.place (below t.place (sl t.mask (TH prog w k) l)) (sl t.mask (TH prog w k) l)})
  have T2:TTab prog w P (s.heap.update S (Obj.putSet (insertAt z (below t.place (sl t.mask (TH prog w k) l)) (TH prog w k,.ref a))
    { t with place:=insertAt t.place (below t.place (sl t.mask (TH prog w k) l)) (sl t.mask (TH prog w k) l)})) S led
    { o with data:=.set (insertAt z (below t.place (sl t.mask (TH prog w k) l)) (TH prog w k,.ref a)) (ep+1) { t with place:=insertAt t.place (below t.place (sl t.mask (TH prog w k) l)) (sl t.mask (TH prog w k) l)}}
    (insertAt z (below t.place (sl t.mask (TH prog w k) l)) (TH prog w k,.ref a)) (ep+1)
    { t with place:=insertAt t.place (below t.place (sl t.mask (TH prog w k) l)) (sl t.mask (TH prog w k) l)}
    (F.take (below t.place (sl t.mask (TH prog w k) l))++k::F.drop (below t.place (sl t.mask (TH prog w k) l))):=by
   refine⟨t8 f.get f.data,f.ex,rfl,f.dm,f.mask,f.plain,f.led',?_,tP sb f.get f.ex (Dj f.ents a1 hk hP)⟩;rw[wp];exact Kw t.mask t.place (z.map (·.1)) f.wf (TH prog w k) l a2 Z
  have O:(F.take (below t.place (sl t.mask (TH prog w k) l))++k::F.drop (below t.place (sl t.mask (TH prog w k) l))).Perm (C++[k]):=(Cz _ k).trans (W.append_right [k]);have L:(C++[k]).Nodup:=by
   rw[Fi];refine⟨a0,by simp,λx hx y hy=>?_⟩
   have:y=k:=by simpa using hy
   subst this;rintro rfl;exact r hx
  have U:({ t with place:=insertAt t.place (below t.place (sl t.mask (TH prog w k) l)) (sl t.mask (TH prog w k) l)}:SetTable).fill=z.size+1:=by unfold SetTable.fill;rw[d9 _ _ _ hp,f.size];simp[f.dm]
  by_cases j:({ t with place:=insertAt t.place (below t.place (sl t.mask (TH prog w k) l)) (sl t.mask (TH prog w k) l)}:SetTable).tooFull=I
  .have B:(z.size+1)*5>=t.mask*3:=by
    unfold SetTable.tooFull at j;rw[U]at j;simpa using j
   rw[c_ (by rw[j];rfl)];have an:(t.mask=7/\z.size=4)\/(t.mask=31/\z.size=18):=by rcases f.mask with e|e | e<;>rw[e]at hr B<;>lia
   refine e_ (wpAny_mono (Q:=λ_ s'=>∃G,s'={ s with heap:=G}/\Heap.SameBut S s.heap G/\eK prog w P G S led (C++[k])) ?_ (λu s' hq=>?_) λ_ _ x=>x)
   .rcases an with⟨c1,c2⟩|⟨c1,c2⟩
    .have e5:z.size+1=5:=by lia
     rw[e5];refine wF (M:=31) (s:={ s with heap:=_}) T2 (by rw[H];show z.size+1<=t.mask;lia) OK (.inr (.inl rfl)) (by rw[H];lia) λG o' as ax t' al ap T3 r3 p3=>?_;exact⟨G,rfl,sb.trans ap,o',as,ax,t',al,T3,r3,p3.trans O,L⟩
    .have e5:z.size+1=19:=by lia
     rw[e5];refine wF (M:=127) (s:={ s with heap:=_}) T2 (by rw[H];show z.size+1<=t.mask;lia) OL (.inr (.inr rfl)) (by rw[H];lia) λG o' as ax t' al ap T3 r3 p3=>?_;exact⟨G,rfl,sb.trans ap,o',as,ax,t',al,T3,r3,p3.trans O,L⟩
   .obtain⟨G,rfl,q1,q2⟩:=hq;exact i5 (h I G q1 q2)
  .have B:(z.size+1)*5<t.mask*3:=by
    unfold SetTable.tooFull at j;rw[U]at j;simpa using j
   rw[f_ (by simpa using j)];refine i5 (h I _ sb ⟨_,_,_,_,_,T2,?_,O,L⟩);delta n5;rw[H];exact B
end
end SetT
namespace SetT
open PySem.SetTable PyProof.Rows
def f6(a:WP)(k:WN):WP:=if k∈a then a else a++[k]
def m_(l:WP):WP:=l.foldl f6 []
def DX(l:WP)(k:WN):m_ (l++[k])=f6 (m_ l) k:=by delta m_;rw[List.foldl_append];rfl
def B7(a:WP)(k:WN):a.length<=(f6 a k).length:=by delta f6;split<;>simp
def B3(l:WP):∀a:WP,a.length<=(l.foldl f6 a).length:=by
 induction l with
 |nil=>intro a;exact i4 _
 |cons k l f=>intro a;exact ny (B7 a k) (f _)
def vN(l:WP)(i:Nat):(m_ (l.take i)).length<=(m_ l).length:=by
 have h:m_ l=(l.drop i).foldl f6 (m_ (l.take i)):=by delta m_;rw[<-List.foldl_append,EW]
 rw[h];exact B3 _ _
def uj{l:WP}{i:Nat}{k:WN}(h:l[i]?=J k):m_ (l.take (i+1))=f6 (m_ (l.take i)) k:=by rw[Er,h];exact DX _ _
def Aq(x:WN)(l:WP):∀f:WP,x∈l.foldl f6 f↔x∈f\/x∈l:=by
 induction l with
 |nil=>simp
 |cons k l j =>
  intro f;rw[R5,j];delta f6;split
  .rename_i h
   constructor
   .rintro (a|a)
    .exact .inl a
    .exact .inr (mw _ a)
   .rintro (a|a)
    .exact .inl a
    .rcases lb.mp a with rfl|i
     .exact .inl h
     .exact .inr i
  .constructor
   .rintro (a|a)
    .rcases ml.mp a with i|i
     .exact .inl i
     .simp_all
    .exact .inr (mw _ a)
   .rintro (a|a)
    .exact .inl (rT _ a)
    .rcases lb.mp a with rfl|i
     .exact .inl (n2 _ (by simp))
     .exact .inr i
def gA(x:WN)(l:WP):x∈m_ l↔x∈l:=by delta m_;rw[Aq];simp
section
variable{prog:Program}{w:World}{A:Around}{E:WA}{s:Shared}
abbrev PB(H0:Heap)(R:Addr->Prop):Addr->Prop:=λa=>(∃o,H0.get? a=J o)/\R a
def DZ(a h:Heap):Prop:=∀b o,a.get? b=J o->h.get? b=J o
def nC(x:DZ H0 h)(t:TK prog w H0 k a):TK prog w h k a:=by obtain⟨o,items,n,f,r⟩:=t;exact⟨o,items,n,x a o f,r⟩
def yr{j h B:Heap}{F:Addr->Prop}{S:Addr}{led:Bool}{C:WP}(f:eK prog w (PB j F) h S led C)(O:∀o,h.get? S=J o->B.get? S=J o)(x:DZ j h)(M:DZ j B):eK prog w (PB j F) B S led C:=by
 obtain⟨o,Q,H,t,z,f,r,p,n⟩:=f;refine⟨o,Q,H,t,z,⟨O o f.get,f.ex,f.data,f.dm,f.mask,f.plain,f.led',f.wf,f.ents.1,λi e k a b=>?_⟩,r,p,n⟩;obtain⟨c,d,⟨u,l,m,G,q⟩,g,⟨L,y⟩,P⟩:=f.ents.2 i e k a b;have e1:=Option.some.inj (G.symm.trans (x c L y));subst e1;exact⟨c,d,⟨u,l,m,M c u y,q⟩,g,⟨u,y⟩,P⟩
def E7(prog:Program)(w:World)(j:Heap)(items:Array Value)(f:WP):Prop :=
 items.size=f.length/\∀(i:Nat)(v:Value)(k:WN),items[i]?=J v->f[i]?=J k->∃a,v=.ref a/\TK prog w j k a
def zp{h:Heap}{S:Addr}{led:Bool}{P:Addr->Prop}{o:Obj}(l:h.get? S=J o)(j:o.ExactSet)(hd:o.data=.set #[] 0 (.fresh 0 0 led)):eK prog w P h S led []:=by
 refine⟨o,#[],0,.fresh 0 0 led,[],⟨l,j,hd,rfl,.inl rfl,rfl,rfl,⟨?_,?_,by simp[SetTable.fresh],?_⟩,rfl,?_⟩,?_,List.Perm.nil,R8⟩
 .intro a b u v _ f;simp[SetTable.fresh]at f
 .intro i v f;simp[SetTable.fresh]at f
 .intro i r v f;simp at f
 .intro i e k f;simp at f
 .show 0*5<7*3;decide
def wQ{RR:Addr->Prop}{R:Result->Shared->Prop}{B:Addr}{fp z:WS}{G:Array GenState->Array GenState->Prop}{n:Nat}{P:Nat->Value->Prop}{St:Nat->Shared->Prop}(hu:A.units+1<cLine)(W:WalksS prog w A.in1 B fp z G n P St)(S:Addr)(Z:S∉fp){H0:Heap}(ay:H0.get? S=Y)(a0:∀b∈z,H0.get? b=Y){led:Bool}(u:WP)(hn:u.length=n)(ap:∀i v k,P i v->u[i]?=J k->∃a,v=.ref a/\TK prog w H0 k a/\RR a)(a7:(m_ u).length<=66):
  ∀(c i:Nat)(s:Shared),n-i=c->i<=n->St i s->DZ H0 s.heap->eK prog w (PB H0 RR) s.heap S led (m_ (u.take i)) ->
   (∀f,Moved (S::z) G s f->DZ H0 f.heap->eK prog w (PB H0 RR) f.heap S led (m_ u)->R (.ok (.ret .none)) f) ->
   codeAny (model prog w) A (.builtin "set.update.loop" ⟨[.ref S,.ref B],[]⟩) R s:=by
 have al:S∉z:=λh=>Z (W.sub _ h);have y:∀b∈z,b∈S::z:=λb C=>mw _ C;have j:∀{s f:Shared},Moved z G s f->DZ H0 s.heap->DZ H0 f.heap:=λ{s f} r x b o e =>
  r.heap b o (λC=>by rw[a0 b C]at e;cases e) (x b o e)
 intro c
 induction c with
 |zero =>
  intro i s hc hi L O hT M;have e:i=n:=by lia
  subst e;refine codeAny_builtin F.entry_set_update_loop ?_;refine e_ (W.done s _ _ L λf r=>?_);rw[<-hn,Ia]at hT;exact i5 (M f (r.mono y) (j r O) (yr hT (λo e=>r.heap S o al e) O (j r O)))
 |succ c ih =>
  intro i s hc hi L O hT M;have as:i<n:=by lia
  refine codeAny_builtin F.entry_set_update_loop ?_;show wpAny _ A.in1 (pyNext (.ref B) >>= _) _ _ s;refine e_ (W.item i s _ _ as L λv f hP Q r=>?_);obtain⟨k,hk⟩:∃k,u[i]?=J k:=⟨_,q_ ⋯⟩;obtain⟨a,rfl,ha,hR⟩:=ap i v k hP hk;have H:=j r O;have a5:=yr hT (λo e=>r.heap S o al e) O H;have an:=nC H ha;show wpAny _ A.in1 (holding [Value.ref a] (setAdd S (.ref a)) >>= _) _ _ f;refine e_ (wpAny_holding ?_);unfold setAdd;refine wpAny_holding ?_;refine e_ (wpAny_pyHash_tuple (by show A.units+1<cLine;exact hu) an ?_);have l:=uj hk;refine Ky (s:={ f with toks:=f.toks+(k.length+1)}) (by show A.units+1<cLine;exact hu) a5 an ⟨let⟨o,_,_,ho,_⟩:=ha;⟨o,ho⟩,hR⟩ ?_ λb h' sb a6=>?_
  .have h1:=vN u (i+1);rw[l]at h1;unfold f6 at h1;by_cases U:k∈m_ (u.take i)
   .exact .inl U
   .rw[f_ U]at h1;simp at h1;exact .inr ⋯
  .have a3:DZ H0 h':=λq o e=>by
    have hq:q≠S:=by rintro rfl;rw[ay]at e;cases e
    exact(sb.2 q hq).trans (H q o e)
   have a1:eK prog w (PB H0 RR) h' S led (m_ (u.take (i+1))):=by rw[l];exact a6
   refine i5 ⟨plainId_quiet F.plain_set_update_loop _,ih (i+1) _ ⋯ as (W.frame _ f _ _ Q (Jm _ _) λb C o e=>?_) a3 a1 λa2 X ax a4=>?_⟩
   .exact (sb.2 b (λq:b=S=>Z (by rw[<-q];exact C))).trans e
   .refine M a2 (Moved.trans W.gtrans ((r.mono y).then_heap (Jm _ _) λb o C e=>?_) X) ax a4;exact(sb.2 b (λq:b=S=>C (by rw[q];exact xg))).trans e
abbrev i8(led:Bool):Obj:={ cls:=.type "set",dict:=Y,data:=.set #[] 0 (.fresh 0 0 led)}
abbrev cw(w:World):Bool:=!w.params.followText "set-order"
def Dw(a:Value)(h:Q₁ (.ref s.heap.objs.size) { s with heap:=s.heap.push (i8 (cw w))}):
  codeAny (model prog w) A (.call (.builtin "set.__new__") ⟨[.type "set",a],[]⟩) (wants Q₁ E) s:=by
 refine codeAny_of_tree ?_;refine e_ (wpAny_of_eq (PySem.F.newCall_set_1 a) (i5 ⟨plainId_quiet PySem.F.plain_set_new _,codeAny_builtin PySem.F.entry_set_new ?_⟩));unfold Builtin.«set.__new__» Builtin.Frozenset.newClass;have f:=sub_set_self
 wp_walk
 refine wpAny_askSetting (i5 ?_);dsimp only;simp only[newObj];exact e_ (wpAny_alloc (i5 (i5 h)))
set_option maxHeartbeats 3200000 in
theorem uq(hh:A.handled=Y)(hu:A.units+16<cLine)(hl:s.heap.IsList l items)(hk:E7 prog w s.heap items ks)(ax:(m_ ks).length<=66)(h:∀(u:Heap)(L:Nat),eK prog w (PB s.heap λa=>Value.ref a∈items.toList) u s.heap.objs.size (cw w) (m_ ks)->DZ s.heap u->s.toks<=L->Q (.ref s.heap.objs.size) { s with heap:=u,toks:=L}):
  wpAny (model prog w) A (call (.type "set") [.ref l]) Q E s:=by
 obtain⟨c,tl,a4⟩:=PySem.F.called_set.mro;have a2:=PySem.F.called_set.made;have a7:=PySem.F.called_set.sub;refine wpAny_call (codeAny_of_tree ?_);show wpAny _ _ (callAny (.type "set") _) _ _ _;refine i5 ⟨Code.quiet_builtin _ (by decide +kernel),codeAny_builtin PySem.F.entry_type_call ?_⟩;rw[Around.under_plain (weight_type_call_type "set" [.ref l] []) rfl];have h1:=PySem.F.called_set.notType;have h2:=PySem.F.called_set.canCreate;have a8:=PySem.F.typeCall_set_1 (.ref l)
 repeat (any_goals (first | assumption | wp_step))
 refine codeAny_mono (Dw (.ref l) (E:=E) (Q₁:=λobj B=>obj=.ref s.heap.objs.size/\B={ s with heap:=s.heap.push (i8 (cw w))}) ⟨rfl,rfl⟩) λr B hr=>?_
 cases r with
 |error e=>exact hr
 |ok fl =>
  cases fl with
  |ret obj =>
   obtain⟨rfl,rfl⟩:=hr;have hS:(s.heap.push (i8 (cw w))).get? s.heap.objs.size=J (i8 (cw w)):=rb _ rfl;have hT:Shared.TypeIs { s with heap:=s.heap.push (i8 (cw w))} (.ref s.heap.objs.size) "set":=⟨_,hS,rfl⟩;have bi:=PySem.F.called_set.init.lookup;have ba:=PySem.F.called_set.init.bind (.ref s.heap.objs.size)
   repeat (any_goals (first | assumption | wp_step))
   refine codeAny_mono (codeAny_call_builtin (R:=wants (λr z=>r=.none/\∃u L,z={ s with heap:=u,toks:=L} /\
     eK prog w (PB s.heap λa=>Value.ref a∈items.toList) u s.heap.objs.size (cw w) (m_ ks)/\DZ s.heap u/\s.toks<=L) E) PySem.F.called_set.init.plain PySem.F.entry_set_init (check_set_init_1 hT ?_)) λO z f=>?_
   .have be:=hl;obtain⟨ol,X,U,nl,al⟩:=hl;obtain⟨a3,C,as,y⟩:=ol;simp only at U al;subst U;subst al;have S:(s.heap.push (i8 (cw w))).get? l=J { cls:=.type "list",dict:=C,data:=.seq items nl,slots:=y}:=k_ _ X;have a6:=PySem.F.sub_list_set;have a5:=PySem.F.sub_list_frozenset;have a9:(Value.type "list" == Value.type "dict")=T:=by decide
    have P:(s.heap.push (i8 (cw w))).IsList l items:=⟨_,S,rfl,nl,rfl⟩;unfold Builtin.«set.__init__» noKeywords Builtin.Frozenset.updateFrom;generalize ap:pyIter=PI
    wp_walk
    subst ap;refine wpAny_pyIter_list P ?_;refine e_ (wpAny_runValue ?_);have M:l<s.heap.objs.size:=l_ X;have a0:A.in1.in1.in1.handled=Y:=by simp[hh]
    have F:(s.heap.push (i8 (cw w))).objs.size=s.heap.objs.size+1:=by rw[Ep]
    have Z:l≠(s.heap.push (i8 (cw w))).objs.size:=by rw[F];exact tt (ML M)
    have j:∀b,s.heap.objs.size<=b->s.heap.get? b=Y:=λb hb=>by
     cases e:s.heap.get? b with
     |none=>rfl
     |some o=>exact absurd (l_ e) (Nat.not_lt.mpr hb)
    have a1:s.heap.objs.size∉[(s.heap.push (i8 (cw w))).objs.size,l]:=by rw[F];simp only[lb,HZ,or_false,not_or];exact⟨tt (MQ _),DL M⟩
    refine wQ (RR:=λa=>Value.ref a∈items.toList) (H0:=s.heap) (led:=cw w) (by show A.units+1+1+1<cLine;lia) ((Walks.list a0 _ l Z items).toS) s.heap.objs.size a1 (j _ (i4 _)) ?_ ks hk.1.symm
     (λi v k hv an=>let⟨a,e,t⟩:=hk.2 i v k hv an;⟨a,e,t,by rw[<-e];exact vv.mpr ⟨i,by rw[y6];exact hv⟩⟩) ax (items.size-0) 0 _ ⋯ (t0 _) ⟨⟨_,rb _ rfl,rfl,rfl⟩,(P.push _)⟩ ?_ ?_ ?_
    .intro b hb
     have:b=(s.heap.push (i8 (cw w))).objs.size:=by simpa using hb
     rw[this,F];exact j _ (Ih _)
    .intro b o e;exact k_ _ (k_ _ e)
    .exact zp (o:=i8 (cw w)) (k_ _ hS) ⟨rfl,rfl,rfl⟩ rfl
    .intro s' hm hx H;obtain⟨u,g',d',W,ay⟩:=s';have eg:g'=s.gens:=hm.gens;have ed:d'=s.drawn:=hm.drawn;have eo:ay=s.os:=hm.os;have et:s.toks<=W:=hm.toks;subst eg;subst ed;subst eo;show wpAny _ _ _ _ _ _;refine i5 ?_;show wpAny _ _ (ret Value.none) _ _ _;exact i5 ⟨rfl,u,W,rfl,H,hx,et⟩
   .cases O with
    |error e=>exact f
    |ok G =>
     cases G with
     |ret r =>
      obtain⟨rfl,u,L,rfl,H,hx,et⟩:=f
      repeat (any_goals (first | assumption | wp_step))
      exact h _ _ H hx et
     |_=>exact f.elim
  |_=>exact hr.elim
end
def dO:Slot "set_iterator" "__next__" "set_iterator.__next__" :=
 .of (owner:="set_iterator") (n:="__next__") (by kernel_rfl) (by decide +kernel) (by decide +kernel) (by decide +kernel) (.inl (by decide +kernel)) (by kernel_rfl)
def nH:Slot "set_iterator" "__iter__" "set_iterator.__iter__" :=
 .of (owner:="set_iterator") (n:="__iter__") (by kernel_rfl) (by decide +kernel) (by decide +kernel) (by decide +kernel) (.inl (by decide +kernel)) (by kernel_rfl)
def mK:entryFor table "set_iterator.__next__"=J Builtin.«set_iterator.__next__»:=entryFor_of_fast (by kernel_rfl)
def ui:entryFor table "set_iterator.__iter__"=J Builtin.«dict_keyiterator.__iter__» :=
 entryFor_alias (id':="dict_keyiterator.__iter__") (by kernel_rfl) rfl (by decide +kernel) (by kernel_rfl)
def nA(a:Value):argsOk "set_iterator.__next__" ⟨[a],[]⟩:=by unfold argsOk;kernel_rfl
def vn(a:Value):argsOk "set_iterator.__iter__" ⟨[a],[]⟩:=by unfold argsOk;kernel_rfl
def vP:entryFor table "set.__iter__"=J Builtin.«frozenset.__iter__» :=
 entryFor_alias (id':="frozenset.__iter__") (by kernel_rfl) rfl (by decide +kernel) (by kernel_rfl)
def zq{α:Type}(l:List α)(i:Nat)(h:i<l.length):(l[i]::l.eraseIdx i).Perm l:=by
 rw[UD];have e:l.take i++l[i]::l.drop (i+1)=l:=by rw[UJ h,EW]
 exact H_.symm.trans (List.Perm.of_eq e)
def GF(next:Nat->Nat):∀(a k:Nat)(left:List α)(i:Array α),left.length<=a->(pickOrder.go next a k left i).toList.Perm (i.toList++left):=by
 intro a
 induction a with
 |zero =>
  intro k left i h
  have:left=[]:=Je.mp ⋯
  subst this;unfold pickOrder.go;simp
 |succ f y =>
  intro k left i h;unfold pickOrder.go
  cases left with
  |nil=>simp
  |cons x l =>
   have j:next k % (x::l).length<(x::l).length:=QQ _ (by simp)
   have u:=q_ j;rw[u];have z:((x::l).eraseIdx (next k % (x::l).length)).length<=f:=by rw[List.length_eraseIdx_of_lt j];lia
   refine(y (k+1) _ _ z).trans ?_;rw[Fx,En];refine List.Perm.append_left _ ?_;have r:=(zq _ _ j).symm;exact r.symm
def A1(next:Nat->Nat)(xs:Array α):(pickOrder next xs).toList.Perm xs.toList:=by
 unfold pickOrder
 have:=GF next xs.size 0 xs.toList #[] (by simp)
 simpa using this
def yK(xs:Array Nat)(f:f7 xs):below xs 0=0:=by
 obtain⟨i,a,_⟩:=fE xs 0 f;by_cases h:below xs 0=0
 .exact h
 .obtain⟨v,hv⟩:=e8 xs 0 ⋯
  have:=a 0 v hv ⋯
  lia
def Al(xs:Array Nat)(f:f7 xs)(i j:Nat)(h:xs[i]?=J j):below xs (j+1)=i+1:=by
 obtain⟨z,r,u⟩:=fE xs (j+1) f;by_cases y:below xs (j+1)<=i
 .have:=u i j h y;lia
 .by_cases l:i+1<below xs (j+1)
  .obtain⟨v,hv⟩:=e8 xs (i+1) ⋯;have a:=r (i+1) v hv l;have b:=f i (i+1) j v ⋯ h hv;lia
  .lia
section
variable{prog:Program}{w:World}{A:Around}{E:WA}{s:Shared}
def cO(w:World)(S:Addr)(f:Nat)(a:Array (Int×Value)):Array (Int×Value):=if w.params.followText "set-order" then pickOrder (w.params.setOrder S f) a else a
def kf(w:World)(S:Addr)(f:Nat)(a:Array (Int×Value)):(cO w S f a).toList.Perm a.toList:=by
 delta cO;split
 .exact A1 _ _
 .exact List.Perm.refl _
def OM(w:World)(j S:Addr)(o:Obj)(f:Array (Int×Value))(a:Nat)(t:SetTable)(i:Nat)(h:Heap):Prop :=
 h.get? S=J o/\∃slot:Nat,h.get? j=J { cls:=.type "set_iterator",dict:=Y,data:=.fields #[.int slot 0,.int i 0,.ref S,.int f.size 0,.int a 0],slots:=#[]} /\
  (w.params.followText "set-order"=T->below t.place slot=i)
end
section
variable{prog:Program}{w:World}{A:Around}{E:WA}{s:Shared}{S it:Addr}{o:Obj}{es:Array (Int × Value)}{ep:Nat}{t:SetTable}{ks:WP}
def sD(a:OM w it S o es ep t i s.heap):s.TypeIs (.ref it) "set_iterator":=let⟨_,_,h,_⟩:=a;⟨_,h,rfl⟩
def Wkd(prog:Program)(w:World)(S:Addr)(o:Obj)(es:Array (Int×Value))(ep:Nat)(t:SetTable):Prop :=
 o.ExactSet/\o.data=.set es ep t/\t.dummies=#[]/\t.plain=I/\t.led=cw w/\f7 t.place/\t.place.size=es.size/\es.size<=t.mask
def xK{i:Nat}{h:Heap}{slot:Nat}{Q:Option (Value×Nat)->Shared->Prop}(B:Wkd prog w S o es ep t)(M:s.heap.get? S=J o)(y:w.params.followText "set-order"=T->below t.place slot=i)(r:∀(x:Int×Value) a,(cO w S ep es)[i]?=J x->(w.params.followText "set-order"=T->below t.place a=i+1)->Q (J (x.2,a)) s)(l:(cO w S ep es)[i]?=Y->Q Y s):
  wpAny (model prog w) A (setNext S slot i ep) Q E s:=by
 obtain⟨T1,L,X,U,R,W,H,Z⟩:=B;have hf:t.fits es.size=I:=by unfold SetTable.fits SetTable.fill;simp[H,X];exact Z
 refine e_ (wpAny_setState_of M L hf ?_);unfold cO at r l
 cases f:w.params.followText "set-order" with
 |true =>
  rw[f]at r l;show wpAny _ _ (if w.params.followText "set-order"=I then _ else _) _ _ _;rw[f];simp only[bne_self_eq_false];refine e_ (e_ (wpAny_setState_of M L hf ?_));show wpAny _ _ (if w.params.followText "set-order"=I then _ else _) _ _ _;rw[f];refine e_ (wpAny_askSetting (i5 ?_));refine i5 ?_;show Q (((pickOrder (w.params.setOrder S ep) es)[i]?).map λe=>(e.2,slot)) s
  cases O:(pickOrder (w.params.setOrder S ep) es)[i]? with
  |none=>exact l O
  |some x=>exact r x slot O (λz=>nomatch z)
 |false =>
  rw[f]at r l;show wpAny _ _ (if w.params.followText "set-order"=I then _ else _) _ _ _;rw[f];have G:¬((!t.plain&&decide (es.size>1))=I):=by rw[U];simp
  refine(?_:wpAny _ _ (if(!t.plain&&decide (es.size>1))=I then _ else _) _ _ _);rw[f_ G];have u:¬((!t.led && !es.isEmpty)=I):=by rw[R];simp[f]
  refine e_ (?_:wpAny _ _ (if(!t.led && !es.isEmpty)=I then _ else _) _ _ _);rw[f_ u];refine i5 ?_;refine i5 ?_;have F:=y f;rw[F]
  cases C:es[i]? with
  |none=>exact l C
  |some x =>
   obtain⟨j,P⟩:=e8 t.place i (by rw[H];exact fQ C);rw[P];exact r x (j+1) C (λ_=>Al _ W i j P)
def Wkd.fits(a:Wkd prog w S o es ep t):t.fits es.size=I:=by obtain⟨z,l,j,r,y,u,f,i⟩:=a;unfold SetTable.fits SetTable.fill;simp[f,j];exact i
def wV{i:Nat}{x:Int×Value}{Q:WV->Shared->Prop}(f:Wkd prog w S o es ep t)(u:S≠it)(j:OM w it S o es ep t i s.heap)(G:(cO w S ep es)[i]?=J x)(O:∀z,OM w it S o es ep t (i+1) z->Heap.SameBut it s.heap z->Q (J x.2) { s with heap:=z}):wpAny (model prog w) A (pyNext (.ref it)) Q E s:=by
 have C:=sD j;obtain⟨y,slot,F,B⟩:=j;refine e_ (wpAny_attempt (wpAny_callSpecial?_slot C dO (wpAny_call_entry dO C mK ?_ (nA _))));refine e_ (i5 ?_);refine e_ (wpAny_fieldsOf F rfl ?_);refine e_ (wpAny_setEntries_of y f.2.1 f.fits ?_);rw[f_ (by simp)];refine e_ ?_;rw[z_,z_,z_];refine xK (h:=s.heap) f y B (λR a e1 e2=>?_) (λe1=>by rw[G]at e1;cases e1);rw[G]at e1;cases e1;refine e_ (wpAny_setField_rec F (by simp) λP M r=>?_);refine e_ (wpAny_setField_rec M (by simp) λH L l=>?_);refine i5 ⟨_,rfl,i5 (O H ⟨?_,a,?_,e2⟩ (r.trans l))⟩
 .rw[(r.trans l).2 S u];exact y
 .exact L
def zN{i:Nat}{Q:WV->Shared->Prop}(G:A.handled=Y)(f:Wkd prog w S o es ep t)(j:OM w it S o es ep t i s.heap)(C:(cO w S ep es)[i]?=Y)(F:∀y,Heap.ExtBut it s.heap y->Q Y { s with heap:=y}):wpAny (model prog w) A (pyNext (.ref it)) Q E s:=by
 have z:=sD j;obtain⟨u,slot,B,l⟩:=j;refine e_ (wpAny_attempt (wpAny_callSpecial?_slot (name:=Str.ofString "__next__") z dO (wpAny_call_entry dO z mK ?_ (nA _))));refine e_ (m:=slotArgs "__next__" 0 _) (i5 ?_);refine e_ (wpAny_fieldsOf B rfl ?_);refine e_ (wpAny_setEntries_of u f.2.1 f.fits ?_);rw[f_ (by simp)];refine e_ ?_;rw[z_,z_,z_];refine xK (h:=s.heap) f u l (λH r e1 e2=>by rw[C]at e1;cases e1) (λe1=>?_);refine e_ (wpAny_setField B rfl (by simp) ?_);refine e_ ?_;refine e_ (m:=firstArgMember _ _) (wpAny_of_eq (a:=Value.none) (by first | rfl | (simp only[firstArgMember])) ?_);refine wpAny_newObj_type ?_ (by size_fits);refine e_ (wpAny_handled ?_);rw[show A.in1.handled=Y from G];refine e_ (i5 (wpAny_throw ?_));refine e_ (wpAny_isInstance (T:="StopIteration") (b:=I) ⟨_,rb _ rfl,rfl⟩ isSubtype_stop ?_);exact i5 (F _ (((Heap.SameBut.update ..).extBut.push _).push _))
def AK(F:A.handled=Y)(r:S≠it)(j:Wkd prog w S o es ep t):
  Walks prog w A it [it,S] [it] es.size (λi v=>∃x,(cO w S ep es)[i]?=J x/\v=x.2) (λi h=>OM w it S o es ep t i h) where
 sub:=λb f=>by simp at f;simp[f]
 frame:=λ_ _ _ st B=>⟨B S (by simp) _ st.1,let⟨slot,a,b⟩:=st.2;⟨slot,B it (by simp) _ a,b⟩⟩
 item:=λi s Q E L st l=>by
  have H:(cO w S ep es).size=es.size:=by rw[<-DB,(kf w S ep es).length_eq,DB]
  obtain⟨x,C⟩:=e8 (cO w S ep es) i ⋯;exact wV j r st C λu z sb=>l _ u s.toks ⟨x,C,rfl⟩ z λb o f e=>sb.extBut b o (λh=>f (by simp[h])) e
 done:=λs Q E st l=>by
  have H:(cO w S ep es).size=es.size:=by rw[<-DB,(kf w S ep es).length_eq,DB]
  exact zN F j st (UI ⋯) λu G=>l u s.toks λb o f e=>G b o (λh=>f (by simp[h])) e
 self:=λ_ s Q E st l=>by
  have y:=sD st;refine wpAny_pyIter_slot y nH (wpAny_call_entry nH y ui ?_ (vn _));exact i5 ⟨_,rfl,"set_iterator",_,y,dO.lookup,l⟩
def yX(a:Wkd prog w S o es ep t)(f:s.heap.get? S=J o)(l:Q (.ref s.heap.objs.size) { s with heap:=s.heap.push { cls:=.type "set_iterator",data:=.fields #[.int 0 0,.int 0 0,.ref S,.int es.size 0,.int ep 0]}}):
  wpAny (model prog w) A (pyIter (.ref S)) Q E s:=by
 have j:s.TypeIs (.ref S) "set":=⟨o,f,a.1.1⟩;refine wpAny_pyIter_slot j PySem.F.slot_set_iter (wpAny_call_entry PySem.F.slot_set_iter j vP ?_ (PySem.F.args_set_iter_1 _));refine e_ (e_ (i5 (i5 ?_)));refine e_ (e_ (wpAny_setEntries_of f a.2.1 a.fits (i5 ?_)));refine e_ (e_ (wpAny_setState_of f a.2.1 a.fits ?_));refine e_ (e_ (wpAny_askSetting (i5 (i5 ?_))));have i:(!w.params.followText "set-order" && (!t.plain&&decide (es.size>1)))=T:=by rw[a.2.2.2.1];simp
 refine(?_:wpAny _ _ (if(!w.params.followText "set-order" && (!t.plain&&decide (es.size>1)))=I then _ else _) _ _ _);rw[f_ (by rw[i];simp)];refine e_ (i5 ?_);refine e_ (wpAny_setEpoch_of f a.2.1 a.fits ?_);exact e_ (wpAny_newObj_type (i5 ⟨_,rfl,"set_iterator",_,⟨_,rb _ rfl,rfl⟩,dO.lookup,l⟩))
end
section
variable{prog:Program}{w:World}{A:Around}{E:WA}{s:Shared}{S:Addr}{o:Obj}{es:Array (Int × Value)}{ep:Nat}{t:SetTable}
def DT(a:s.TypeIs (.ref S) "set")(f:Q T s):wpAny (model prog w) A (Builtin.List.listLengthHint (.ref S)) Q E s:=by refine e_ (wpAny_specialOf a PySem.F.slot_set_len.lookup ?_);dsimp only;refine e_ (wpAny_isInstance a sub_set_self ?_);refine e_ (wpAny_typeOf a ?_);exact i5 f
def wm(hh:A.handled=Y)(l:Wkd prog w S o es ep t)(ho:s.heap.get? S=J o)(hn:es.size<=sizeLine)(hQ:∀R tk,DZ s.heap R->s.heap.objs.size<R.objs.size->s.toks<=tk->Q ((cO w S ep es).toList.map (·.2)) { s with heap:=R,toks:=tk}):
  wpAny (model prog w) A (collect (.ref S)) Q E s:=by
 have a:S<s.heap.objs.size:=l_ ho;refine e_ (wpAny_runValue (codeAny_builtin PySem.F.entry_proto_collect ?_));refine e_ (wpAny_newObj_type ?_);refine i5 ⟨plainId_quiet PySem.F.plain_list_iadd _,codeAny_builtin PySem.F.entry_list_iadd ?_⟩;generalize hL:({ cls:=.type "list",data:=.seq ([]:WT).toArray}:Obj)=f;have F:(s.heap.push f).get? S=J o:=k_ _ ho;have an:(s.heap.push f).get? s.heap.objs.size=J f:=rb _ (by rw[<-hL];rfl);have r:(s.heap.push f).objs.size=s.heap.objs.size+1:=by rw[Ep]
 show wpAny _ A.in1 (Builtin.List.listExtendWith (.ref s.heap.objs.size) (.ref S) (.ref s.heap.objs.size)) _ _ { s with heap:=s.heap.push f};have al:Shared.TypeIs { s with heap:=s.heap.push f} (.ref S) "set":=⟨o,F,l.1.1⟩;refine e_ (wpAny_typeOf al ?_);have h1:Builtin.List.listSameRef (.ref s.heap.objs.size) (.ref S)=T:=by simp only[Builtin.List.listSameRef,beq_eq_false_iff_ne];exact DL a
 have h2:(Value.type "set" == Value.type "list")=T:=by decide
 have h3:(Value.type "set" == Value.type "tuple")=T:=by decide
 simp only[h1,h2,h3,Bool.or_false,nw,if_false];refine e_ (yX (s:={ s with heap:=s.heap.push f}) l F ?_);generalize hI:({ cls:=.type "set_iterator",data:=.fields #[.int 0 0,.int 0 0,.ref S,.int es.size 0,.int ep 0]}:Obj)=y;have O:((s.heap.push f).push y).get? S=J o:=k_ _ F;have U:((s.heap.push f).push y).get? s.heap.objs.size=J f:=k_ _ an;have ax:((s.heap.push f).push y).get? (s.heap.push f).objs.size=J y:=rb _ (by rw[<-hI];rfl);show wpAny _ A.in1 _ _ _ { s with heap:=(s.heap.push f).push y};have ap:Shared.TypeIs { s with heap:=(s.heap.push f).push y} (.ref S) "set":=⟨o,O,l.1.1⟩;refine e_ (wpAny_holding (DT ap ?_));rw[c_ (by decide +kernel)];refine e_ (wpAny_rule ?_);refine e_ ?_;show wpAny _ A.in1 (updateSeq s.heap.objs.size (·.push .none) >>= λ_=>updateSeq s.heap.objs.size (·.pop)) _ _ _;subst hL;refine e_ (wpAny_updateSeq U rfl ?_);have u:=Nk (Obj.mapSeq (·.push Value.none)) U rfl;refine wpAny_updateSeq u rfl ?_;have G:=Nk (Obj.mapSeq (·.pop)) u rfl;have Fd:∀b L,b≠s.heap.objs.size->((s.heap.push { cls:=.type "list",data:=.seq ([]:WT).toArray}).push y).get? b=J L ->
   ((((s.heap.push { cls:=.type "list",data:=.seq ([]:WT).toArray}).push y).update s.heap.objs.size (Obj.mapSeq (·.push Value.none))).update s.heap.objs.size (Obj.mapSeq (·.pop))).get? b=J L :=
  λb L H e=>(QE _ _ (Ne.symm H)).trans ((QE _ _ (Ne.symm H)).trans e)
 have B:s.heap.objs.size≠(s.heap.push { cls:=.type "list",data:=.seq ([]:WT).toArray}).objs.size:=by rw[r];exact tt (MQ _)
 have M:S≠(s.heap.push { cls:=.type "list",data:=.seq ([]:WT).toArray}).objs.size:=by rw[r];exact tt (ML a)
 have hW:=(AK (A:=A.in1) (it:=(s.heap.push { cls:=.type "list",data:=.seq ([]:WT).toArray}).objs.size) hh M l).toS;have Z:s.heap.objs.size∉[(s.heap.push { cls:=.type "list",data:=.seq ([]:WT).toArray}).objs.size,S]:=by simp only[lb,HZ,or_false,not_or];exact⟨B,DL a⟩
 refine i5 ⟨plainId_quiet PySem.F.plain_extend_loop _,codeAny_extend_loopS hW hn _ Z _ es.size 0 _ _ _ rfl (t0 _) ?_ G (ItemsOf.nil _) λs' z c' P W j=>?_⟩
 .refine⟨Fd S _ (tt a) O,0,?_,λ_=>yK _ l.2.2.2.2.2.1⟩;subst hI;exact Fd _ _ (Ne.symm B) ax
 .show wpAny _ A (load s.heap.objs.size >>= _) _ _ s';refine e_ (wpAny_load W ?_);refine i5 ?_;have C:z.toList=(cO w S ep es).toList.map (·.2):=by
   have hl:(cO w S ep es).size=es.size:=by rw[<-DB,(kf w S ep es).length_eq,DB]
   apply Fw;intro i;by_cases hi:i<es.size
   .obtain⟨v,hv⟩:=e8 z i (by rw[j.1];exact hi);obtain⟨x,hx,e⟩:=j.2 i v hv;rw[y6,hv,oe,y6,hx,e];rfl
   .rw[EF (by rw[DB,j.1];lia),EF (by rw[oF,DB,hl];lia)]
  rw[C];obtain⟨R,g',d',X,as⟩:=s';have eg:g'=s.gens:=P.gens;have ed:d'=s.drawn:=P.drawn;have eo:as=s.os:=P.os;have et:s.toks<=X:=P.toks;subst eg;subst ed;subst eo;refine hQ R X (λb L e=>?_) (l_ W) et;have H:b<s.heap.objs.size:=l_ e;refine P.heap b L ?_ (Fd b L (tt H) (k_ _ (k_ _ e)));simp only[lb,HZ,or_false,not_or];exact⟨tt H,by rw[r];exact tt (ML H)⟩
def w6(hh:A.handled=Y)(f:eK prog w (PB H0 R) s.heap S (cw w) ks)(hx:DZ H0 s.heap)(hQ:∀C M vs B,DZ s.heap C->s.heap.objs.size<C.objs.size->s.toks<=M->E7 prog w H0 (List.toArray vs) B->(∀v∈vs,∃a,v=.ref a/\R a)->B.Perm ks->Q vs { s with heap:=C,toks:=M}):
  wpAny (model prog w) A (collect (.ref S)) Q E s:=by
 obtain⟨o,es,ep,t,r,f,hr,al,an⟩:=f;unfold n5 at hr;have F:es.size<=t.mask:=by rcases f.mask with e|e | e<;>rw[e]at hr ⊢<;>lia
 have ap:t.mask<=127:=by rcases f.mask with e|e | e<;>lia
 refine wm hh ⟨f.ex,f.data,f.dm,f.plain,f.led',f.wf.rise,f.size,F⟩ f.get (by rw[sizeLine_eq];lia) λC M e1 e3 e2=>?_;have U:=kf w S ep es;have l:∀e∈es.toList,∃k a,e.2=.ref a/\TK prog w H0 k a/\R a:=by intro e y;obtain⟨i,j⟩:=vv.mp y;rw[y6]at j;obtain⟨k,u⟩:∃k,r[i]?=J k:=⟨_,q_ (by rw[<-f.ents.1];exact fQ j)⟩;obtain⟨c,d,⟨oc,W,m,P,q⟩,g,⟨Z,X⟩,hR⟩:=f.ents.2 i e k j u;have e3:oc=Z:=Option.some.inj (P.symm.trans (hx c Z X));subst e3;exact⟨k,c,d,⟨oc,W,m,X,q⟩,hR⟩
 let L:Int×Value->WN:=λe=>Classical.epsilon λk=>∃a,e.2=.ref a/\TK prog w H0 k a
 have G:∀e∈es.toList,∃a,e.2=.ref a/\TK prog w H0 (L e) a:=by intro e y;obtain⟨k,a,z,O,_⟩:=l e y;exact Classical.epsilon_spec (p:=λk=>∃a,e.2=.ref a/\TK prog w H0 k a) ⟨k,a,z,O⟩
 have H:es.toList.map L=r:=by
  apply Fw;intro i;rw[oe,y6]
  cases j:es[i]? with
  |none =>
   have:r.length<=i:=by
    rw[<-f.ents.1]
    have:=RF.mp j
    lia
   rw[EF this];rfl
  |some e =>
   obtain⟨k,u⟩:∃k,r[i]?=J k:=⟨_,q_ (by rw[<-f.ents.1];exact fQ j)⟩;obtain⟨c,d,P,g,⟨Z,X⟩,_⟩:=f.ents.2 i e k j u;have y:e∈es.toList:=vv.mpr ⟨i,by rw[y6];exact j⟩;obtain⟨a,z,O⟩:=G e y;rw[d]at z;cases z;have h3:=nC hx O;rw[u];show J (L e)=J k;rw[IsTupleKey.inj h3 P]
 refine hQ C M _ ((cO w S ep es).toList.map L) e1 e3 e2 ⟨by simp,?_⟩ ?_ ?_
 .intro i v k hv u;rw[MC,oe]at hv;rw[oe]at u
  cases j:(cO w S ep es).toList[i]? with
  |none=>rw[j]at hv;cases hv
  |some e =>
   rw[j]at hv u;cases hv;cases u;exact G e (U.mem_iff.mp (wj j))
 .intro v hv;obtain⟨e,y,rfl⟩:=mm.mp hv;obtain⟨k,a,z,_,h3⟩:=l e (U.mem_iff.mp y);exact⟨a,z,h3⟩
 .have:=U.map L
  rw[H]at this;exact this.trans al
end
end SetT
namespace SortT
open PyProof.Rows
structure t3(prog:Program)(w:World)(A:Around)(E:WA)(s:Shared)(kd:SortKind)(O:KeyOrd) where
 key:Keyed->O.α
 dflt:O.α
 good:Keyed->Prop
 ask:∀(x y:Keyed)(st:SortSt)(Q:Option Bool->SortSt->Prop),good x->good y->kindOf st=kd->Q (J (O.blt (key x) (key y))) st->wpS (model prog w) A E s (lt' x y) Q st
section
variable{prog:Program}{w:World}{A:Around}{E:WA}{s:Shared}{kd:SortKind}{O:KeyOrd}(C:t3 prog w A E s kd O)
def kk(xs:Array Keyed)(i:Nat):O.α:=match xs[i]? with
 |some p=>C.key p
 |none=>C.dflt
def qd(xs:Array Keyed)(lo a:Nat):Prop:=∀i j,lo<=i->i<=j->j<a->O.kle (kk C xs i) (kk C xs j)
def M4(xs:Array Keyed)(lo a:Nat):Prop:=∀i j,lo<=i->i<=j->j<a->O.kle (kk C xs j) (kk C xs i)
def dn(xs:Array Keyed):Prop:=∀p,p∈xs.toList->C.good p
structure SB(kd:SortKind)(a₀:Array Keyed)(st:SortSt):Prop where
 perm:(arrOf st).Perm a₀
 kind:kindOf st=kd
 failed:failedOf st=Y
def dz(lo:Nat)(xs ys:Array Keyed):Prop:=∀i,i<lo->ys[i]?=xs[i]?
def dz.rfl'{lo:Nat}{xs:Array Keyed}:dz lo xs xs:=λ_ _=>rfl
def dz.trans{lo:Nat}{xs ys a:Array Keyed}(h:dz lo xs ys)(g:dz lo ys a):dz lo xs a:=λi f=>(g i f).trans (h i f)
variable{C}{a₀:Array Keyed}{st:SortSt}
def SB.size(h:SB kd a₀ st):(arrOf st).size=a₀.size:=h.perm.size_eq
def SB.arr(h:SB kd a₀ st)(a:xs.Perm (arrOf st)):SB kd a₀ (setArr st xs):=⟨a.trans h.perm,h.kind,h.failed⟩
def SB.good(h:SB kd a₀ st)(f:dn C a₀):dn C (arrOf st):=λp a=>f p ((RG.mp h.perm).mem_iff.mp a)
def f8(h:xs[i]?=ys[j]?):kk C xs i=kk C ys j:=by delta kk;rw[h]
def aV(h:xs[i]?=J p):kk C xs i=C.key p:=by delta kk;rw[h]
def bP{xs:Array Keyed}(g:dn C xs){i:Nat}{p:Keyed}(h:xs[i]?=J p):C.good p:=by refine g p (vv.mpr ⟨i,?_⟩);rw[y6];exact h
def aW(a:i<xs.size)(h:∀p,xs[i]?=J p->Q p st):wpS (model prog w) A E s (elem' xs i) Q st:=by rw[elem'_eq];have e:=getElem?_pos xs i a;rw[e];exact wpS_pure (h _ e)
def nP{i j:Nat}{Q:Option Bool->SortSt->Prop}(a:SB kd a₀ st)(f:dn C a₀)(u:i<a₀.size)(z:j<a₀.size)(h:Q (J (O.blt (kk C (arrOf st) i) (kk C (arrOf st) j))) st):wpS (model prog w) A E s (ltAt' i j) Q st:=by
 refine wpS_bind (wpS_get ?_);refine wpS_bind (aW (by rw[a.size];exact u) λx l=>wpS_bind (aW (by rw[a.size];exact z) λy r=>?_));rw[aV l,aV r]at h;exact C.ask x y st Q (bP (a.good f) l) (bP (a.good f) r) a.kind h
def t9(j:src<xs.size)(hd:d<=src)(i:Nat):
  kk C (bubble xs src d) i=if i=src-d then kk C xs src else if src-d<i/\i<=src then kk C xs (i-1)else kk C xs i:=by
 have e:=getElem?_bubble j d hd i;split
 .next a=>rw[c_ a]at e;exact f8 e
 .next a =>
  rw[f_ a]at e;split
  .next f=>rw[c_ f]at e;exact f8 e
  .next f=>rw[f_ f]at e;exact f8 e
def mN(f:j<=xs.size)(q:Nat):
  kk C (mirror xs i j ((j-i)/2)) q=if i<=q/\q<j then kk C xs (i+j-1-q)else kk C xs q:=by
 have e:=getElem?_mirror_all (i:=i) f q;split
 .next a=>rw[c_ a]at e;exact f8 e
 .next a=>rw[f_ a]at e;exact f8 e
def eW(f:j<=xs.size)(a:∀q,i<=q->q<j->kk C xs q=kk C xs (j-1))(q:Nat):
  kk C (mirror xs i j ((j-i)/2)) q=kk C xs q:=by
 rw[mN f];split
 .next h=>rw[a (i+j-1-q) ⋯ ⋯,a q h.1 h.2]
 .rfl
def ip{xs:Array Keyed}{lo i j:Nat}(a:j<=xs.size)(h:lo<=i):dz lo xs (mirror xs i j ((j-i)/2)):=λq f=>by
 rw[getElem?_mirror_all a,f_ ⋯]
def wX{xs:Array Keyed}{lo a d:Nat}(f:a<xs.size)(hd:d<=a)(h:lo<=a-d):dz lo xs (bubble xs a d):=λq i=>by
 rw[getElem?_bubble f d hd,f_ ⋯,f_ ⋯]
abbrev AS:=Option (WD)×Nat
abbrev DS:=Option (WD)×Nat×Nat
def nJ(p a f:Nat):StateT SortSt Sem AS :=
 forIn [a:f] ((Y,a):AS) λ_ c=>do
  let q <-ltAt' (p+c.2) (p+c.2-1)
  match q with
  |some z=>if z=I then pure (ForInStep.done (Y,c.2))else pure (ForInStep.yield (Y,c.2+1))
  |_=>pure (ForInStep.done (J Y,c.2))
def Kz(p n a:Nat):StateT SortSt Sem (WD):=do
 reverseSlice' p (p+n)
 let c <-nJ p n a
 match c.1 with
 |some r=>pure r
 |none=>pure (J c.2)
def GG(p n a:Nat):StateT SortSt Sem DS :=
 forIn [n:a] ((Y,n,0):DS) λ_ c=>do
  let q <-ltAt' (p+c.2.1) (p+c.2.1-1)
  match q with
  |some z =>
   if z=I then
    if c.2.2>0 then do
     reverseSlice' (p+c.2.1-(c.2.2+1)) (p+c.2.1)
     pure (ForInStep.yield (Y,c.2.1+1,0))
    else pure (ForInStep.yield (Y,c.2.1+1,0))
   else do
    let q <-ltAt' (p+c.2.1-1) (p+c.2.1)
    match q with
    |some z=>if z=I then pure (ForInStep.done (Y,c.2.1,c.2.2))else pure (ForInStep.yield (Y,c.2.1+1,c.2.2+1))
    |_=>pure (ForInStep.done (J Y,c.2.1,c.2.2))
  |_=>pure (ForInStep.done (J Y,c.2.1,c.2.2))
def KA(p n a:Nat):StateT SortSt Sem (WD):=do
 liftM (rule "list.sort.descending-run")
 let c <-GG p (n+1) a
 match c.1 with
 |some r=>pure r
 |none =>
  if c.2.2>0 then do
   reverseSlice' (p+c.2.1-(c.2.2+1)) (p+c.2.1)
   Kz p c.2.1 a
  else Kz p c.2.1 a
def KC(p a:Nat):countRun' p a=(do
  let c <-nJ p 1 a
  match c.1 with
  |some r=>pure r
  |none =>
   if(c.2==a)=I then pure (J c.2)
   else if c.2>1 then do
    let q <-ltAt' p (p+c.2-1)
    match q with
    |some z=>if z=I then pure (J c.2)else do
      reverseSlice' p (p+c.2)
      KA p c.2 a
    |_=>pure Y
   else KA p c.2 a):=by
 refine congrArg (λg=>nJ p 1 a >>= g) (funext λc=>?_);obtain⟨r,n⟩:=c
 cases r with
 |some r=>rfl
 |none =>
  dsimp only;split
  .rfl
  .split
   .congr 1;funext x
    cases x with
    |none=>rfl
    |some z =>
     dsimp only;split
     .rfl
     .refine congrArg _ (funext λ_=>?_);refine congrArg _ (funext λ_=>?_);refine congrArg (λg=>GG p (n+1) a >>= g) (funext λy=>?_);obtain⟨l,j,B⟩:=y
      cases l with
      |some l=>rfl
      |none =>
       dsimp only;split
       .refine congrArg _ (funext λ_=>?_);refine congrArg _ (funext λ_=>?_);refine congrArg (λg=>nJ p j a >>= g) (funext λf=>?_);obtain⟨i,u⟩:=f;cases i<;>rfl
       .refine congrArg _ (funext λ_=>?_);refine congrArg (λg=>nJ p j a >>= g) (funext λf=>?_);obtain⟨i,u⟩:=f;cases i<;>rfl
   .refine congrArg _ (funext λ_=>?_);refine congrArg (λg=>GG p (n+1) a >>= g) (funext λy=>?_);obtain⟨l,j,B⟩:=y
    cases l with
    |some l=>rfl
    |none =>
     dsimp only;split
     .refine congrArg _ (funext λ_=>?_);refine congrArg _ (funext λ_=>?_);refine congrArg (λg=>nJ p j a >>= g) (funext λf=>?_);obtain⟨i,u⟩:=f;cases i<;>rfl
     .refine congrArg _ (funext λ_=>?_);refine congrArg (λg=>nJ p j a >>= g) (funext λf=>?_);obtain⟨i,u⟩:=f;cases i<;>rfl
def xM(H:dn C a₀)(S:p+nrem<=a₀.size)(R:1<=a)(G:a<=nrem)(L:SB kd a₀ st)(M:qd C (arrOf st) p (p+a))(h:∀n,a<=n->n<=nrem->qd C (arrOf st) p (p+n)->(n=nrem\/O.klt (kk C (arrOf st) (p+n)) (kk C (arrOf st) (p+n-1)))->Q (Y,n) st):
  wpS (model prog w) A E s (nJ p a nrem) Q st:=by
 refine wpS_forRange (I:=λx c f=>f=st/\c=(Y,x)/\qd C (arrOf st) p (p+x)) ?_ ?_ ⟨rfl,rfl,M⟩
 .rintro x c f F P ⟨rfl,rfl,u⟩;refine wpS_bind (nP L H ⋯ ⋯ ?_)
  cases z:O.blt (kk C (arrOf f) (p+x)) (kk C (arrOf f) (p+x-1)) with
  |true=>exact wpS_pure (h x F ⋯ u (.inr z))
  |false =>
   refine wpS_pure ⟨rfl,rfl,λi j B r U=>?_⟩;by_cases l:j<p+x
   .exact u i j B r l
   .have e:j=p+x:=by lia
    subst e;by_cases y:i=p+x
    .subst y;exact KeyOrd.kle_refl _
    .exact KeyOrd.kle_trans (u i (p+x-1) B ⋯ ⋯) z
 .simp_all
def oz(h:Q () (setArr st (mirror (arrOf st) i j ((j-i)/2)))):wpS (model prog w) A E s (reverseSlice' i j) Q st:=by exact wpS_modify h
def xN(H:dn C a₀)(F:p+nrem<=a₀.size)(B:1<=n)(r:n<=nrem)(u:SB kd a₀ st)(L:M4 C (arrOf st) p (p+n))(h:∀m a,SB kd a₀ a->dz p (arrOf st) (arrOf a)->pendingOf a=pendingOf st->1<=m->m<=nrem->qd C (arrOf a) p (p+m)->Q (J m) a):
  wpS (model prog w) A E s (Kz p n nrem) Q st:=by
 have f:p+n<=(arrOf st).size:=by rw[u.size];lia
 refine wpS_bind (oz ?_);have l:=u.arr (mirror_perm (arrOf st) p (p+n) ((p+n-p)/2));refine wpS_bind (xM H F B r l (λi j M y R=>?_) λm P G z _=>wpS_pure (h m _ l (ip f (i4 _)) rfl ⋯ G z));rw[mN f,mN f,c_ ⋯,c_ ⋯];exact L _ _ ⋯ ⋯ ⋯
def GH{p n l:Nat}{Q:DS->SortSt->Prop}(h0:dn C a₀)(hn:p+l<=a₀.size)(h1:1<=n)(W:n<=l)(hB:SB kd a₀ st)(hs:M4 C (arrOf st) p (p+n))(h:∀m q f,SB kd a₀ f->dz p (arrOf st) (arrOf f)->pendingOf f=pendingOf st->n<=m->m<=l->M4 C (arrOf f) p (p+m)->q+1<=m ->
   (∀i,p+m-(q+1)<=i->i<p+m->kk C (arrOf f) i=kk C (arrOf f) (p+m-1))->Q (Y,m,q) f):
  wpS (model prog w) A E s (GG p n l) Q st:=by
 refine wpS_forRange (I:=λx c f=>∃q,c=(Y,x,q)/\SB kd a₀ f/\dz p (arrOf st) (arrOf f)/\pendingOf f=pendingOf st/\M4 C (arrOf f) p (p+x)/\q+1<=x /\
   ∀i,p+x-(q+1)<=i->i<p+x->kk C (arrOf f) i=kk C (arrOf f) (p+x-1)) ?_ ?_ ⟨0,rfl,hB,dz.rfl',rfl,hs,⋯,λi a b=>by congr 1;lia⟩
 .rintro x c f R an ⟨q,rfl,r,y,u,hf,L,B⟩;have F:p+x<=(arrOf f).size:=by rw[r.size];lia
  have z:∀xs:Array Keyed,(∀i,kk C xs i=kk C (arrOf f) i)->O.kle (kk C (arrOf f) (p+x)) (kk C (arrOf f) (p+x-1))->M4 C xs p (p+(x+1)):=by
   intro xs hk S i j hi U hj;rw[hk,hk];by_cases P:j<p+x
   .exact hf i j hi U P
   .have e:j=p+x:=by lia
    subst e;by_cases al:i=p+x
    .subst al;exact KeyOrd.kle_refl _
    .exact KeyOrd.kle_trans S (hf i (p+x-1) hi ⋯ ⋯)
  dsimp only;refine wpS_bind (nP r h0 ⋯ ⋯ ?_)
  cases Z:O.blt (kk C (arrOf f) (p+x)) (kk C (arrOf f) (p+x-1)) with
  |true =>
   dsimp only;rw[c_ rfl];by_cases H:q>0
   .rw[c_ H];refine wpS_bind (oz (wpS_pure ⟨0,rfl,r.arr (mirror_perm _ _ _ _),y.trans (ip F ⋯),u,z _ (eW F B) (KeyOrd.kle_of_klt Z),⋯,λi a b=>by congr 1;lia⟩))
   .rw[f_ H];exact wpS_pure ⟨0,rfl,r,y,u,z _ (λ_=>rfl) (KeyOrd.kle_of_klt Z),⋯,λi a b=>by congr 1;lia⟩
  |false =>
   dsimp only;rw[f_ (by simp)];refine wpS_bind (nP r h0 ⋯ ⋯ ?_)
   cases G:O.blt (kk C (arrOf f) (p+x-1)) (kk C (arrOf f) (p+x)) with
   |true =>
    dsimp only;rw[c_ rfl];exact wpS_pure (h x q f r y u R ⋯ hf L B)
   |false =>
    dsimp only;rw[f_ (by simp)];have X:kk C (arrOf f) (p+x)=kk C (arrOf f) (p+x-1):=KeyOrd.kle_antisymm G Z;refine wpS_pure ⟨q+1,rfl,r,y,u,z _ (λ_=>rfl) G,⋯,λi a b=>?_⟩;have e1:p+(x+1)-1=p+x:=by lia
    rw[e1];by_cases M:i=p+x
    .subst M;rfl
    .rw[X];exact B i ⋯ ⋯
 .rintro c f ⟨q,rfl,r,y,u,hf,L,B⟩;have e:max n l=l:=by lia
  rw[e]at hf L B ⊢;exact h l q f r y u W (i4 _) hf L B
def vx{p n f:Nat}{Q:WD->SortSt->Prop}(U:dn C a₀)(R:p+f<=a₀.size)(M:n+1<=f)(hB:SB kd a₀ st)(hs:M4 C (arrOf st) p (p+(n+1)))(h:∀m a,SB kd a₀ a->dz p (arrOf st) (arrOf a)->pendingOf a=pendingOf st->1<=m->m<=f->qd C (arrOf a) p (p+m)->Q (J m) a):
  wpS (model prog w) A E s (KA p n f) Q st:=by
 refine wpS_bind (wpS_lift (wpAny_rule ⟨rfl,?_⟩));refine wpS_bind (GH U R ⋯ M hB hs λm q a r F z X y hf hq W=>?_);dsimp only;have l:p+m<=(arrOf a).size:=by rw[r.size];lia
 by_cases B:q>0
 .rw[c_ B];refine wpS_bind (oz (xN U R ⋯ y (r.arr (mirror_perm _ _ _ _)) ?_ λH u P S G=>h H u P ((F.trans (ip l ⋯)).trans S) (G.trans z)));intro i j Z L hj;rw[eW l W,eW l W];exact hf i j Z L hj
 .rw[f_ B];exact xN U R ⋯ y r hf λH u P S G=>h H u P (F.trans S) (G.trans z)
def yf(M:dn C a₀)(S:p+nrem<=a₀.size)(h1:1<=nrem)(y:SB kd a₀ st)(h:∀m f,SB kd a₀ f->dz p (arrOf st) (arrOf f)->pendingOf f=pendingOf st->1<=m->m<=nrem->qd C (arrOf f) p (p+m)->Q (J m) f):
  wpS (model prog w) A E s (countRun' p nrem) Q st:=by
 rw[KC];refine wpS_bind (xM M S (i4 1) h1 y (λi j L B hj=>by have e:i=j:=⋯;subst e;exact KeyOrd.kle_refl _) λn Z X l P=>?_);by_cases u:n=nrem
 .rw[c_ (by simpa using u)];exact wpS_pure (h n st y dz.rfl' rfl Z X l)
 .rw[f_ (by simpa using u)];have G:=P.resolve_left u;by_cases F:n>1
  .rw[c_ F];refine wpS_bind (nP y M ⋯ ⋯ ?_)
   cases hz:O.blt (kk C (arrOf st) p) (kk C (arrOf st) (p+n-1)) with
   |true =>
    dsimp only;exact wpS_pure (h n st y dz.rfl' rfl Z X l)
   |false =>
    dsimp only;have r:p+n<=(arrOf st).size:=by rw[y.size];lia
    have a:∀q,p<=q->q<p+n->kk C (arrOf st) q=kk C (arrOf st) (p+n-1):=λq H U =>
     KeyOrd.kle_antisymm (l q (p+n-1) H ⋯ ⋯) (KeyOrd.kle_trans hz (l p q (i4 _) H U))
    refine wpS_bind (oz (vx M S ⋯ (y.arr (mirror_perm _ _ _ _)) ?_ λm2 W H U b3=>h m2 W H ((ip r (i4 _)).trans U) b3));intro i j L B hj;rw[eW r a,eW r a];by_cases R:j<p+n
    .rw[a i L ⋯,a j ⋯ R];exact KeyOrd.kle_refl _
    .have e:j=p+n:=by lia
     subst e;by_cases z:i=p+n
     .subst z;exact KeyOrd.kle_refl _
     .rw[a i L ⋯];exact KeyOrd.kle_of_klt G
  .rw[f_ F];have e:n=1:=by lia
   subst e;refine vx M S ⋯ y ?_ h;intro i j L B hj;by_cases z:i=j
   .subst z;exact KeyOrd.kle_refl _
   .have e1:i=p:=by lia
    have e2:j=p+1:=by lia
    subst e1;subst e2;exact KeyOrd.kle_of_klt G
end
section
variable{prog:Program}{w:World}{A:Around}{E:WA}{s:Shared}{kd:SortKind}{O:KeyOrd}{C:t3 prog w A E s kd O}{a₀:Array Keyed}{st:SortSt}
def Va{l m r k x:Nat}(a:l<=m)(b:m<r)(h:r-l<=k-x):m-l<=k-(x+1):=by rw[R9];exact Nl (oy (Nat.sub_lt_sub_right a b) h)
def Vb{l m r k x:Nat}(a:l<=m)(h:r-l<=k-x):r-(m+1)<=k-(x+1):=by rw[R9,R9];exact Nat.sub_le_sub_right (ny (QI a r) h) 1
def Vc{l r k:Nat}(a:l<=r)(h:r-l<=k-max 0 k):l=r:=Nat.le_antisymm a (UK.1 (Nat.le_zero.1 (Nat.sub_eq_zero_of_le (Nat.le_max_right 0 k)▸h)))
def VY{l r:Nat}(h:¬l>=r):l<=(l+r)/2/\(l+r)/2<r:=by lia
def KD{l r:Nat}(h:¬l>=r):l<=l+(r-l)/2/\l+(r-l)/2<r:=by lia
def xW(h0:dn C a₀)(hn:p+n<=a₀.size)(hok:ok<=n)(hB:SB kd a₀ st)(hs:qd C (arrOf st) p (p+ok))(h:∀f,SB kd a₀ f->dz p (arrOf st) (arrOf f)->pendingOf f=pendingOf st->qd C (arrOf f) p (p+n)->Q I f):wpS (model prog w) A E s (binarySort' p n ok) Q st:=by
 rw[binarySort'_eq]
 refine wpS_bind (wpS_mono (wpS_forRange (I:=λk c f=>c=(Y,())/\SB kd a₀ f/\dz p (arrOf st) (arrOf f)/\pendingOf f=pendingOf st/\qd C (arrOf f) p (p+min k n))
  (Q:=λc f=>c=(Y,())/\SB kd a₀ f/\dz p (arrOf st) (arrOf f)/\pendingOf f=pendingOf st/\qd C (arrOf f) p (p+n)) ?_ ?_ ?_) ?_)
 .rintro k c f an al ⟨rfl,z,L,H,y⟩;have ek:min k n=k:=by lia
  rw[ek]at y
  refine wpS_bind (wpS_mono (wpS_forRange (I:=λx c u=>u=f/\∃l r,c=(Y,l,r)/\l<=r/\r<=k/\r-l<=k-x /\
    (∀i,p<=i->i<p+l->O.kle (kk C (arrOf f) i) (kk C (arrOf f) (p+k)))/\∀i,p+r<=i->i<p+k->O.klt (kk C (arrOf f) (p+k)) (kk C (arrOf f) i))
   (Q:=λc u=>u=f/\∃l r,c=(Y,l,r)/\l<=k /\
    (∀i,p<=i->i<p+l->O.kle (kk C (arrOf f) i) (kk C (arrOf f) (p+k)))/\∀i,p+l<=i->i<p+k->O.klt (kk C (arrOf f) (p+k)) (kk C (arrOf f) i)) ?_ ?_ ?_) ?_)
  .rintro x c u _ hx ⟨rfl,l,r,rfl,S,G,U,F,B⟩;by_cases M:l>=r
   .rw[c_ M];have e:l=r:=by lia
    subst e;exact wpS_pure ⟨rfl,l,l,rfl,G,F,B⟩
   .rw[f_ M];have⟨m1,X⟩:=VY M;have m3:=oy X G;dsimp only;generalize (l+r)/2=m at *;refine wpS_bind (nP z h0 ⋯ ⋯ ?_)
    cases hz:O.blt (kk C (arrOf u) (p+k)) (kk C (arrOf u) (p+m)) with
    |true =>
     simp only[if_true];exact wpS_pure ⟨rfl,l,m,rfl,m1,wr m3,Va m1 X U,F,λi a b=>KeyOrd.klt_of_klt_of_kle hz (y _ _ (Jm ..) a b)⟩
    |false =>
     simp only[nw,if_false];exact wpS_pure ⟨rfl,m+1,r,rfl,X,G,Vb m1 U,λi a b=>KeyOrd.kle_trans (y i (p+m) a (HW b) (QJ m3 p)) hz,B⟩
  .rintro c u ⟨rfl,l,r,rfl,S,G,U,F,B⟩;have e:=Vc S U;subst e;exact⟨rfl,l,l,rfl,G,F,B⟩
  .exact⟨rfl,0,k,rfl,⋯,⋯,⋯,λi a b=>by lia,λi a b=>by lia⟩
  .rintro c u ⟨rfl,l,r,rfl,W,F,B⟩;dsimp only;rw[moveDown'_eq];have P:p+k<(arrOf u).size:=by rw[z.size];lia
   have ed:p+k-(p+l)=k-l:=Nat.add_sub_add_left _ _ _;have Z:k-l<=p+k:=ny (Fk _ _) (Nat.le_add_left _ _);have e2:p+k-(k-l)=p+l:=by rw[Nat.add_sub_assoc (Fk _ _),Nu W]
   rw[ed];refine wpS_bind (wpS_modify (wpS_pure ⟨rfl,z.arr (bubble_perm _ _ _),L.trans (wX P Z (e2▸Jm _ _)),H,?_⟩));have e1:min (k+1) n=k+1:=by lia
   rw[e1];intro i j hi R hj;show O.kle (kk C (bubble (arrOf u) (p+k) (k-l)) i) (kk C (bubble (arrOf u) (p+k) (k-l)) j);rw[t9 P Z,t9 P Z,e2]
   repeat' split
   all_goals first
    |(exfalso;lia)
    |exact KeyOrd.kle_refl _
    |exact F _ ⋯ ⋯
    |exact KeyOrd.kle_of_klt (B _ ⋯ ⋯)
    |exact y _ _ ⋯ ⋯ ⋯
 .rintro c f ⟨hc,z,L,H,y⟩;refine⟨hc,z,L,H,?_⟩;have e:min (max (max ok 1) n) n=n:=RZ (Nat.le_max_right ..)
  rwa [e]at y
 .refine⟨rfl,hB,dz.rfl',rfl,λi j hi R hj=>?_⟩;by_cases h1:ok=0
  .have e:i=j:=by lia
   subst e;exact KeyOrd.kle_refl _
  .exact hs i j hi R ⋯
 .rintro c f ⟨rfl,z,L,H,y⟩;exact wpS_pure (h f z L H y)
def gallop':Bool->Keyed->Array Keyed->Nat->Nat->Nat->StateT SortSt Sem (WD):=sortPriv% PySem.Builtin.gallop
def sI(left:Bool)(key:Keyed)(arr:Array Keyed)(base i:Nat):StateT SortSt Sem (Option Bool):=do
 let x <-elem' arr (base+i)
 if left then lt' x key else return (<-lt' key x).map (!·)
def Ae(left:Bool)(key:Keyed)(arr:Array Keyed)(base n a:Nat):gallop' left key arr base n a=(do
  let mut la:=0
  let mut of:=1
  let mut lo:=0
  let mut hi:=0
  let J rt <-sI left key arr base a|return Y
  if rt then
   let f:=n-a
   for _ in [0:n] do
    if of>=f then break
    let J q <-sI left key arr base (a+of)|return Y
    if !q then break
    la:=of
    of:=2*of+1
   lo:=a+la+1
   hi:=a+min of f
  else
   let f:=a+1
   for _ in [0:n] do
    if of>=f then break
    let J q <-sI left key arr base (a-of)|return Y
    if q then break
    la:=of
    of:=2*of+1
   lo:=a+1-min of f
   hi:=a-la
  for _ in [0:n] do
   if lo>=hi then break
   let m:=lo+(hi-lo)/2
   let J q <-sI left key arr base m|return Y
   if q then lo:=m+1 else hi:=m
  return J hi):=rfl
def iu(C:t3 prog w A E s kd O)(left:Bool)(key:Keyed)(arr:Array Keyed)(i:Nat):Bool:=if left then O.blt (kk C arr i) (C.key key)else !O.blt (C.key key) (kk C arr i)
def oA(l:kindOf st=kd)(j:dn C arr)(a:C.good key)(r:base+i<arr.size)(h:Q (J (iu C left key arr (base+i))) st):wpS (model prog w) A E s (sI left key arr base i) Q st:=by
 refine wpS_bind (aW r λx f=>?_);unfold iu at h;rw[aV f]at h
 cases left with
 |true =>
  exact C.ask x key st Q (bP j f) a l h
 |false =>
  exact wpS_bind (C.ask key x st _ a (bP j f) l (wpS_pure h))
def ON(left:Bool)(key:Keyed)(arr:Array Keyed)(base n lo a:Nat):StateT SortSt Sem DS :=
 forIn [:n] ((Y,lo,a):DS) λ_ c =>
  if c.2.1>=c.2.2 then pure (ForInStep.done (Y,c.2.1,c.2.2))
  else do
   let q <-sI left key arr base (c.2.1+(c.2.2-c.2.1)/2)
   match q with
   |some q=>if q=I then pure (ForInStep.yield (Y,c.2.1+(c.2.2-c.2.1)/2+1,c.2.2))else pure (ForInStep.yield (Y,c.2.1,c.2.1+(c.2.2-c.2.1)/2))
   |_=>pure (ForInStep.done (J Y,c.2.1,c.2.2))
section
variable{left:Bool}{key:Keyed}{arr:Array Keyed}{base n:Nat}
def jg(r:base+n<=arr.size)(l:qd C arr base (base+n)):∀i j,i<=j->j<n->iu C left key arr (base+j)=I->iu C left key arr (base+i)=I:=by
 intro i j f u;have a:=l (base+i) (base+j) ⋯ ⋯ ⋯;delta iu
 cases left with
 |true=>exact λq=>KeyOrd.klt_of_kle_of_klt a q
 |false =>
  simp only[nw,if_false,Fj];exact λq=>KeyOrd.kle_trans a q
def lQ(r:base+n<=arr.size)(y:qd C arr base (base+n)):∀i j,i<=j->j<n->iu C left key arr (base+i)=T->iu C left key arr (base+j)=T:=by
 intro i j a u l
 cases f:iu C left key arr (base+j) with
 |false=>rfl
 |true=>rw[jg r y i j a u f]at l;cases l
def wN{lo hi:Nat}{Q:DS->SortSt->Prop}(hk:kindOf st=kd)(Z:dn C arr)(y:C.good key)(P:base+n<=arr.size)(W:qd C arr base (base+n))(H:lo<=hi)(R:hi<=n)(h1:∀i,i<lo->iu C left key arr (base+i)=I)(X:∀i,hi<=i->i<n->iu C left key arr (base+i)=T)(h:∀k,k<=n->(∀i,i<k->iu C left key arr (base+i)=I)->(∀i,k<=i->i<n->iu C left key arr (base+i)=T)->Q (Y,k,k) st):
  wpS (model prog w) A E s (ON left key arr base n lo hi) Q st:=by
 refine wpS_forRange (I:=λx c u=>u=st/\∃l r,c=(Y,l,r)/\l<=r/\r<=n/\r-l<=n-x/\(∀i,i<l->iu C left key arr (base+i)=I)/\∀i,r<=i->i<n->iu C left key arr (base+i)=T)
  ?_ ?_ ⟨rfl,lo,hi,rfl,H,R,⋯,h1,X⟩
 .rintro x c u _ hx ⟨rfl,l,r,rfl,z,f,B,G,F⟩;by_cases j:l>=r
  .rw[c_ j];have e:l=r:=by lia
   subst e;exact wpS_pure (h l f G F)
  .rw[f_ j];have⟨S,L⟩:=KD j;have M:=oy L f;dsimp only;generalize l+(r-l)/2=m at *;refine wpS_bind (oA hk Z y (oy (QJ M _) P) ?_)
   cases U:iu C left key arr (base+m) with
   |true =>
    simp only[if_true];exact wpS_pure ⟨rfl,_,_,rfl,L,f,Vb S B,λi hi=>jg P W i m (HW hi) M U,F⟩
   |false =>
    simp only[nw,if_false];exact wpS_pure ⟨rfl,_,_,rfl,S,wr M,Va S L B,G,λi a b=>lQ P W m i a b U⟩
 .rintro c u ⟨rfl,l,r,rfl,z,f,B,G,F⟩;have e:=Vc z B;subst e;exact h l f G F
def Re{x of:Nat}(h:x+1<=of):of<2*of+1/\x+1+1<=2*of+1:=by lia
def Vd{f of h n:Nat}(a:f<of)(b:h+f<n):h+f+1<=h+min of (n-h)/\h+min of (n-h)<=n :=
 ⟨Nat.add_le_add_left (Nat.le_min.2 ⟨a,UN b⟩) h,ny (Nat.add_le_add_left (Nat.min_le_right ..) h) (Sa (HV (wr (QM (Jm ..) b))))⟩
def M5{f of h:Nat}(a:f<of)(b:f<=h):h+1-min of (h+1)<=h-f :=
 Nat.add_sub_add_right h 1 f▸QI (Nat.le_min.2 ⟨a,Jl b⟩) (h+1)
def fu{f:Nat}{Q:WD->SortSt->Prop}(U:kindOf st=kd)(P:dn C arr)(u:C.good key)(G:base+n<=arr.size)(S:f<n)(L:qd C arr base (base+n))(h:∀k,k<=n->(∀i,i<k->iu C left key arr (base+i)=I)->(∀i,k<=i->i<n->iu C left key arr (base+i)=T)->Q (J k) st):
  wpS (model prog w) A E s (gallop' left key arr base n f) Q st:=by
 rw[Ae];refine wpS_bind (oA U P u ⋯ ?_)
 cases hz:iu C left key arr (base+f) with
 |true =>
  refine wpS_bind (wpS_mono (wpS_forRange (I:=λx c l=>l=st/\∃j of,c=(Y,j,of)/\j<of/\x+1<=of/\f+j<n/\iu C left key arr (base+(f+j))=I)
   (Q:=λc l=>l=st/\∃j of,c=(Y,j,of)/\j<of/\f+j<n/\iu C left key arr (base+(f+j))=I/\(n-f<=of\/of<n-f/\iu C left key arr (base+(f+of))=T)) ?_ ?_
    ⟨rfl,0,1,rfl,⋯,⋯,S,hz⟩) ?_)
  .rintro x c l _ hx ⟨rfl,j,of,rfl,z,H,y,B⟩;dsimp only;by_cases r:of>=n-f
   .rw[c_ r];exact wpS_pure ⟨rfl,j,of,rfl,z,y,B,.inl r⟩
   .rw[f_ r];have R:=Nat.add_lt_of_lt_sub' (R0 r);have⟨Z,o2⟩:=Re H;refine wpS_bind (oA U P u (oy (QJ R _) G) ?_)
    cases W:iu C left key arr (base+(f+of)) with
    |true =>
     simp only[ET,nw,if_false];exact wpS_pure ⟨rfl,_,_,rfl,Z,o2,R,W⟩
    |false =>
     simp only[Bool.not_false,if_true];exact wpS_pure ⟨rfl,j,of,rfl,z,y,B,.inr ⟨R0 r,W⟩⟩
  .rintro c l ⟨rfl,j,of,rfl,z,H,y,B⟩;exact⟨rfl,j,of,rfl,z,y,B,.inl (ny (Fk ..) (MN H))⟩
  .rintro c l ⟨rfl,j,of,rfl,z,y,B,F⟩;dsimp only;refine wpS_bind (wN (lo:=f+j+1) (hi:=f+min of (n-f)) U P u G L (Vd z y).1 (Vd z y).2 (λi M=>jg G L i (f+j) (HW M) y B) (λi a b=>?_) λk a b c=>wpS_pure (h k a b c));rcases F with F|⟨F,X⟩
   .rw[RZ F]at a;lia
   .rw[MU (wr F)]at a;exact lQ G L (f+of) i a b X
 |false =>
  simp only[nw,if_false]
  refine wpS_bind (wpS_mono (wpS_forRange (I:=λx c l=>l=st/\∃j of,c=(Y,j,of)/\j<of/\x+1<=of/\j<=f/\iu C left key arr (base+(f-j))=T)
   (Q:=λc l=>l=st/\∃j of,c=(Y,j,of)/\j<of/\j<=f/\iu C left key arr (base+(f-j))=T/\(f+1<=of\/of<f+1/\iu C left key arr (base+(f-of))=I)) ?_ ?_
    ⟨rfl,0,1,rfl,⋯,⋯,⋯,hz⟩) ?_)
  .rintro x c l _ hx ⟨rfl,j,of,rfl,z,H,y,B⟩;dsimp only;by_cases r:of>=f+1
   .rw[c_ r];exact wpS_pure ⟨rfl,j,of,rfl,z,y,B,.inl r⟩
   .rw[f_ r];have⟨Z,o2⟩:=Re H;have R:=R0 r;refine wpS_bind (oA U P u (oy (QJ (QM (Fk ..) S) _) G) ?_)
    cases W:iu C left key arr (base+(f-of)) with
    |true =>
     simp only[if_true];exact wpS_pure ⟨rfl,j,of,rfl,z,y,B,.inr ⟨R,W⟩⟩
    |false =>
     simp only[nw,if_false];exact wpS_pure ⟨rfl,_,_,rfl,Z,o2,HW R,W⟩
  .rintro c l ⟨rfl,j,of,rfl,z,H,y,B⟩;exact⟨rfl,j,of,rfl,z,y,B,.inl (ny (Jl (wr S)) H)⟩
  .rintro c l ⟨rfl,j,of,rfl,z,y,B,F⟩;dsimp only;refine wpS_bind (wN (lo:=f+1-min of (f+1)) (hi:=f-j) U P u G L (M5 z y) (ny (Fk ..) (wr S)) (λi M=>?_) (λi a b=>lQ G L (f-j) i a b B) λk a b c=>wpS_pure (h k a b c));rcases F with F|⟨F,X⟩
   .rw[RZ F,Nat.sub_self]at M
    nomatch M
   .rw[MU (wr F),Nat.succ_sub (HW F)]at M;exact jg G L i (f-of) (HW M) (QM (Fk ..) S) X
end
end
def pA:Array Keyed->Array Keyed->StateT SortSt Sem (Array Keyed):=sortPriv% PySem.Builtin.mergeLo
def GJ:Nat->StateT SortSt Sem Unit:=sortPriv% PySem.Builtin.setMinGallop
section
variable{prog:Program}{w:World}{A:Around}{E:WA}{s:Shared}{kd:SortKind}{O:KeyOrd}(C:t3 prog w A E s kd O)
def LS(l:List Keyed):Prop:=l.Pairwise λx y=>O.kle (C.key x) (C.key y)
def LB(l m:List Keyed):Prop:=∀x∈l,∀y∈m,O.kle (C.key x) (C.key y)
variable{C}
def cU(i:LS C l)(f:LS C m)(a:LB C l m):LS C (l++m):=by delta LS;rw[QF];exact⟨i,f,a⟩
def qF{xs:Array Keyed}{lo hi:Nat}(y:hi<=xs.size)(h:qd C xs lo hi):LS C (xs.extract lo hi).toList:=by
 delta LS;rw[HR];intro i j u a l;have r:(xs.extract lo hi).size=hi-lo:=by simp;lia
 have f:j<(xs.extract lo hi).size:=by exact a
 have e1:(xs.extract lo hi).toList[i]=xs[lo+i]'⋯:=by simp
 have e2:(xs.extract lo hi).toList[j]=xs[lo+j]'⋯:=by simp
 rw[e1,e2]
 have:=h (lo+i) (lo+j) ⋯ ⋯ ⋯
 rw[aV (getElem?_pos xs (lo+i) ⋯),aV (getElem?_pos xs (lo+j) ⋯)]at this;exact this
def nL(h:LS C xs.toList):qd C xs 0 xs.size:=by
 intro i j _ f a;rw[aV (getElem?_pos xs i ⋯),aV (getElem?_pos xs j a)];by_cases e:i=j
 .subst e;exact KeyOrd.kle_refl _
 .unfold LS at h;rw[HR]at h
  have:=h i j (by simp;lia) (by simpa using a) ⋯
  simpa using this
structure MI(C:t3 prog w A E s kd O)(a b ou:Array Keyed)(i j:Nat):Prop where
 perm:(ou.toList++(a.toList.drop i++b.toList.drop j)).Perm (a.toList++b.toList)
 srt:LS C ou.toList
 low:LB C ou.toList (a.toList.drop i++b.toList.drop j)
variable{a b ou:Array Keyed}{i j:Nat}
def MI.size(m:MI C a b ou i j)(l:i<=a.size)(f:j<=b.size):ou.size+(a.size-i)+(b.size-j)=a.size+b.size:=by
 have:=m.perm.length_eq
 simp at this;lia
def lq{xs:Array Keyed}{i:Nat}{p:Keyed}(h:xs[i]?=J p):xs.toList.drop i=p::xs.toList.drop (i+1):=by
 have f:i<xs.toList.length:=by
  have:=(Ng.mp h).1
  simpa using this
 have e:xs.toList[i]=p:=by
  have:=(Ng.mp h).2
  simpa using this
 rw[<-e,UJ f]
def k6{xs:Array Keyed}(h:LS C xs.toList)(i:Nat):LS C (xs.toList.drop i):=h.sublist (QN i _)
def k8{xs:Array Keyed}(h:LS C xs.toList){i:Nat}{p:Keyed}(r:xs[i]?=J p):∀y∈xs.toList.drop i,O.kle (C.key p) (C.key y):=by
 have f:=k6 h i;rw[lq r]at f ⊢;unfold LS at f;rw[Jj]at f;intro y l;rcases lb.mp l with rfl|l
 .exact KeyOrd.kle_refl _
 .exact f.1 y l
def MI.pushA(m:MI C a b ou i j)(H:LS C a.toList)(F:LS C b.toList){p:Keyed}(B:a[i]?=J p)(G:∀q,b[j]?=J q->O.kle (C.key p) (C.key q)):MI C a b (ou.push p) (i+1) j:=by
 have hd:=lq B;have z:∀y∈a.toList.drop i++b.toList.drop j,O.kle (C.key p) (C.key y):=by
  intro y f;rcases ml.mp f with f|f
  .exact k8 H B y f
  .cases r:b[j]? with
   |none =>
    have:b.toList.drop j=[]:=MB (by have:=RF.mp r;simpa using this)
    rw[this]at f;cases f
   |some q=>exact KeyOrd.kle_trans (G q r) (k8 F r y f)
 refine⟨?_,?_,?_⟩
 .have:=m.perm
  rw[hd]at this;rw[Fx,En];exact this
 .rw[Fx];refine cU m.srt (by delta LS;simp) λx l y f=>?_
  have:y=p:=by simpa using f
  subst this;exact m.low x l y (rT _ (by rw[hd];exact xg))
 .intro x l y f;rw[Fx]at l;have u:y∈a.toList.drop i++b.toList.drop j:=by
   simp_all
  rcases ml.mp l with l|l
  .exact m.low x l y u
  .have:x=p:=by simpa using l
   subst this;exact z y u
def MI.pushB(m:MI C a b ou i j)(H:LS C a.toList)(F:LS C b.toList){p:Keyed}(B:b[j]?=J p)(G:∀q,a[i]?=J q->O.kle (C.key p) (C.key q)):MI C a b (ou.push p) i (j+1):=by
 have hd:=lq B;have z:∀y∈a.toList.drop i++b.toList.drop j,O.kle (C.key p) (C.key y):=by
  intro y f;rcases ml.mp f with f|f
  .cases r:a[i]? with
   |none =>
    have:a.toList.drop i=[]:=MB (by have:=RF.mp r;simpa using this)
    rw[this]at f;cases f
   |some q=>exact KeyOrd.kle_trans (G q r) (k8 H r y f)
  .exact k8 F B y f
 refine⟨?_,?_,?_⟩
 .have:=m.perm
  rw[hd]at this;rw[Fx,En];refine List.Perm.trans (List.Perm.append_left _ ?_) this;show(p::(a.toList.drop i++b.toList.drop (j+1))).Perm _;exact H_.symm
 .rw[Fx];refine cU m.srt (by delta LS;simp) λx l y f=>?_
  have:y=p:=by simpa using f
  subst this;exact m.low x l y (n2 _ (by rw[hd];exact xg))
 .intro x l y f;rw[Fx]at l;have u:y∈a.toList.drop i++b.toList.drop j:=by
   rcases ml.mp f with f|f
   .exact rT _ f
   .exact n2 _ (by rw[hd];exact mw _ f)
  rcases ml.mp l with l|l
  .exact m.low x l y u
  .have:x=p:=by simpa using l
   subst this;exact z y u
def nz{xs:Array Keyed}{i k:Nat}{p:Keyed}(h:xs[i+k]?=J p):xs.extract i (i+(k+1))=(xs.extract i (i+k)).push p:=by
 apply Ib.mp;simp only[QG,Fx,RI];have e1:i+(k+1)-i=k+1:=by lia
 have e2:i+k-i=k:=by lia
 rw[e1,e2,Er,QL,y6,h];rfl
def MI.moveA(m:MI C a b ou i j)(y:LS C a.toList)(B:LS C b.toList):∀k,i+k<=a.size->(∀r p q,r<k->a[i+r]?=J p->b[j]?=J q->O.kle (C.key p) (C.key q))->MI C a b (ou++a.extract i (i+k)) (i+k) j:=by
 intro k
 induction k with
 |zero =>
  intro _ _;have e:ou++a.extract i (i+0)=ou:=by apply Ib.mp;simp
  rw[e];exact m
 |succ k z =>
  intro H u;have l:=getElem?_pos a (i+k) ⋯;have F:=(z ⋯ λr p q G=>u r p q ⋯).pushA y B l (λq f=>u k _ q ⋯ l f);have e:ou++(a.extract i (i+k)).push (a[i+k]'⋯)=(ou++a.extract i (i+k)).push (a[i+k]'⋯):=by simp
  rw[nz l,e];exact F
def MI.moveB(m:MI C a b ou i j)(y:LS C a.toList)(B:LS C b.toList):∀k,j+k<=b.size->(∀r p q,r<k->b[j+r]?=J p->a[i]?=J q->O.kle (C.key p) (C.key q))->MI C a b (ou++b.extract j (j+k)) i (j+k):=by
 intro k
 induction k with
 |zero =>
  intro _ _;have e:ou++b.extract j (j+0)=ou:=by apply Ib.mp;simp
  rw[e];exact m
 |succ k z =>
  intro H u;have l:=getElem?_pos b (j+k) ⋯;have F:=(z ⋯ λr p q G=>u r p q ⋯).pushB y B l (λq f=>u k _ q ⋯ l f);have e:ou++(b.extract j (j+k)).push (b[j+k]'⋯)=(ou++b.extract j (j+k)).push (b[j+k]'⋯):=by simp
  rw[nz l,e];exact F
def MR(C:t3 prog w A E s kd O)(a b f:Array Keyed):Prop:=f.toList.Perm (a.toList++b.toList)/\LS C f.toList
def j4{xs:Array Keyed}{i:Nat}:(xs.extract i xs.size).toList=xs.toList.drop i:=by rw[QG];exact Ft (by simp)
def MI.all(m:MI C a b ou i j)(f:LS C a.toList)(l:LS C b.toList)(h:a.size<=i\/b.size<=j):MR C a b (ou++a.extract i a.size++b.extract j b.size):=by
 have e:(ou++a.extract i a.size++b.extract j b.size).toList=ou.toList++(a.toList.drop i++b.toList.drop j):=by rw[Jg,Jg,j4,j4,En]
 delta MR;rw[e];refine⟨m.perm,cU m.srt ?_ m.low⟩;rcases h with h|h
 .have:a.toList.drop i=[]:=MB (by simpa using h)
  rw[this];exact k6 l j
 .have:b.toList.drop j=[]:=MB (by simpa using h)
  rw[this,Jn];exact k6 f i
def MI.one(m:MI C a b ou i j)(z:LS C a.toList)(F:LS C b.toList)(h:i+1=a.size)(B:∀x q,x∈b.toList->a[i]?=J q->O.kle (C.key x) (C.key q)):MR C a b (ou++b.extract j b.size++a.extract i a.size):=by
 have e:(ou++b.extract j b.size++a.extract i a.size).toList=ou.toList++(b.toList.drop j++a.toList.drop i):=by rw[Jg,Jg,j4,j4,En]
 delta MR;rw[e];have u:=getElem?_pos a i ⋯;have hd:=lq u;have f:a.toList.drop (i+1)=[]:=MB (by simp;lia);rw[f]at hd;refine⟨(List.Perm.append_left _ UO).trans m.perm,cU m.srt (cU (k6 F j) (k6 z i) ?_) ?_⟩
 .intro x r y l;rw[hd]at l
  have:y=a[i]'⋯:=by simpa using l
  subst this;exact B x _ (Jf r) u
 .intro x r y l;exact m.low x r y (ml.mpr (ml.mp l).symm)
end
structure Eqv(st st':SortSt):Prop where
 kind:kindOf st'=kindOf st
 arr:arrOf st'=arrOf st
 pend:pendingOf st'=pendingOf st
 failed:failedOf st'=failedOf st
def Eqv.rfl'{st:SortSt}:Eqv st st:=⟨rfl,rfl,rfl,rfl⟩
def Eqv.trans{st a f:SortSt}(x:Eqv st a)(y:Eqv a f):Eqv st f:=⟨y.kind.trans x.kind,y.arr.trans x.arr,y.pend.trans x.pend,y.failed.trans x.failed⟩
abbrev GS:=Option (Array Keyed)×Array Keyed×Nat×Nat×Nat×Nat×Nat
def KG(a b f:Array Keyed)(i j g na nb:Nat):StateT SortSt Sem (ForInStep GS):=do
 let x <-elem' a i
 if(i+1+1==a.size)=I then pure (ForInStep.done (J (f.push x++b.extract j b.size++a.extract (i+1) a.size),f.push x,i+1,j,g,na,nb))
 else if(decide (na<7)&&decide (nb<7))=I then pure (ForInStep.done (Y,f.push x,i+1,j,g,na,nb))
 else pure (ForInStep.yield (Y,f.push x,i+1,j,g,na,nb))
def KH(a b f:Array Keyed)(i j g na nb:Nat):StateT SortSt Sem (ForInStep GS):=do
 let x <-elem' b j
 if(j+1==b.size)=I then pure (ForInStep.done (J (f.push x++a.extract i a.size++b.extract (j+1) b.size),f.push x,i,j+1,g,na,nb))
 else do
  let y <-elem' a i
  let q <-gallop' I y b (j+1) (b.size-(j+1)) 0
  match q with
  |some k =>
   if k>0 then
    if(j+1+k==b.size)=I then
     pure (ForInStep.done (J (f.push x++b.extract (j+1) (j+1+k)++a.extract i a.size++b.extract (j+1+k) b.size),f.push x++b.extract (j+1) (j+1+k),i,j+1+k,g,na,k))
    else KG a b (f.push x++b.extract (j+1) (j+1+k)) i (j+1+k) g na k
   else KG a b (f.push x) i (j+1) g na k
  |_=>pure (ForInStep.done (J (f.push x++a.extract i a.size++b.extract (j+1) b.size),f.push x,i,j+1,g,na,nb))
def GK(a b f:Array Keyed)(i j g na nb:Nat):StateT SortSt Sem (ForInStep GS):=do
 GJ g
 let x <-elem' b j
 let q <-gallop' T x a i (a.size-i) 0
 match q with
 |some k =>
  if k>0 then
   if(i+k+1==a.size)=I then
    pure (ForInStep.done (J (f++a.extract i (i+k)++b.extract j b.size++a.extract (i+k) a.size),f++a.extract i (i+k),i+k,j,g,k,nb))
   else if(i+k==a.size)=I then
    pure (ForInStep.done (J (f++a.extract i (i+k)++a.extract (i+k) a.size++b.extract j b.size),f++a.extract i (i+k),i+k,j,g,k,nb))
   else KH a b (f++a.extract i (i+k)) (i+k) j g k nb
  else KH a b f i j g k nb
 |_=>pure (ForInStep.done (J (f++a.extract i a.size++b.extract j b.size),f,i,j,g,na,nb))
abbrev M6:=Option (Array Keyed)×Array Keyed×Nat×Nat×Nat×Nat
abbrev LCt:=Option (Array Keyed)×Array Keyed×Nat×Nat×Nat
def S9(a b:Array Keyed)(g:Nat)(c:M6):StateT SortSt Sem (ForInStep M6):=do
 let x <-elem' b c.2.2.2.1
 let y <-elem' a c.2.2.1
 let q <-lt' x y
 match q with
 |some q =>
  if q=I then do
   let z <-elem' b c.2.2.2.1
   if(c.2.2.2.1+1==b.size)=I then pure (ForInStep.done (J (c.2.1.push z++a.extract c.2.2.1 a.size++b.extract (c.2.2.2.1+1) b.size),c.2.1.push z,c.2.2.1,c.2.2.2.1+1,0,c.2.2.2.2.2+1))
   else if c.2.2.2.2.2+1>=g then pure (ForInStep.done (Y,c.2.1.push z,c.2.2.1,c.2.2.2.1+1,0,c.2.2.2.2.2+1))
   else pure (ForInStep.yield (Y,c.2.1.push z,c.2.2.1,c.2.2.2.1+1,0,c.2.2.2.2.2+1))
  else do
   let z <-elem' a c.2.2.1
   if(c.2.2.1+1+1==a.size)=I then pure (ForInStep.done (J (c.2.1.push z++b.extract c.2.2.2.1 b.size++a.extract (c.2.2.1+1) a.size),c.2.1.push z,c.2.2.1+1,c.2.2.2.1,c.2.2.2.2.1+1,0))
   else if c.2.2.2.2.1+1>=g then pure (ForInStep.done (Y,c.2.1.push z,c.2.2.1+1,c.2.2.2.1,c.2.2.2.2.1+1,0))
   else pure (ForInStep.yield (Y,c.2.1.push z,c.2.2.1+1,c.2.2.2.1,c.2.2.2.2.1+1,0))
 |_=>pure (ForInStep.done (J (c.2.1++a.extract c.2.2.1 a.size++b.extract c.2.2.2.1 b.size),c.2.1,c.2.2.1,c.2.2.2.1,c.2.2.2.2.1,c.2.2.2.2.2))
def S_(a b:Array Keyed)(c:GS):StateT SortSt Sem (ForInStep GS) :=
 if c.2.2.2.2.1>1 then GK a b c.2.1 c.2.2.1 c.2.2.2.1 (c.2.2.2.2.1-1) c.2.2.2.2.2.1 c.2.2.2.2.2.2
 else GK a b c.2.1 c.2.2.1 c.2.2.2.1 c.2.2.2.2.1 c.2.2.2.2.2.1 c.2.2.2.2.2.2
def Ve(c:GS):StateT SortSt Sem (ForInStep LCt) :=
 match c.1 with
 |some r=>pure (ForInStep.done (J r,c.2.1,c.2.2.1,c.2.2.2.1,c.2.2.2.2.1))
 |none=>do
  GJ (c.2.2.2.2.1+1)
  pure (ForInStep.yield (Y,c.2.1,c.2.2.1,c.2.2.2.1,c.2.2.2.2.1+1))
def Vf(a b:Array Keyed)(g:Nat)(c:M6):StateT SortSt Sem (ForInStep LCt) :=
 match c.1 with
 |some r=>pure (ForInStep.done (J r,c.2.1,c.2.2.1,c.2.2.2.1,g))
 |none=>do
  liftM (rule "list.sort.gallop")
  let e <-forIn [:a.size+b.size] ((Y,c.2.1,c.2.2.1,c.2.2.2.1,g+1,c.2.2.2.2.1,c.2.2.2.2.2):GS) λ_ e=>S_ a b e
  Ve e
def Vg(a b:Array Keyed)(c:LCt):StateT SortSt Sem (ForInStep LCt):=do
 let d <-forIn [:a.size+b.size] ((Y,c.2.1,c.2.2.1,c.2.2.2.1,0,0):M6) λ_ d=>S9 a b c.2.2.2.2 d
 Vf a b c.2.2.2.2 d
def Vh(a b:Array Keyed)(x:Keyed):StateT SortSt Sem (Array Keyed):=do
 let g <-get
 let r <-forIn [:a.size+b.size] ((Y,#[x],0,1,gallopOf g):LCt) λ_ c=>Vg a b c
 match r.1 with
 |some r=>pure r
 |none=>liftM (unsupported "internal:list.sort.merge-bound":Sem (Array Keyed))
def Ta(a b:Array Keyed):pA a b=(do
 liftM (rule "list.sort.merge-lo")
 let x <-elem' b 0
 if(1==b.size)=I then pure (#[x]++a.extract 0 a.size++b.extract 1 b.size)
 else if(0+1==a.size)=I then pure (#[x]++b.extract 1 b.size++a.extract 0 a.size)
 else Vh a b x):=by
 refine congrArg (Bind.bind _) (funext λ_=>congrArg (Bind.bind _) (funext λx=>congrArg (λz=>ite _ _ (ite _ _ z)) ?_));have e:∀{α β:Type}{x y:StateT SortSt Sem α}{f h:α->StateT SortSt Sem β},x=y->(∀a,f a=h a)->(x >>= f)=(y >>= h):=λe f=>by rw[e,funext f]
 refine congrArg (Bind.bind _) (funext λg=>e (congrArg (forIn _ _) (funext λ_=>funext λc=>?_)) λ⟨r,_⟩=>by cases r<;>rfl);refine e rfl λd=>?_;obtain⟨i,j⟩:=d
 cases i with
 |some r=>rfl
 |none=>exact congrArg (Bind.bind _) (funext λ_=>e rfl λ⟨r,_⟩=>by cases r<;>rfl)
section
variable{prog:Program}{w:World}{A:Around}{E:WA}{s:Shared}{kd:SortKind}{O:KeyOrd}{C:t3 prog w A E s kd O}{st:SortSt}{a b:Array Keyed}
structure Bi(C:t3 prog w A E s kd O)(a b:Array Keyed):Prop where
 ga:dn C a
 gb:dn C b
 sa:LS C a.toList
 sb:LS C b.toList
 na:1<=a.size
 nb:1<=b.size
 fst:∀p q,b[0]?=J p->a[0]?=J q->O.kle (C.key p) (C.key q)
 lst:∀x q,x∈b.toList->a[a.size-1]?=J q->O.kle (C.key x) (C.key q)
def LI(C:t3 prog w A E s kd O)(a b:Array Keyed)(N:Nat)(c:GS):Prop:=c.1=Y/\MI C a b c.2.1 c.2.2.1 c.2.2.2.1/\c.2.2.1+1<a.size/\c.2.2.2.1<b.size/\N<=c.2.1.size
def mW(C:t3 prog w A E s kd O)(a b:Array Keyed)(N:Nat)(st:SortSt)(r:ForInStep GS)(f:SortSt):Prop:=Eqv st f/\match r with
 |.done c=>(∃x,c.1=J x/\MR C a b x)\/LI C a b N c
 |.yield c=>LI C a b N c
def yb(f:Bi C a b)(m:MI C a b ou i j)(M:i+1<a.size)(L:j<b.size)(hN:N<=ou.size)(u:∀p q,a[i]?=J p->b[j]?=J q->O.kle (C.key p) (C.key q)):
  wpS (model prog w) A E s (KG a b ou i j g na nb) (mW C a b N st) st:=by
 refine wpS_bind (aW ⋯ λx B=>?_);have F:=m.pushA f.sa f.sb B (λq r=>u x q B r);have G:(ou.push x).size=ou.size+1:=FA ..;by_cases l:i+1+1=a.size
 .rw[c_ (by simpa using l)];exact wpS_pure ⟨Eqv.rfl',.inl ⟨_,rfl,F.one f.sa f.sb l λy q H r=>f.lst y q H (by rw[<-l];exact r)⟩⟩
 .rw[f_ (by simpa using l)];have z:LI C a b N (Y,ou.push x,i+1,j,g,na,nb):=⟨rfl,F,⋯,L,⋯⟩;split
  .exact wpS_pure ⟨Eqv.rfl',.inr z⟩
  .exact wpS_pure ⟨Eqv.rfl',z⟩
def yh(f:Bi C a b)(hk:kindOf st=kd)(m:MI C a b ou i j)(W:i+1<a.size)(hj:j<b.size)(hN:N<=ou.size)(H:∀p q,b[j]?=J p->a[i]?=J q->O.kle (C.key p) (C.key q)):
  wpS (model prog w) A E s (KH a b ou i j g na nb) (mW C a b N st) st:=by
 refine wpS_bind (aW hj λx X=>?_);have Q:=m.pushB f.sa f.sb X (λq l=>H x q X l);have Z:(ou.push x).size=ou.size+1:=FA ..;by_cases U:j+1=b.size
 .rw[c_ (by simpa using U)];exact wpS_pure ⟨Eqv.rfl',.inl ⟨_,rfl,Q.all f.sa f.sb (.inr ⋯)⟩⟩
 .rw[f_ (by simpa using U)];refine wpS_bind (aW ⋯ λy L=>?_);refine wpS_bind (fu (C:=C) hk f.gb (bP f.ga L) ⋯ ⋯ ?_ λk al P G=>?_)
  .intro p q B M l;exact nL f.sb p q (t0 _) M ⋯
  .have z:∀r p q,r<k->b[j+1+r]?=J p->a[i]?=J q->O.kle (C.key p) (C.key q):=λr p q hr B l=>by
    have:=P r hr
    unfold iu at this;rw[aV B]at this;rw[L]at l;cases l;exact KeyOrd.kle_of_klt this
   have u:∀p q,a[i]?=J p->b[j+1+k]?=J q->O.kle (C.key p) (C.key q):=λp q B l=>by
    have an:=(Ng.mp l).1
    have:=G k (i4 _) ⋯
    unfold iu at this;rw[aV l]at this;rw[L]at B;cases B;exact this
   dsimp only;by_cases F:k>0
   .rw[c_ F];have S:=Q.moveB f.sa f.sb k ⋯ z;by_cases R:j+1+k=b.size
    .rw[c_ (by simpa using R)];exact wpS_pure ⟨Eqv.rfl',.inl ⟨_,rfl,S.all f.sa f.sb (.inr ⋯)⟩⟩
    .rw[f_ (by simpa using R)];exact yb f S W ⋯ (by rw[Nr];lia) u
   .rw[f_ F];have e:k=0:=by lia
    subst e;exact yb f Q W ⋯ ⋯ u
def yC(f:Bi C a b)(hk:kindOf st=kd)(m:MI C a b ou i j)(hi:i+1<a.size)(U:j<b.size)(hN:N<=ou.size):
  wpS (model prog w) A E s (GK a b ou i j g na nb) (mW C a b N st) st:=by
 delta GK;refine wpS_bind (wpS_modify ?_);have ev:Eqv st (SortSt.mk' (kindOf st) (arrOf st) (pendingOf st) g (failedOf st)):=⟨rfl,rfl,rfl,rfl⟩;refine wpS_mono (Q:=mW C a b N (SortSt.mk' (kindOf st) (arrOf st) (pendingOf st) g (failedOf st))) ?_ λr al h=>⟨ev.trans h.1,h.2⟩;have z:kindOf (SortSt.mk' (kindOf st) (arrOf st) (pendingOf st) g (failedOf st))=kd:=hk;refine wpS_bind (aW U λx P=>?_);refine wpS_bind (fu (C:=C) z f.ga (bP f.gb P) ⋯ ⋯ ?_ λk Z S L=>?_)
 .intro p q F R l;exact nL f.sa p q (t0 _) R ⋯
 .have B:∀r p q,r<k->a[i+r]?=J p->b[j]?=J q->O.kle (C.key p) (C.key q):=λr p q X F l=>by
   have:=S r X
   unfold iu at this;rw[aV F]at this;rw[P]at l;cases l;simp only[nw,if_false,Fj]at this;exact this
  have u:∀p q,b[j]?=J p->a[i+k]?=J q->O.kle (C.key p) (C.key q):=λp q F l=>by
   have an:=(Ng.mp l).1
   have:=L k (i4 _) ⋯
   unfold iu at this;rw[aV l]at this;rw[P]at F;cases F;simp only[nw,if_false,RV]at this;exact KeyOrd.kle_of_klt this
  dsimp only;by_cases G:k>0
  .rw[c_ G];have M:=m.moveA f.sa f.sb k ⋯ B;by_cases H:i+k+1=a.size
   .rw[c_ (by simpa using H)];exact wpS_pure ⟨Eqv.rfl',.inl ⟨_,rfl,M.one f.sa f.sb H λy q hy l=>f.lst y q hy (by rw[<-H];exact l)⟩⟩
   .rw[f_ (by simpa using H)];by_cases W:i+k=a.size
    .rw[c_ (by simpa using W)];exact wpS_pure ⟨Eqv.rfl',.inl ⟨_,rfl,M.all f.sa f.sb (.inl ⋯)⟩⟩
    .rw[f_ (by simpa using W)];exact yh f z M ⋯ U (by rw[Nr];lia) u
  .rw[f_ G];have e:k=0:=by lia
   subst e;exact yh f z m hi U hN u
def OO(C:t3 prog w A E s kd O)(a b:Array Keyed)(N:Nat)(c:M6):Prop:=c.1=Y/\MI C a b c.2.1 c.2.2.1 c.2.2.2.1/\c.2.2.1+1<a.size/\c.2.2.2.1<b.size/\N<=c.2.1.size
def Tb(C:t3 prog w A E s kd O)(a b:Array Keyed)(N:Nat)(c:LCt):Prop:=c.1=Y/\MI C a b c.2.1 c.2.2.1 c.2.2.2.1/\c.2.2.1+1<a.size/\c.2.2.2.1<b.size/\N<=c.2.1.size
def Tc(C:t3 prog w A E s kd O)(a b:Array Keyed)(N:Nat)(st:SortSt)(r:ForInStep M6)(f:SortSt):Prop:=match r with
 |.done c=>f=st/\((∃x,c.1=J x/\MR C a b x)\/OO C a b N c)
 |.yield c=>f=st/\OO C a b N c
def KI(C:t3 prog w A E s kd O)(a b:Array Keyed)(N:Nat)(st:SortSt)(r:ForInStep LCt)(f:SortSt):Prop:=match r with
 |.done c=>Eqv st f/\∃x,c.1=J x/\MR C a b x
 |.yield c=>Eqv st f/\Tb C a b N c
def KJ(f:Bi C a b)(H:kindOf st=kd)(L:MI C a b ou' i' j')(F:i'+1<a.size)(r:j'<b.size)(hN:N<=ou'.size):
  wpS (model prog w) A E s (S9 a b g (Y,ou',i',j',na,nb)) (Tc C a b (N+1) st) st:=by
 delta S9;dsimp only;refine wpS_bind (aW r λp G=>wpS_bind (aW ⋯ λq B=>?_));refine wpS_bind (C.ask p q st _ (bP f.gb G) (bP f.ga B) H ?_)
 cases M:O.blt (C.key p) (C.key q) with
 |true =>
  dsimp only;refine wpS_bind (aW r λP i=>?_);rw[G]at i;cases i;have u:=L.pushB f.sa f.sb G (λR j=>by rw[B]at j;cases j;exact KeyOrd.kle_of_klt M);have l:(ou'.push p).size=ou'.size+1:=FA ..;by_cases z:j'+1=b.size
  .rw[c_ (by simpa using z)];exact wpS_pure ⟨rfl,.inl ⟨_,rfl,u.all f.sa f.sb (.inr ⋯)⟩⟩
  .rw[f_ (by simpa using z)];split
   .exact wpS_pure ⟨rfl,.inr ⟨rfl,u,F,⋯,by rw[l];lia⟩⟩
   .exact wpS_pure ⟨rfl,rfl,u,F,⋯,by rw[l];lia⟩
 |false =>
  dsimp only;refine wpS_bind (aW ⋯ λR j=>?_);rw[B]at j;cases j;have u:=L.pushA f.sa f.sb B (λP i=>by rw[G]at i;cases i;exact M);have l:(ou'.push q).size=ou'.size+1:=FA ..;by_cases z:i'+1+1=a.size
  .rw[c_ (by simpa using z)];exact wpS_pure ⟨rfl,.inl ⟨_,rfl,u.one f.sa f.sb z λy q Q B=>f.lst y q Q (by rw[<-z];exact B)⟩⟩
  .rw[f_ (by simpa using z)];split
   .exact wpS_pure ⟨rfl,.inr ⟨rfl,u,⋯,r,by rw[l];lia⟩⟩
   .exact wpS_pure ⟨rfl,rfl,u,⋯,r,by rw[l];lia⟩
def KL(j:Eqv E6 st)(f:(∃x,c.1=J x/\MR C a b x)\/LI C a b N c):wpS (model prog w) A E s (Ve c) (KI C a b N E6) st:=by
 obtain⟨H,u,G,F,B,z,l⟩:=c;rcases f with⟨r,i,y⟩|⟨f,i⟩
 .cases i;exact wpS_pure ⟨j,r,rfl,y⟩
 .cases f;exact wpS_bind (wpS_modify (wpS_pure ⟨j.trans ⟨rfl,rfl,rfl,rfl⟩,rfl,i⟩))
def KN(f:Bi C a b)(u:kindOf st=kd)(h:LI C a b N c):wpS (model prog w) A E s (S_ a b c) (mW C a b N st) st:=by
 obtain⟨_,r,i,j,l⟩:=h;delta S_;split
 .exact yC f u r i j l
 .exact yC f u r i j l
def KO(u:Bi C a b)(M:kindOf st=kd)(B:Eqv E6 st)(l:(∃x,c.1=J x/\MR C a b x)\/OO C a b N c):wpS (model prog w) A E s (Vf a b g c) (KI C a b N E6) st:=by
 obtain⟨R,F,S,U,na,nb⟩:=c;rcases l with⟨r,j,H⟩|⟨l,j⟩
 .cases j;exact wpS_pure ⟨B,r,rfl,H⟩
 .cases l;refine wpS_bind (wpS_lift (wpAny_rule ⟨rfl,?_⟩));refine wpS_bind (wpS_mono (wpS_forRange (I:=λy c i=>Eqv st i/\LI C a b N c) (Q:=λc i=>Eqv st i/\((∃x,c.1=J x/\MR C a b x)\/LI C a b N c)) ?_ ?_ ⟨Eqv.rfl',rfl,j⟩) ?_)
  .rintro y c i _ W ⟨f,P⟩;refine wpS_mono (KN u (f.kind.trans M) P) λr G j=>?_
   cases r with
   |done L=>exact⟨f.trans j.1,j.2⟩
   |yield L=>exact⟨f.trans j.1,j.2⟩
  .rintro c i ⟨f,z⟩;exact⟨f,.inr z⟩
  .rintro c i ⟨f,l⟩;exact KL (B.trans f) l
def KP(j:Bi C a b)(F:kindOf st=kd)(h:Tb C a b N c):wpS (model prog w) A E s (Vg a b c) (KI C a b (N+1) st) st:=by
 obtain⟨u,G⟩:=h
 refine wpS_bind (wpS_mono (wpS_forRange (I:=λy c f=>f=st/\OO C a b (N+y) c)
  (Q:=λc f=>f=st/\((∃x,c.1=J x/\MR C a b x)\/OO C a b (N+1) c)) ?_ ?_ ⟨rfl,rfl,G⟩) ?_)
 .rintro y c f _ R ⟨rfl,H⟩;obtain⟨u,L,B,l,i⟩:=H;refine wpS_mono (KJ j F L B l i) λr M z=>?_
  cases r with
  |done P=>exact⟨z.1,z.2.imp_right λh=>⟨h.1,h.2.1,h.2.2.1,h.2.2.2.1,ny ⋯ h.2.2.2.2⟩⟩
  |yield P=>exact z
 .rintro c f ⟨rfl,h⟩;exact⟨rfl,.inr ⟨h.1,h.2.1,h.2.2.1,h.2.2.2.1,ny ⋯ h.2.2.2.2⟩⟩
 .rintro c f ⟨rfl,u⟩;exact KO j F Eqv.rfl' u
def KQ(u:Bi C a b)(L:kindOf st=kd)(y:MI C a b #[x0] 0 1)(G:0+1<a.size)(z:1<b.size)(h:∀x f,Eqv st f->MR C a b x->Q x f):wpS (model prog w) A E s (Vh a b x0) Q st:=by
 refine wpS_bind (wpS_get ?_)
 refine wpS_bind (wpS_mono (wpS_forRange (I:=λx c f=>Eqv st f/\Tb C a b (x+1) c)
  (Q:=λc f=>Eqv st f/\∃x,c.1=J x/\MR C a b x) ?_ ?_ ⟨Eqv.rfl',rfl,y,G,z,i4 _⟩) ?_)
 .rintro x c f _ R ⟨j,l⟩;refine wpS_mono (KP u (j.kind.trans L) l) λr B i=>?_
  cases r with
  |done H=>exact⟨j.trans i.1,i.2⟩
  |yield H=>exact⟨j.trans i.1,i.2⟩
 .rintro c f ⟨j,l⟩;exfalso;have y:=l.2.2.1;have M:=l.2.2.2.1
  have:=l.2.1.size ⋯ ⋯
  have:=l.2.2.2.2
  lia
 .rintro c f ⟨j,r,i,F⟩;obtain⟨P,S⟩:=c;cases i;exact wpS_pure (h r f j F)
def KR(f:Bi C a b)(M:kindOf st=kd)(h:∀x j,Eqv st j->MR C a b x->Q x j):wpS (model prog w) A E s (pA a b) Q st:=by
 rw[Ta];refine wpS_bind (wpS_lift (wpAny_rule ⟨rfl,?_⟩));have P:=f.na;have F:=f.nb;refine wpS_bind (aW ⋯ λB i=>?_);have L:MI C a b #[] 0 0:=⟨by simp,by delta LS;simp,λx G=>by simp at G⟩;have u:MI C a b #[B] 0 1:=by
  have:=L.pushB f.sa f.sb i (λq r=>f.fst B q i r)
  simpa using this
 by_cases z:1=b.size
 .rw[c_ (by simpa using z)]
  have:=u.all f.sa f.sb (.inr ⋯)
  exact wpS_pure (h _ st Eqv.rfl' (by simpa using this))
 .rw[f_ (by simpa using z)];by_cases l:0+1=a.size
  .rw[c_ (by simpa using l)]
   have:=u.one f.sa f.sb l λy q H r=>f.lst y q H (by rw[<-l];exact r)
   exact wpS_pure (h _ st Eqv.rfl' (by simpa using this))
  .rw[f_ (by simpa using l)];exact KQ f M u ⋯ ⋯ h
end
def Ev{m k:Nat}(a:1<=m)(b:m<=k):m-1<k:=oy (Ii a Jp) b
def CU{m k:Nat}(h:k<m):m-k=m-(k+1)+1:=(Nat.succ_pred_eq_of_pos (Nat.sub_pos_of_lt h)).symm
def Rf{m k s:Nat}(h:k<m)(b:m<=s):m-(k+1)<s:=oy (Ii (Nat.zero_lt_of_lt h) (Nat.succ_pos k)) b
def pP:Array Keyed->Array Keyed->StateT SortSt Sem (Array Keyed):=sortPriv% PySem.Builtin.mergeHi
section
variable{prog:Program}{w:World}{A:Around}{E:WA}{s:Shared}{kd:SortKind}{O:KeyOrd}{C:t3 prog w A E s kd O}{a b ou:Array Keyed}{m n:Nat}{st:SortSt}
structure HI(C:t3 prog w A E s kd O)(a b ou:Array Keyed)(m n:Nat):Prop where
 perm:(a.toList.take m++b.toList.take n++ou.toList.reverse).Perm (a.toList++b.toList)
 srt:LS C ou.toList.reverse
 hgh:LB C (a.toList.take m++b.toList.take n) ou.toList.reverse
def HI.size(h:HI C a b ou m n)(f:m<=a.size)(i:n<=b.size):ou.size+m+n=a.size+b.size:=by
 have:=h.perm.length_eq
 simp at this;lia
def oj{xs:Array Keyed}{i:Nat}{p:Keyed}(h:xs[i]?=J p):xs.toList.take (i+1)=xs.toList.take i++[p]:=by rw[Er,y6,h];rfl
def kS{xs:Array Keyed}(h:LS C xs.toList)(i:Nat):LS C (xs.toList.take i):=h.sublist (List.take_sublist i _)
def oQ{xs:Array Keyed}(h:LS C xs.toList){i:Nat}{p:Keyed}(l:xs[i]?=J p):∀y∈xs.toList.take (i+1),O.kle (C.key y) (C.key p):=by
 have j:=kS h (i+1);rw[oj l]at j ⊢;unfold LS at j;rw[QF]at j;intro y f;rcases ml.mp f with f|f
 .exact j.2.2 y f p (by simp)
 .have:y=p:=by simpa using f
  subst this;exact KeyOrd.kle_refl _
def jJ(p:Keyed):(ou.push p).toList.reverse=p::ou.toList.reverse:=by simp
def HI.pushA(h:HI C a b ou (m+1) n)(G:LS C a.toList)(B:LS C b.toList){p:Keyed}(u:a[m]?=J p)(z:1<=n)(r:n<=b.size)(F:∀q,b[n-1]?=J q->O.kle (C.key q) (C.key p)):HI C a b (ou.push p) m n:=by
 have hd:=oj u;obtain⟨q,j⟩:∃q,b[n-1]?=J q:=⟨_,getElem?_pos b (n-1) (Ev z r)⟩;have l:∀y∈a.toList.take m++b.toList.take n,O.kle (C.key y) (C.key p):=by
  intro y f;rcases ml.mp f with f|f
  .exact oQ G u y (by rw[hd];exact rT _ f)
  .refine KeyOrd.kle_trans (oQ B j y ?_) (F q j);rw[Ji z];exact f
 refine⟨?_,?_,?_⟩
 .have:=h.perm
  rw[hd]at this;rw[jJ];refine List.Perm.trans ?_ this;have e1:(a.toList.take m++b.toList.take n++p::ou.toList.reverse).Perm (p::(a.toList.take m++b.toList.take n++ou.toList.reverse)):=H_;have e2:(a.toList.take m++[p]++b.toList.take n++ou.toList.reverse).Perm (p::(a.toList.take m++b.toList.take n++ou.toList.reverse)):=by simp_all
  exact e1.trans e2.symm
 .rw[jJ];delta LS;rw[Jj];refine⟨λy f=>h.hgh p (rT _ (by rw[hd];simp)) y f,h.srt⟩
 .rw[jJ];intro x i y f;rcases lb.mp f with rfl|f
  .exact l x i
  .refine h.hgh x ?_ y f;rcases ml.mp i with i|i
   .exact rT _ (by rw[hd];exact rT _ i)
   .exact n2 _ i
def HI.pushB(h:HI C a b ou m (n+1))(G:LS C a.toList)(B:LS C b.toList){p:Keyed}(z:b[n]?=J p)(u:1<=m)(r:m<=a.size)(F:∀q,a[m-1]?=J q->O.kle (C.key q) (C.key p)):HI C a b (ou.push p) m n:=by
 have hd:=oj z;obtain⟨q,j⟩:∃q,a[m-1]?=J q:=⟨_,getElem?_pos a (m-1) (Ev u r)⟩;have l:∀y∈a.toList.take m++b.toList.take n,O.kle (C.key y) (C.key p):=by
  intro y f;rcases ml.mp f with f|f
  .refine KeyOrd.kle_trans (oQ G j y ?_) (F q j);rw[Ji u];exact f
  .exact oQ B z y (by rw[hd];exact rT _ f)
 refine⟨?_,?_,?_⟩
 .have:=h.perm
  simp_all
 .rw[jJ];delta LS;rw[Jj];refine⟨λy f=>h.hgh p (n2 _ (by rw[hd];simp)) y f,h.srt⟩
 .rw[jJ];intro x i y f;rcases lb.mp f with rfl|f
  .exact l x i
  .refine h.hgh x ?_ y f;rcases ml.mp i with i|i
   .exact rT _ i
   .exact n2 _ (by rw[hd];exact rT _ i)
def wd{xs:Array Keyed}{m k:Nat}{p:Keyed}(f:k<m)(i:m<=xs.size)(h:xs[m-(k+1)]?=J p):ou++(xs.extract (m-(k+1)) m).reverse=(ou++(xs.extract (m-k) m).reverse).push p:=by apply Ib.mp;simp only[Jg,Array.toList_reverse,Fx,QG,RI];rw[Nu f,Nu (wr f),lq h,<-CU f];simp
def HI.moveA(h:HI C a b ou m n)(H:LS C a.toList)(G:LS C b.toList)(z:m<=a.size)(M:1<=n)(u:n<=b.size):∀k,k<=m->(∀r p q,m-k<=r->r<m->a[r]?=J p->b[n-1]?=J q->O.kle (C.key q) (C.key p)) ->
  HI C a b (ou++(a.extract (m-k) m).reverse) (m-k) n:=by
 intro k
 induction k with
 |zero =>
  intro _ _;have e:ou++(a.extract (m-0) m).reverse=ou:=by apply Ib.mp;simp
  rw[e];exact h
 |succ k L =>
  intro f F;have j:=getElem?_pos a (m-(k+1)) (Rf f z);have B:=L (wr f) λr p q l=>F r p q (ny (QI (Ih k) _) l);have e:=CU f;rw[wd f z j];rw[e]at B;have y:=B.pushA H G j M u (λq i=>F _ _ q (i4 _) (Rf f (i4 _)) j i);rw[<-e]at y;exact y
def HI.moveB(h:HI C a b ou m n)(L:LS C a.toList)(H:LS C b.toList)(F:n<=b.size)(G:1<=m)(u:m<=a.size):∀k,k<=n->(∀r p q,n-k<=r->r<n->b[r]?=J p->a[m-1]?=J q->O.kle (C.key q) (C.key p)) ->
  HI C a b (ou++(b.extract (n-k) n).reverse) m (n-k):=by
 intro k
 induction k with
 |zero =>
  intro _ _;have e:ou++(b.extract (n-0) n).reverse=ou:=by apply Ib.mp;simp
  rw[e];exact h
 |succ k M =>
  intro f B;have j:=getElem?_pos b (n-(k+1)) (Rf f F);have z:=M (wr f) λr p q l=>B r p q (ny (QI (Ih k) _) l);have e:=CU f;rw[wd f F j];rw[e]at z;have y:=z.pushB L H j G u (λq i=>B _ _ q (i4 _) (Rf f (i4 _)) j i);rw[<-e]at y;exact y
def pF{xs:Array Keyed}{i:Nat}:(xs.extract 0 i).toList=xs.toList.take i:=by rw[QG,RI];simp
def HI.all(h:HI C a b ou m n)(f:LS C a.toList)(j:LS C b.toList)(i:m=0\/n=0):MR C a b (a.extract 0 m++b.extract 0 n++ou.reverse):=by
 have e:(a.extract 0 m++b.extract 0 n++ou.reverse).toList=a.toList.take m++b.toList.take n++ou.toList.reverse:=by simp_all
 delta MR;rw[e];refine⟨h.perm,cU ?_ h.srt h.hgh⟩;rcases i with rfl|rfl
 .simpa using kS j n
 .simpa using kS f m
def HI.one(h:HI C a b ou m n)(f:Bi C a b)(B:n=1):MR C a b (b.extract 0 n++a.extract 0 m++ou.reverse):=by
 subst B;have e:(b.extract 0 1++a.extract 0 m++ou.reverse).toList=b.toList.take 1++a.toList.take m++ou.toList.reverse:=by rw[Jg,Jg,pF,pF,Array.toList_reverse]
 delta MR;rw[e];have z:=f.nb;have F:=f.na;have u:=getElem?_pos b 0 ⋯;have r:=getElem?_pos a 0 ⋯;have hd:=oj u;refine⟨(List.Perm.append_right _ UO).trans h.perm,cU (cU (kS f.sb 1) (kS f.sa m) ?_) h.srt ?_⟩
 .intro x j y l;have i:x=b[0]'⋯:=by
   have:=j
   rw[hd]at this;simpa using this
  subst i;refine KeyOrd.kle_trans (f.fst _ _ u r) (k8 f.sa r y ?_);exact RQ l
 .intro x j y l;exact h.hgh x (ml.mpr (ml.mp j).symm) y l
end
abbrev HS:=Option (Array Keyed)×Nat×Nat×Array Keyed×Nat×Nat×Nat
def KU(a b i:Array Keyed)(m n g f j:Nat):StateT SortSt Sem (ForInStep HS):=do
 let x <-elem' a (m-1)
 if(m-1==0)=I then pure (ForInStep.done (J (a.extract 0 (m-1)++b.extract 0 n++(i.push x).reverse),m-1,n,i.push x,g,f,j))
 else if(decide (f<7)&&decide (j<7))=I then pure (ForInStep.done (Y,m-1,n,i.push x,g,f,j))
 else pure (ForInStep.yield (Y,m-1,n,i.push x,g,f,j))
def KW(a b f:Array Keyed)(m n g i j:Nat):StateT SortSt Sem (ForInStep HS):=do
 let x <-elem' b (n-1)
 if(n-1==1)=I then pure (ForInStep.done (J (b.extract 0 (n-1)++a.extract 0 m++(f.push x).reverse),m,n-1,f.push x,g,i,j))
 else do
  let y <-elem' a (m-1)
  let q <-gallop' I y b 0 (n-1) (n-1-1)
  match q with
  |some z =>
   if n-1-z>0 then
    if(z==1)=I then
     pure (ForInStep.done (J (b.extract 0 z++a.extract 0 m++(f.push x++(b.extract z (n-1)).reverse).reverse),m,z,f.push x++(b.extract z (n-1)).reverse,g,i,n-1-z))
    else if(z==0)=I then
     pure (ForInStep.done (J (a.extract 0 m++b.extract 0 z++(f.push x++(b.extract z (n-1)).reverse).reverse),m,z,f.push x++(b.extract z (n-1)).reverse,g,i,n-1-z))
    else KU a b (f.push x++(b.extract z (n-1)).reverse) m z g i (n-1-z)
   else KU a b (f.push x) m (n-1) g i (n-1-z)
  |_=>pure (ForInStep.done (J (a.extract 0 m++b.extract 0 (n-1)++(f.push x).reverse),m,n-1,f.push x,g,i,j))
def GL(a b f:Array Keyed)(m n g j i:Nat):StateT SortSt Sem (ForInStep HS):=do
 GJ g
 let x <-elem' b (n-1)
 let q <-gallop' T x a 0 m (m-1)
 match q with
 |some z =>
  if m-z>0 then
   if(z==0)=I then
    pure (ForInStep.done (J (a.extract 0 z++b.extract 0 n++(f++(a.extract z m).reverse).reverse),z,n,f++(a.extract z m).reverse,g,m-z,i))
   else KW a b (f++(a.extract z m).reverse) z n g (m-z) i
  else KW a b f m n g (m-z) i
 |_=>pure (ForInStep.done (J (a.extract 0 m++b.extract 0 n++f.reverse),m,n,f,g,j,i))
abbrev HB:=Option (Array Keyed)×Nat×Nat×Array Keyed×Nat×Nat
abbrev HC:=Option (Array Keyed)×Nat×Nat×Array Keyed×Nat
def Te(a b:Array Keyed)(g:Nat)(c:HB):StateT SortSt Sem (ForInStep HB):=do
 let x <-elem' b (c.2.2.1-1)
 let y <-elem' a (c.2.1-1)
 let q <-lt' x y
 match q with
 |some q =>
  if q=I then do
   let z <-elem' a (c.2.1-1)
   if(c.2.1-1==0)=I then pure (ForInStep.done (J (a.extract 0 (c.2.1-1)++b.extract 0 c.2.2.1++(c.2.2.2.1.push z).reverse),c.2.1-1,c.2.2.1,c.2.2.2.1.push z,c.2.2.2.2.1+1,0))
   else if c.2.2.2.2.1+1>=g then pure (ForInStep.done (Y,c.2.1-1,c.2.2.1,c.2.2.2.1.push z,c.2.2.2.2.1+1,0))
   else pure (ForInStep.yield (Y,c.2.1-1,c.2.2.1,c.2.2.2.1.push z,c.2.2.2.2.1+1,0))
  else do
   let z <-elem' b (c.2.2.1-1)
   if(c.2.2.1-1==1)=I then pure (ForInStep.done (J (b.extract 0 (c.2.2.1-1)++a.extract 0 c.2.1++(c.2.2.2.1.push z).reverse),c.2.1,c.2.2.1-1,c.2.2.2.1.push z,0,c.2.2.2.2.2+1))
   else if c.2.2.2.2.2+1>=g then pure (ForInStep.done (Y,c.2.1,c.2.2.1-1,c.2.2.2.1.push z,0,c.2.2.2.2.2+1))
   else pure (ForInStep.yield (Y,c.2.1,c.2.2.1-1,c.2.2.2.1.push z,0,c.2.2.2.2.2+1))
 |_=>pure (ForInStep.done (J (a.extract 0 c.2.1++b.extract 0 c.2.2.1++c.2.2.2.1.reverse),c.2.1,c.2.2.1,c.2.2.2.1,c.2.2.2.2.1,c.2.2.2.2.2))
def Tf(a b:Array Keyed)(c:HS):StateT SortSt Sem (ForInStep HS) :=
 if c.2.2.2.2.1>1 then GL a b c.2.2.2.1 c.2.1 c.2.2.1 (c.2.2.2.2.1-1) c.2.2.2.2.2.1 c.2.2.2.2.2.2
 else GL a b c.2.2.2.1 c.2.1 c.2.2.1 c.2.2.2.2.1 c.2.2.2.2.2.1 c.2.2.2.2.2.2
def Vi(c:HS):StateT SortSt Sem (ForInStep HC) :=
 match c.1 with
 |some r=>pure (ForInStep.done (J r,c.2.1,c.2.2.1,c.2.2.2.1,c.2.2.2.2.1))
 |none=>do
  GJ (c.2.2.2.2.1+1)
  pure (ForInStep.yield (Y,c.2.1,c.2.2.1,c.2.2.2.1,c.2.2.2.2.1+1))
def Vj(a b:Array Keyed)(g:Nat)(c:HB):StateT SortSt Sem (ForInStep HC) :=
 match c.1 with
 |some r=>pure (ForInStep.done (J r,c.2.1,c.2.2.1,c.2.2.2.1,g))
 |none=>do
  liftM (rule "list.sort.gallop")
  let e <-forIn [:a.size+b.size] ((Y,c.2.1,c.2.2.1,c.2.2.2.1,g+1,c.2.2.2.2.1,c.2.2.2.2.2):HS) λ_ e=>Tf a b e
  Vi e
def Vk(a b:Array Keyed)(c:HC):StateT SortSt Sem (ForInStep HC):=do
 let d <-forIn [:a.size+b.size] ((Y,c.2.1,c.2.2.1,c.2.2.2.1,0,0):HB) λ_ d=>Te a b c.2.2.2.2 d
 Vj a b c.2.2.2.2 d
def Vl(a b:Array Keyed)(x:Keyed):StateT SortSt Sem (Array Keyed):=do
 let g <-get
 let r <-forIn [:a.size+b.size] ((Y,a.size-1,b.size,#[x],gallopOf g):HC) λ_ c=>Vk a b c
 match r.1 with
 |some r=>pure r
 |none=>liftM (unsupported "internal:list.sort.merge-bound":Sem (Array Keyed))
def Tg(a b:Array Keyed):pP a b=(do
 liftM (rule "list.sort.merge-hi")
 let x <-elem' a (a.size-1)
 if(a.size-1==0)=I then pure (a.extract 0 (a.size-1)++b.extract++#[x].reverse)
 else if(b.size==1)=I then pure (b.extract++a.extract 0 (a.size-1)++#[x].reverse)
 else Vl a b x):=by
 refine congrArg (Bind.bind _) (funext λ_=>congrArg (Bind.bind _) (funext λx=>congrArg (λz=>ite _ _ (ite _ _ z)) ?_));have e:∀{α β:Type}{x y:StateT SortSt Sem α}{f h:α->StateT SortSt Sem β},x=y->(∀a,f a=h a)->(x >>= f)=(y >>= h):=λe f=>by rw[e,funext f]
 refine congrArg (Bind.bind _) (funext λg=>e (congrArg (forIn _ _) (funext λ_=>funext λc=>?_)) λ⟨r,_⟩=>by cases r<;>rfl);refine e rfl λd=>?_;obtain⟨i,j⟩:=d
 cases i with
 |some r=>rfl
 |none=>exact congrArg (Bind.bind _) (funext λ_=>e rfl λ⟨r,_⟩=>by cases r<;>rfl)
section
variable{prog:Program}{w:World}{A:Around}{E:WA}{s:Shared}{kd:SortKind}{O:KeyOrd}{C:t3 prog w A E s kd O}{st:SortSt}{a b:Array Keyed}
def KY(C:t3 prog w A E s kd O)(a b:Array Keyed)(N:Nat)(c:HS):Prop :=
 c.1=Y/\HI C a b c.2.2.2.1 c.2.1 c.2.2.1/\1<=c.2.1/\c.2.1<=a.size/\2<=c.2.2.1/\c.2.2.1<=b.size/\N<=c.2.2.2.1.size
def qr(C:t3 prog w A E s kd O)(a b:Array Keyed)(N:Nat)(st:SortSt)(r:ForInStep HS)(f:SortSt):Prop:=Eqv st f/\match r with
 |.done c=>(∃x,c.1=J x/\MR C a b x)\/KY C a b N c
 |.yield c=>KY C a b N c
def yq(f:Bi C a b)(h:HI C a b ou m n)(u:1<=m)(j:m<=a.size)(G:2<=n)(i:n<=b.size)(hN:N<=ou.size)(y:∀p q,b[n-1]?=J p->a[m-1]?=J q->O.kle (C.key p) (C.key q)):wpS (model prog w) A E s (KU a b ou m n g ca cb) (qr C a b N st) st:=by
 refine wpS_bind (aW (Ev u j) λx H=>?_);have e:=(Ji u).symm;have B:HI C a b (ou.push x) (m-1) n:=by have F:=h;rw[e]at F;exact F.pushA f.sa f.sb H (MN G) i (λq L=>y q x L H)
 have r:(ou.push x).size=ou.size+1:=FA ..;by_cases l:m-1=0
 .rw[c_ (by simpa using l)];exact wpS_pure ⟨Eqv.rfl',.inl ⟨_,rfl,B.all f.sa f.sb (.inl l)⟩⟩
 .rw[f_ (by simpa using l)];have z:KY C a b N (Y,m-1,n,ou.push x,g,ca,cb):=⟨rfl,B,Nq l,wr (Ev u j),G,i,r▸Nat.le_succ_of_le hN⟩;split
  .exact wpS_pure ⟨Eqv.rfl',.inr z⟩
  .exact wpS_pure ⟨Eqv.rfl',z⟩
def yF(f:Bi C a b)(hk:kindOf st=kd)(h:HI C a b ou m n)(L:1<=m)(j:m<=a.size)(hn:2<=n)(al:n<=b.size)(hN:N<=ou.size)(W:∀p q,a[m-1]?=J p->b[n-1]?=J q->O.kle (C.key p) (C.key q)):wpS (model prog w) A E s (KW a b ou m n g ca cb) (qr C a b N st) st:=by
 have M:=MN hn;have H:=Ev M al;refine wpS_bind (aW H λx hx=>?_);have e:=(Ji M).symm;have X:HI C a b (ou.push x) m (n-1):=by have h':=h;rw[e]at h';exact h'.pushB f.sa f.sb hx L j (λq i=>W q x i hx)
 have S:(ou.push x).size=ou.size+1:=FA ..;by_cases z1:n-1=1
 .rw[c_ (by simpa using z1)];exact wpS_pure ⟨Eqv.rfl',.inl ⟨_,rfl,X.one f z1⟩⟩
 .rw[f_ (by simpa using z1)];refine wpS_bind (aW (Ev L j) λy hy=>?_);refine wpS_bind (fu (C:=C) hk f.gb (bP f.ga hy) ⋯ (Ii (Nl hn) Jp) ?_ λz hz ap U=>?_)
  .intro p q u an i;exact nL f.sb p q (t0 _) an ⋯
  .have l:∀r p q,r<z->b[r]?=J p->a[m-1]?=J q->O.kle (C.key p) (C.key q):=λr p q hr u i=>by
    have:=ap r hr
    unfold iu at this;rw[o0,aV u]at this;rw[hy]at i;cases i;exact KeyOrd.kle_of_klt this
   have P:∀r p q,z<=r->r<n-1->b[r]?=J p->a[m-1]?=J q->O.kle (C.key q) (C.key p):=λr p q F G u i=>by
    have:=U r F G
    unfold iu at this;rw[o0,aV u]at this;rw[hy]at i;cases i;exact this
   dsimp only;by_cases B:n-1-z>0
   .rw[c_ B];have ez:=Nu hz;have R:=X.moveB f.sa f.sb (wr H) L j (n-1-z) (Fk ..) (λr p q F G=>P r p q (ez▸F) G);rw[ez]at R;by_cases Z:z=1
    .rw[c_ (by simpa using Z)];exact wpS_pure ⟨Eqv.rfl',.inl ⟨_,rfl,R.one f Z⟩⟩
    .rw[f_ (by simpa using Z)];by_cases Q:z=0
     .rw[c_ (by simpa using Q)];exact wpS_pure ⟨Eqv.rfl',.inl ⟨_,rfl,R.all f.sa f.sb (.inr Q)⟩⟩
     .rw[f_ (by simpa using Q)];exact yq f R L j ⋯ ⋯ (by rw[Nr];lia) (λp q u i=>l (z-1) p q (Nat.sub_one_lt Q) u i)
   .rw[f_ B];exact yq f X L j ⋯ (wr H) (S▸Nat.le_succ_of_le hN) (λp q u i=>l (n-1-1) p q (oy (Ii (Nl hn) Jp) (UP (UL B))) u i)
def xo(f:Bi C a b)(hk:kindOf st=kd)(h:HI C a b ou m n)(U:1<=m)(G:m<=a.size)(P:2<=n)(j:n<=b.size)(hN:N<=ou.size):
  wpS (model prog w) A E s (GL a b ou m n g ca cb) (qr C a b N st) st:=by
 delta GL;refine wpS_bind (wpS_modify ?_);have ev:Eqv st (SortSt.mk' (kindOf st) (arrOf st) (pendingOf st) g (failedOf st)):=⟨rfl,rfl,rfl,rfl⟩;refine wpS_mono (Q:=qr C a b N (SortSt.mk' (kindOf st) (arrOf st) (pendingOf st) g (failedOf st))) ?_ λr al h=>⟨ev.trans h.1,h.2⟩;have F:kindOf (SortSt.mk' (kindOf st) (arrOf st) (pendingOf st) g (failedOf st))=kd:=hk;refine wpS_bind (aW (Ev (MN P) j) λx W=>?_);refine wpS_bind (fu (C:=C) F f.ga (bP f.gb W) ⋯ (Ii U Jp) ?_ λz hz Z S=>?_)
 .intro p q u X i;exact nL f.sa p q (t0 _) X ⋯
 .have l:∀r p q,r<z->a[r]?=J p->b[n-1]?=J q->O.kle (C.key p) (C.key q):=λr p q hr u i=>by
   have:=Z r hr
   unfold iu at this;rw[o0,aV u]at this;rw[W]at i;cases i;simp only[nw,if_false,Fj]at this;exact this
  have M:∀r p q,z<=r->r<m->a[r]?=J p->b[n-1]?=J q->O.kle (C.key q) (C.key p):=λr p q B H u i=>by
   have:=S r B H
   unfold iu at this;rw[o0,aV u]at this;rw[W]at i;cases i;simp only[nw,if_false,RV]at this;exact KeyOrd.kle_of_klt this
  dsimp only;by_cases y:m-z>0
  .rw[c_ y];have ez:=Nu hz;have R:=h.moveA f.sa f.sb G (MN P) j (m-z) (Fk ..) (λr p q B H=>M r p q (ez▸B) H);rw[ez]at R;by_cases L:z=0
   .rw[c_ (by simpa using L)];exact wpS_pure ⟨Eqv.rfl',.inl ⟨_,rfl,R.all f.sa f.sb (.inl L)⟩⟩
   .rw[f_ (by simpa using L)];exact yF f F R (Nq L) (ny hz G) P j (by rw[Nr];lia) (λp q u i=>l (z-1) p q (Nat.sub_one_lt L) u i)
  .rw[f_ y];exact yF f F h U G P j hN (λp q u i=>l (m-1) p q (Ev U (UP (UL y))) u i)
def OP(C:t3 prog w A E s kd O)(a b:Array Keyed)(N:Nat)(c:HB):Prop :=
 c.1=Y/\HI C a b c.2.2.2.1 c.2.1 c.2.2.1/\1<=c.2.1/\c.2.1<=a.size/\2<=c.2.2.1/\c.2.2.1<=b.size/\N<=c.2.2.2.1.size
def Th(C:t3 prog w A E s kd O)(a b:Array Keyed)(N:Nat)(c:HC):Prop :=
 c.1=Y/\HI C a b c.2.2.2.1 c.2.1 c.2.2.1/\1<=c.2.1/\c.2.1<=a.size/\2<=c.2.2.1/\c.2.2.1<=b.size/\N<=c.2.2.2.1.size
def OQ(C:t3 prog w A E s kd O)(a b:Array Keyed)(N:Nat)(st:SortSt)(r:ForInStep HB)(f:SortSt):Prop:=match r with
 |.done c=>f=st/\((∃x,c.1=J x/\MR C a b x)\/OP C a b N c)
 |.yield c=>f=st/\OP C a b N c
def zc(C:t3 prog w A E s kd O)(a b:Array Keyed)(N:Nat)(st:SortSt)(r:ForInStep HC)(f:SortSt):Prop:=match r with
 |.done c=>Eqv st f/\∃x,c.1=J x/\MR C a b x
 |.yield c=>Eqv st f/\Th C a b N c
def KZ(f:Bi C a b)(Q:kindOf st=kd)(L:HI C a b ou' m' n')(y:1<=m')(j:m'<=a.size)(G:2<=n')(i:n'<=b.size)(hN:N<=ou'.size):
  wpS (model prog w) A E s (Te a b g (Y,m',n',ou',ca,cb)) (OQ C a b (N+1) st) st:=by
 delta Te;dsimp only;have F:=MN G;have na:=Ev y j;have nb:=Ev F i;refine wpS_bind (aW nb λp M=>wpS_bind (aW na λq P=>?_));refine wpS_bind (C.ask p q st _ (bP f.gb M) (bP f.ga P) Q ?_)
 cases R:O.blt (C.key p) (C.key q) with
 |true =>
  dsimp only;refine wpS_bind (aW na λW r=>?_);rw[P]at r;cases r;have em:=(Ji y).symm;have B:HI C a b (ou'.push q) (m'-1) n':=by have H:=L;rw[em]at H;exact H.pushA f.sa f.sb P F i (λS l=>by rw[M]at l;cases l;exact KeyOrd.kle_of_klt R)
  have u:(ou'.push q).size=ou'.size+1:=FA ..;by_cases z:m'-1=0
  .rw[c_ (by simpa using z)];exact wpS_pure ⟨rfl,.inl ⟨_,rfl,B.all f.sa f.sb (.inl z)⟩⟩
  .rw[f_ (by simpa using z)];split
   .exact wpS_pure ⟨rfl,.inr ⟨rfl,B,Nq z,wr na,G,i,u▸Jl hN⟩⟩
   .exact wpS_pure ⟨rfl,rfl,B,Nq z,wr na,G,i,u▸Jl hN⟩
 |false =>
  dsimp only;rw[f_ (by simp)];refine wpS_bind (aW nb λS l=>?_);rw[M]at l;cases l;have U:=(Ji F).symm;have B:HI C a b (ou'.push p) m' (n'-1):=by have H:=L;rw[U]at H;exact H.pushB f.sa f.sb M y j (λW r=>by rw[P]at r;cases r;exact R)
  have u:(ou'.push p).size=ou'.size+1:=FA ..;by_cases z:n'-1=1
  .rw[c_ (by simpa using z)];exact wpS_pure ⟨rfl,.inl ⟨_,rfl,B.one f z⟩⟩
  .rw[f_ (by simpa using z)];split
   .exact wpS_pure ⟨rfl,.inr ⟨rfl,B,y,j,⋯,wr nb,u▸Jl hN⟩⟩
   .exact wpS_pure ⟨rfl,rfl,B,y,j,⋯,wr nb,u▸Jl hN⟩
def K1(j:Eqv E6 st)(f:(∃x,c.1=J x/\MR C a b x)\/KY C a b N c):wpS (model prog w) A E s (Vi c) (zc C a b N E6) st:=by
 obtain⟨H,B,F,l,G,z,u⟩:=c;rcases f with⟨r,i,y⟩|⟨f,i⟩
 .cases i;exact wpS_pure ⟨j,r,rfl,y⟩
 .cases f;exact wpS_bind (wpS_modify (wpS_pure ⟨j.trans ⟨rfl,rfl,rfl,rfl⟩,rfl,i⟩))
def K2(j:Bi C a b)(y:kindOf st=kd)(h:KY C a b N c):wpS (model prog w) A E s (Tf a b c) (qr C a b N st) st:=by
 obtain⟨_,z,l,f,r,i,u⟩:=h;delta Tf;split
 .exact xo j y z l f r i u
 .exact xo j y z l f r i u
def K3(u:Bi C a b)(M:kindOf st=kd)(B:Eqv E6 st)(l:(∃x,c.1=J x/\MR C a b x)\/OP C a b N c):wpS (model prog w) A E s (Vj a b g c) (zc C a b N E6) st:=by
 obtain⟨S,W,U,F,R,Z⟩:=c;rcases l with⟨r,j,H⟩|⟨l,j⟩
 .cases j;exact wpS_pure ⟨B,r,rfl,H⟩
 .cases l;refine wpS_bind (wpS_lift (wpAny_rule ⟨rfl,?_⟩));refine wpS_bind (wpS_mono (wpS_forRange (I:=λy c i=>Eqv st i/\KY C a b N c) (Q:=λc i=>Eqv st i/\((∃x,c.1=J x/\MR C a b x)\/KY C a b N c)) ?_ ?_ ⟨Eqv.rfl',rfl,j⟩) ?_)
  .rintro y c i _ X ⟨f,P⟩;refine wpS_mono (K2 u (f.kind.trans M) P) λr G j=>?_
   cases r with
   |done L=>exact⟨f.trans j.1,j.2⟩
   |yield L=>exact⟨f.trans j.1,j.2⟩
  .rintro c i ⟨f,z⟩;exact⟨f,.inr z⟩
  .rintro c i ⟨f,l⟩;exact K1 (B.trans f) l
def K4(l:Bi C a b)(R:kindOf st=kd)(h:Th C a b N c):wpS (model prog w) A E s (Vk a b c) (zc C a b (N+1) st) st:=by
 obtain⟨F,hI,S,L,Z,u,B⟩:=h
 refine wpS_bind (wpS_mono (wpS_forRange (I:=λy c f=>f=st/\OP C a b (N+y) c)
  (Q:=λc f=>f=st/\((∃x,c.1=J x/\MR C a b x)\/OP C a b (N+1) c)) ?_ ?_ ⟨rfl,rfl,hI,S,L,Z,u,B⟩) ?_)
 .rintro y c f _ hy ⟨rfl,U⟩;obtain⟨F,M,G,z,P,i,j⟩:=U;refine wpS_mono (KZ l R M G z P i j) λr W H=>?_
  cases r with
  |done X=>exact⟨H.1,H.2.imp_right λh=>⟨h.1,h.2.1,h.2.2.1,h.2.2.2.1,h.2.2.2.2.1,h.2.2.2.2.2.1,ny ⋯ h.2.2.2.2.2.2⟩⟩
  |yield X=>exact H
 .rintro c f ⟨rfl,h⟩;exact⟨rfl,.inr ⟨h.1,h.2.1,h.2.2.1,h.2.2.2.1,h.2.2.2.2.1,h.2.2.2.2.2.1,ny ⋯ h.2.2.2.2.2.2⟩⟩
 .rintro c f ⟨rfl,F⟩;exact K3 l R Eqv.rfl' F
def K5(u:Bi C a b)(L:kindOf st=kd)(z:HI C a b #[x0] (a.size-1) b.size)(y:1<=a.size-1)(H:2<=b.size)(h:∀x f,Eqv st f->MR C a b x->Q x f):wpS (model prog w) A E s (Vl a b x0) Q st:=by
 refine wpS_bind (wpS_get ?_)
 refine wpS_bind (wpS_mono (wpS_forRange (I:=λx c f=>Eqv st f/\Th C a b (x+1) c)
  (Q:=λc f=>Eqv st f/\∃x,c.1=J x/\MR C a b x) ?_ ?_ ⟨Eqv.rfl',rfl,z,y,Fk _ _,H,i4 _,i4 _⟩) ?_)
 .rintro x c f _ P ⟨j,l⟩;refine wpS_mono (K4 u (j.kind.trans L) l) λr B i=>?_
  cases r with
  |done G=>exact⟨j.trans i.1,i.2⟩
  |yield G=>exact⟨j.trans i.1,i.2⟩
 .rintro c f ⟨j,l⟩;exfalso
  have:=l.2.1.size l.2.2.2.1 l.2.2.2.2.2.1
  have:=l.2.2.2.2.2.2
  lia
 .rintro c f ⟨j,r,i,F⟩;obtain⟨M,R⟩:=c;cases i;exact wpS_pure (h r f j F)
def K6(f:Bi C a b)(H:kindOf st=kd)(h:∀x j,Eqv st j->MR C a b x->Q x j):wpS (model prog w) A E s (pP a b) Q st:=by
 rw[Tg];refine wpS_bind (wpS_lift (wpAny_rule ⟨rfl,?_⟩));have P:=f.na;have u:=f.nb;refine wpS_bind (aW ⋯ λB i=>?_)
 have L:HI C a b #[] a.size b.size:=⟨by
   have e1:a.toList.take a.size=a.toList:=Ft (by simp);have e2:b.toList.take b.size=b.toList:=Ft (by simp)
   rw[e1,e2];simp,by delta LS;simp,λx _ y M=>by simp at M⟩
 have l:HI C a b #[B] (a.size-1) b.size:=by
  have e:a.size=a.size-1+1:=by lia
  have G:HI C a b #[] (a.size-1+1) b.size:=by rw[<-e];exact L
  have:=G.pushA f.sa f.sb i u (i4 _) (λq F=>f.lst q B (vv.mpr ⟨_,by rw[y6];exact F⟩) i)
  simpa using this
 by_cases z:a.size-1=0
 .rw[c_ (by simpa using z)];exact wpS_pure (h _ st Eqv.rfl' (l.all f.sa f.sb (.inl z)))
 .rw[f_ (by simpa using z)];by_cases r:b.size=1
  .rw[c_ (by simpa using r)];exact wpS_pure (h _ st Eqv.rfl' (l.one f r))
  .rw[f_ (by simpa using r)];exact K5 f H l ⋯ ⋯ h
end
def wY(i:Nat):mergeAt' i=(do
 let c <-get
 let(J (sa,na,pw),J (sb,nb,_)):=((pendingOf c)[i]?,(pendingOf c)[i+1]?)|unsupported "internal:list.sort.pending"
 set (setPending c (((pendingOf c).setIfInBounds i (sa,na+nb,pw)).eraseIdxIfInBounds (i+1)))
 let J k <-gallop' T (<-elem' (arrOf c) sb) (arrOf c) sa na 0|return T
 let(sa,na):=(sa+k,na-k)
 if na==0 then return I
 let J nb <-gallop' I (<-elem' (arrOf c) (sa+na-1)) (arrOf c) sb nb (nb-1)|return T
 if nb==0 then return I
 let x:=(arrOf c).extract sa sb
 let y:=(arrOf c).extract sb (sb+nb)
 let f <-if na<=nb then pA x y else pP x y
 modify λc=>setArr c (f.toList.zipIdx.foldl (λa (p,j)=>a.setIfInBounds (sa+j) p) (arrOf c))
 return (failedOf (<-get)).isNone):=rfl
def GN(f:Nat):∀(l:List Keyed)(q:Nat)(xs:Array Keyed)(i:Nat),((l.zipIdx q).foldl (λa (p:Keyed×Nat)=>a.setIfInBounds (f+p.2) p.1) xs)[i]? =
  if f+q<=i/\i<f+q+l.length/\i<xs.size then l[i-(f+q)]? else xs[i]?:=by
 intro l
 induction l with
 |nil=>intro q xs i;rw[f_ (by simp;lia)];rfl
 |cons p l j =>
  intro q xs i;rw[R1,R5,j];simp only[Array.size_setIfInBounds]
  grind
def Dm{xs ou:Array Keyed}{off:Nat}(h:off+ou.size<=xs.size):
  (ou.toList.zipIdx.foldl (λa (p:Keyed×Nat)=>a.setIfInBounds (off+p.2) p.1) xs).toList=xs.toList.take off++(ou.toList++xs.toList.drop (off+ou.size)):=by
 apply Fw;intro i;rw[y6,GN];have j:(xs.toList.take off).length=off:=by simp;lia
 by_cases f:i<off
 .rw[f_ ⋯,q7 ⋯,QB f,y6]
 .rw[Eb ⋯,j];by_cases l:i<off+ou.size
  .rw[c_ ⟨⋯,by simpa using l,⋯⟩,q7 (by simp;lia)];congr 1
  .rw[f_ (by simp;lia),Eb (by simp;lia),QL,y6];congr 1;simp;lia
section
variable{prog:Program}{w:World}{A:Around}{E:WA}{s:Shared}{kd:SortKind}{O:KeyOrd}{C:t3 prog w A E s kd O}{a₀:Array Keyed}{st:SortSt}
def jB{xs:Array Keyed}{lo l i j:Nat}(h:qd C xs lo l)(f:lo<=i)(a:i<=j)(y:j<l){p q:Keyed}(u:xs[i]?=J p)(r:xs[j]?=J q):O.kle (C.key p) (C.key q):=by
 have:=h i j f a y
 rw[aV u,aV r]at this;exact this
def yj{xs:Array Keyed}{lo f:Nat}{p:Keyed}(j:f<=xs.size)(h:p∈(xs.extract lo f).toList):∃i,lo<=i/\i<f/\xs[i]?=J p:=by
 obtain⟨q,a⟩:=vv.mp h;rw[y6,Ni]at a
 split at a
 .exact⟨lo+q,⋯,⋯,a⟩
 .cases a
def K7{xs:Array Keyed}{i j k:Nat}(a:i<=j)(u:j<=k)(r:k<=xs.size):xs.toList=xs.toList.take i++((xs.extract i j).toList++(xs.extract j k).toList++xs.toList.drop k):=by
 have e1:(xs.extract i j).toList=(xs.toList.drop i).take (j-i):=by simp
 have e2:(xs.extract j k).toList=(xs.toList.drop j).take (k-j):=by simp
 rw[e1,e2];have l:(xs.toList.drop j).take (k-j)++xs.toList.drop k=xs.toList.drop j:=by
  have:=EW (k-j) (xs.toList.drop j)
  simp_all
 have f:(xs.toList.drop i).take (j-i)++xs.toList.drop j=xs.toList.drop i:=by
  have:=EW (j-i) (xs.toList.drop i)
  rw[List.drop_drop]at this;rw[HV a]at this;exact this
 rw[En,l,f,EW]
def xc{n1 pw:Nat}{Q:Bool->SortSt->Prop}(h0:dn C a₀)(hB:SB kd a₀ st)(h1:1<=n1)(h2:n1<a₀.size)(hp:pendingOf st=#[(0,n1,pw),(n1,a₀.size-n1,0)])(H:qd C (arrOf st) 0 n1)(F:qd C (arrOf st) n1 a₀.size)(h:∀ax,SB kd a₀ ax->(pendingOf ax).size=1->qd C (arrOf ax) 0 a₀.size->Q I ax):wpS (model prog w) A E s (mergeAt' 0) Q st:=by
 have ay:=hB.size;have hg:=hB.good h0;have as:=wr h2;rw[wY];refine wpS_bind (wpS_get ?_);rw[hp];have e0:(#[(0,n1,pw),(n1,a₀.size-n1,0)]:Array (Nat×Nat×Nat))[0]?=J (0,n1,pw):=rfl;have e1:(#[(0,n1,pw),(n1,a₀.size-n1,0)]:Array (Nat×Nat×Nat))[0+1]?=J (n1,a₀.size-n1,0):=rfl;rw[e0,e1];dsimp only;refine wpS_bind ?_;have ba:∀(c:SortSt)(Q':PUnit->SortSt->Prop),Q' ⟨⟩ c->wpS (model prog w) A E s (set c:StateT SortSt Sem PUnit) Q' st:=λc Q' hq=>by
  unfold wpS;rw[StateT.run_set];exact i5 ⟨rfl,hq⟩
 refine ba _ _ ?_;obtain⟨L,G⟩:∃c,c=setPending st (((#[(0,n1,pw),(n1,a₀.size-n1,0)]:Array (Nat×Nat×Nat)).setIfInBounds 0 (0,n1+(a₀.size-n1),pw)).eraseIdxIfInBounds (0+1)):=⟨_,rfl⟩;rw[<-G];have B:SB kd a₀ L:=by rw[G];exact⟨hB.perm,hB.kind,hB.failed⟩
 have a2:(pendingOf L).size=1:=by rw[G];simp[pendingOf]
 have a7:arrOf L=arrOf st:=by rw[G]
 clear G;have W:qd C (arrOf st) 0 n1->qd C (arrOf st) n1 a₀.size->(∀i j,i<n1->n1<=j->j<a₀.size->O.kle (kk C (arrOf st) i) (kk C (arrOf st) j))->qd C (arrOf L) 0 a₀.size:=by
  intro g1 g2 g3 i j _ a8 hj;rw[a7];by_cases c1:j<n1
  .exact g1 i j (t0 _) a8 c1
  .by_cases c2:i<n1
   .exact g3 i j c2 ⋯ hj
   .exact g2 i j ⋯ a8 hj
 refine wpS_bind (aW ⋯ λb0 ap=>?_);refine wpS_bind (fu (C:=C) B.kind hg (bP hg ap) ⋯ ⋯ (by rw[o0];exact H) λk hk bu bv=>?_);have an:∀r p,r<k->(arrOf st)[r]?=J p->O.kle (C.key p) (C.key b0):=λr p hr f=>by
  have:=bu r hr
  unfold iu at this;rw[o0,aV f]at this;simp only[nw,if_false,Fj]at this;exact this
 have be:∀r p,k<=r->r<n1->(arrOf st)[r]?=J p->O.kle (C.key b0) (C.key p):=λr p M S f=>by
  have:=bv r M S
  unfold iu at this;rw[o0,aV f]at this;simp only[nw,if_false,RV]at this;exact KeyOrd.kle_of_klt this
 dsimp only;rw[o0];have R:∀i,i<a₀.size->∃p,(arrOf st)[i]?=J p:=λi u=>⟨_,getElem?_pos _ i ⋯⟩;by_cases z1:n1-k=0
 .rw[c_ (by simpa using z1)];refine wpS_pure (h L B a2 (W H F λi j u bi U=>?_));obtain⟨p,f⟩:=R i ⋯;obtain⟨q,z⟩:=R j U;rw[aV f,aV z];exact KeyOrd.kle_trans (an i p (oy u (UK.1 z1)) f) (jB F (i4 _) bi U ap z)
 .rw[f_ (by simpa using z1)];have ez:k+(n1-k)-1=n1-1:=by rw[HV hk]
  rw[ez];refine wpS_bind (aW (ay▸QM (Fk ..) h2) λal a0=>?_);refine wpS_bind (fu (C:=C) B.kind hg (bP hg a0) (Sa ((HV as).trans ay.symm)) (Ii (Nat.sub_pos_of_lt h2) Jp) (by rw[HV as];exact F) λm hm a5 a6=>?_);have a3:∀r p,n1<=r->r<n1+m->(arrOf st)[r]?=J p->O.kle (C.key p) (C.key al):=λr p M S f=>by
   have:=a5 (r-n1) (Nat.sub_lt_left_of_lt_add M S)
   unfold iu at this;rw[HV M,aV f]at this;exact KeyOrd.kle_of_klt this
  have X:∀r p,n1+m<=r->r<a₀.size->(arrOf st)[r]?=J p->O.kle (C.key al) (C.key p):=λr p M S f=>by
   have a9:=Nat.le_of_add_right_le M
   have:=a6 (r-n1) (UN M) (Nat.sub_lt_sub_right a9 S)
   unfold iu at this;rw[HV a9,aV f]at this;exact this
  dsimp only;by_cases z2:m=0
  .rw[c_ (by simpa using z2)];refine wpS_pure (h L B a2 (W H F λi j u bi U=>?_));obtain⟨p,f⟩:=R i ⋯;obtain⟨q,z⟩:=R j U;rw[aV f,aV z];exact KeyOrd.kle_trans (jB H (t0 _) (Nl u) (Ii h1 Jp) f a0) (X j q ⋯ U z)
  .rw[f_ (by simpa using z2)];have mx:=MU (ay.symm▸as:n1<=(arrOf st).size);have mg:n1+m<=(arrOf st).size:=ay.symm▸Nat.add_le_of_le_sub' as hm;have my:=MU mg;have sx:((arrOf st).extract k n1).size=n1-k:=by rw[Array.size_extract,mx]
   have sy:((arrOf st).extract n1 (n1+m)).size=m:=by rw[Array.size_extract,my,UG]
   have gx:∀r,r<n1-k->((arrOf st).extract k n1)[r]?=(arrOf st)[k+r]?:=λr hr=>by rw[Ni,mx,c_ hr]
   have gy:∀r,r<m->((arrOf st).extract n1 (n1+m))[r]?=(arrOf st)[n1+r]?:=λr hr=>by rw[Ni,my,UG,c_ hr]
   have a1:∀p,p∈((arrOf st).extract k n1).toList->∃i,k<=i/\i<n1/\(arrOf st)[i]?=J p:=λp f=>yj ⋯ f;have Z:∀p,p∈((arrOf st).extract n1 (n1+m)).toList->∃i,n1<=i/\i<n1+m/\(arrOf st)[i]?=J p:=λp f=>yj mg f;have bn:Bi C ((arrOf st).extract k n1) ((arrOf st).extract n1 (n1+m)):=by
    refine⟨λp f=>?_,λp f=>?_,qF ⋯ λi j a b c=>H i j (t0 _) b c,qF ⋯ λi j a b c=>F i j a b ⋯,⋯,⋯,?_,?_⟩
    .obtain⟨i,_,_,u⟩:=a1 p f;exact bP hg u
    .obtain⟨i,_,_,u⟩:=Z p f;exact bP hg u
    .intro p q f z;rw[gy 0 ⋯]at f;rw[gx 0 ⋯]at z;have e:(arrOf st)[n1+0]?=J b0:=ap;rw[e]at f;cases f;exact be (k+0) q ⋯ ⋯ z
    .intro x q hx z;obtain⟨i,i1,i2,u⟩:=Z x hx;rw[sx,gx _ ⋯]at z;rw[<-Nat.add_sub_assoc (Nq z1),ez,a0]at z;cases z;exact a3 i x i1 i2 u
   have fin:∀P l,Eqv L l->MR C ((arrOf st).extract k n1) ((arrOf st).extract n1 (n1+m)) P ->
     wpS (model prog w) A E s (do
      modify λc=>setArr c (P.toList.zipIdx.foldl (λa (p:Keyed×Nat)=>a.setIfInBounds (k+p.2) p.1) (arrOf c))
      return (failedOf (<-get)).isNone) Q l:=by
    intro P l ev mr;refine wpS_bind (wpS_modify ?_);refine wpS_bind (wpS_get (wpS_pure ?_));have ea:arrOf l=arrOf st:=ev.arr.trans a7;have so:P.size=n1-k+m:=by
     have:=mr.1.length_eq
     rw[DB,Em,DB,DB,sx,sy]at this;exact this
    have eo:k+P.size=n1+m:=by rw[so,<-Nat.add_assoc,HV hk]
    have hl:=Dm (xs:=arrOf l) (ou:=P) (off:=k) (by rw[ea,eo];exact mg);rw[eo,ea]at hl;have bx:=K7 (xs:=arrOf st) (i:=k) (j:=n1) (k:=n1+m) hk (Jm ..) mg;have KD:(failedOf (setArr l (P.toList.zipIdx.foldl (λa (p:Keyed×Nat)=>a.setIfInBounds (k+p.2) p.1) (arrOf l)))).isNone=I:=by show(failedOf l).isNone=I;rw[ev.failed,B.failed];rfl
    rw[KD];have bt:LS C (P.toList.zipIdx.foldl (λa (p:Keyed×Nat)=>a.setIfInBounds (k+p.2) p.1) (arrOf l)).toList:=by
     rw[ea,hl];have mo:∀p,p∈P.toList->(∃i,k<=i/\i<n1/\(arrOf st)[i]?=J p)\/(∃i,n1<=i/\i<n1+m/\(arrOf st)[i]?=J p):=λp f =>
      (ml.mp (mr.1.mem_iff.mp f)).imp (a1 p) (Z p)
     have mt:∀p,p∈(arrOf st).toList.take k->∃i,i<k/\(arrOf st)[i]?=J p:=λp f=>by
      obtain⟨i,u⟩:=vv.mp f;by_cases c:i<k
      .rw[QB c,y6]at u;exact⟨i,c,u⟩
      .rw[EF (by simp;lia)]at u;cases u
     have md:∀p,p∈(arrOf st).toList.drop (n1+m)->∃i,n1+m<=i/\i<a₀.size/\(arrOf st)[i]?=J p:=λp f=>by
      obtain⟨i,u⟩:=vv.mp f;rw[QL,y6]at u
      have:=(Ng.mp u).1
      exact⟨n1+m+i,⋯,⋯,u⟩
     refine cU ?_ (cU mr.2 ?_ ?_) ?_
     .have:=qF (C:=C) (xs:=arrOf st) (lo:=0) (hi:=k) ⋯ λi j a b c=>H i j a b ⋯
      rw[pF]at this;exact this
     .have:=qF (C:=C) (xs:=arrOf st) (lo:=n1+m) (hi:=(arrOf st).size) (i4 _) λi j a b c=>F i j ⋯ b ⋯
      rw[j4]at this;exact this
     .intro x hx y hy;obtain⟨j,j1,j2,hj⟩:=md y hy;rcases mo x hx with⟨i,i1,i2,u⟩|⟨i,i1,i2,u⟩
      .exact KeyOrd.kle_trans (jB H (t0 _) (Nl i2) (Ii h1 Jp) u a0) (X j y j1 j2 hj)
      .exact jB F i1 ⋯ j2 u hj
     .intro x hx y hy;obtain⟨i,i1,u⟩:=mt x hx;rcases ml.mp hy with hy|hy
      .rcases mo y hy with⟨j,j1,j2,hj⟩|⟨j,j1,j2,hj⟩
       .exact jB H (t0 _) ⋯ j2 u hj
       .exact KeyOrd.kle_trans (an i x i1 u) (jB F (i4 _) j1 ⋯ ap hj)
      .obtain⟨j,j1,j2,hj⟩:=md y hy;exact KeyOrd.kle_trans (an i x i1 u) (jB F (i4 _) ⋯ j2 ap hj)
    have bq:(P.toList.zipIdx.foldl (λa (p:Keyed×Nat)=>a.setIfInBounds (k+p.2) p.1) (arrOf l)).Perm (arrOf st):=by rw[RG,ea,hl];refine List.Perm.trans ?_ (List.Perm.of_eq bx.symm);exact List.Perm.append_left _ (List.Perm.append_right _ mr.1)
    refine h _ ⟨bq.trans hB.perm,ev.kind.trans B.kind,ev.failed.trans B.failed⟩ ?_ ?_
    .show (pendingOf l).size=1;rw[ev.pend];exact a2
    .have:=nL bt
     have e2:(P.toList.zipIdx.foldl (λa (p:Keyed×Nat)=>a.setIfInBounds (k+p.2) p.1) (arrOf l)).size=a₀.size:=(bq.trans hB.perm).size_eq;rw[e2]at this;exact this
   by_cases a4:n1-k<=m
   .rw[c_ a4];refine wpS_bind (KR bn B.kind λP l ev mr=>?_);exact fin P l ev mr
   .rw[f_ a4];refine wpS_bind (K6 bn B.kind λP l ev mr=>?_);exact fin P l ev mr
end
def uP(a:2<=n)(h:n<64):minRun' n n 0=n:=by
 obtain⟨f,hf⟩:∃f,n=f+1:=⟨n-1,⋯⟩
 have:minRun' (f+1) n 0=n+0:=by rw[minRun'_succ,c_ h]
 rw[<-hf]at this;exact this
def Bw(a:2<=n)(h:n<=66):1<=minRun' n n 0/\minRun' n n 0<=n/\n<=2*minRun' n n 0:=by
 by_cases c:n<64
 .rw[uP a c];lia
 .have:n=64\/n=65\/n=66:=by lia
  rcases this with e|e | e<;>subst e
  .have:minRun' 64 64 0=32:=by decide
   rw[this];lia
  .have:minRun' 65 65 0=33:=by decide
   rw[this];lia
  .have:minRun' 66 66 0=33:=by decide
   rw[this];lia
section
variable{prog:Program}{w:World}{A:Around}{E:WA}{s:Shared}{kd:SortKind}{O:KeyOrd}{C:t3 prog w A E s kd O}{a₀:Array Keyed}{st:SortSt}
def One(C:t3 prog w A E s kd O)(a₀:Array Keyed)(f a:Nat)(st:SortSt):Prop:=SB kd a₀ st/\pendingOf st=#[(0,a,0)]/\f<=a/\a<=a₀.size/\qd C (arrOf st) 0 a
def OR(C:t3 prog w A E s kd O)(a₀:Array Keyed)(a:Nat)(st:SortSt):Prop :=
 SB kd a₀ st/\1<=a/\a<a₀.size/\(∃f,pendingOf st=#[(0,a,f),(a,a₀.size-a,0)])/\qd C (arrOf st) 0 a/\qd C (arrOf st) a a₀.size
def vZ{xs ys:Array Keyed}{p lo l:Nat}(h:dz p xs ys)(r:l<=p)(g:qd C xs lo l):qd C ys lo l:=by intro i j f a u;rw[f8 (h i ⋯),f8 (h j ⋯)];exact g i j f a u
def Dl(h0:dn C a₀)(hB:SB kd a₀ st)(a2:pendingOf st=#[])(h2:2<=a₀.size)(a4:a₀.size<=66)(h:∀i,(arrOf i).Perm a₀->failedOf i=Y->qd C (arrOf i) 0 a₀.size->Q () i):wpS (model prog w) A E s sortRuns' Q st:=by
 obtain⟨m1,m2,m3⟩:=Bw h2 a4;rw[sortRuns'_eq];refine wpS_bind (wpS_get ?_);dsimp only;rw[hB.size];generalize minRun' a₀.size a₀.size 0=mr at m1 m2 m3 ⊢
 refine wpS_bind (wpS_mono (wpS_forRange
  (I:=λx c i=>(x=0/\c=(Y,0)/\SB kd a₀ i/\pendingOf i=#[])\/(x=1/\∃f,c=(Y,f)/\One C a₀ mr f i)\/(2<=x/\c=(Y,a₀.size)/\∃f,OR C a₀ f i))
  (Q:=λc i=>c=(Y,a₀.size)/\(One C a₀ mr a₀.size i\/∃f,OR C a₀ f i)) ?_ ?_ (.inl ⟨rfl,rfl,hB,a2⟩)) ?_)
 .rintro x c i _ hx (⟨rfl,rfl,r,j⟩|⟨rfl,f,rfl,r,j,ax,a3,P⟩|⟨a7,rfl,f,M⟩)
  .rw[f_ ⋯];simp only[Nat.sub_zero,o0];refine wpS_bind (yf (p:=0) h0 ⋯ ⋯ r λm H u _ G a1 ay B=>?_);rw[o0]at B;dsimp only;by_cases R:m<mr
   .rw[c_ R];refine wpS_bind (wpS_lift (wpAny_rule ⟨rfl,?_⟩));refine wpS_bind (xW (p:=0) h0 ⋯ ⋯ u (by rw[o0];exact B) λz F _ L S=>?_);simp only[ET,nw,if_false];refine wpS_bind (wpS_get ?_);have M:(pendingOf z).back?=Y:=by rw[L,G,j];rfl
    rw[M];dsimp only;refine wpS_bind (wpS_modify (wpS_pure (.inr (.inl ⟨trivial,_,rfl,⟨F.perm,F.kind,F.failed⟩,?_,⋯,⋯,?_⟩))))
    .show (pendingOf z).push _=_;rw[L,G,j];rfl
    .rw[o0]at S;exact S
   .rw[f_ R];refine wpS_bind (wpS_get ?_);have M:(pendingOf H).back?=Y:=by rw[G,j];rfl
    rw[M];dsimp only;refine wpS_bind (wpS_modify (wpS_pure (.inr (.inl ⟨trivial,_,rfl,⟨u.perm,u.kind,u.failed⟩,?_,⋯,⋯,B⟩))));show(pendingOf H).push _=_;rw[G,j];rfl
  .dsimp only;by_cases U:f>=a₀.size
   .rw[c_ U];have e:f=a₀.size:=by lia
    subst e;exact wpS_pure ⟨rfl,.inl ⟨r,j,ax,a3,P⟩⟩
   .rw[f_ U];have a0:a₀.size-f<=mr:=by lia
    refine wpS_bind (yf (p:=f) h0 ⋯ ⋯ r λm H u an G a1 ay B=>?_);dsimp only;by_cases R:m<mr
    .rw[c_ R];refine wpS_bind (wpS_lift (wpAny_rule ⟨rfl,?_⟩));have em:min (a₀.size-f) mr=a₀.size-f:=by lia
     rw[em];refine wpS_bind (xW (p:=f) h0 ⋯ ⋯ u B λz F al L S=>?_);simp only[ET,nw,if_false];refine wpS_bind (wpS_get ?_);have X:pendingOf z=#[(0,f,0)]:=by rw[L,G,j]
     have M:(pendingOf z).back?=J (0,f,0):=by rw[X];rfl
     rw[M];dsimp only;refine wpS_bind (wpS_mono (wpS_forRange (I:=λ_ c l=>c=(Y,())/\l=z) (Q:=λc l=>c=(Y,())/\l=z) ?_ (λ_ _ hh=>hh) ⟨rfl,rfl⟩) ?_)
     .rintro y c l _ _ ⟨rfl,rfl⟩;refine wpS_bind (wpS_get ?_);rw[X];exact wpS_pure ⟨rfl,rfl⟩
     .rintro c l ⟨rfl,rfl⟩;dsimp only;refine wpS_bind (wpS_modify (wpS_bind (wpS_modify (wpS_pure (.inr (.inr ⟨⋯,?_,f,⟨F.perm,F.kind,F.failed⟩,⋯,⋯,⟨power' a₀.size (2*0+f) (2*0+f+f+(a₀.size-f)) a₀.size,?_⟩,(vZ (an.trans al) (i4 _) P),(by have e:f+(a₀.size-f)=a₀.size:=⋯;rw[e]at S;exact S)⟩))))))
      .have e:f+(a₀.size-f)=a₀.size:=by lia
       rw[e]
      .show ((pendingOf l).modify _ _).push _=_;rw[X];simp
    .rw[f_ R];have em:m=a₀.size-f:=by lia
     subst em;refine wpS_bind (wpS_get ?_);have Z:pendingOf H=#[(0,f,0)]:=by rw[G,j]
     have M:(pendingOf H).back?=J (0,f,0):=by rw[Z];rfl
     rw[M];dsimp only;refine wpS_bind (wpS_mono (wpS_forRange (I:=λ_ c l=>c=(Y,())/\l=H) (Q:=λc l=>c=(Y,())/\l=H) ?_ (λ_ _ hh=>hh) ⟨rfl,rfl⟩) ?_)
     .rintro y c l _ _ ⟨rfl,rfl⟩;refine wpS_bind (wpS_get ?_);rw[Z];exact wpS_pure ⟨rfl,rfl⟩
     .rintro c l ⟨rfl,rfl⟩;dsimp only;refine wpS_bind (wpS_modify (wpS_bind (wpS_modify (wpS_pure (.inr (.inr ⟨⋯,?_,f,⟨u.perm,u.kind,u.failed⟩,⋯,⋯,⟨power' a₀.size (2*0+f) (2*0+f+f+(a₀.size-f)) a₀.size,?_⟩,(vZ an (i4 _) P),(by have e:f+(a₀.size-f)=a₀.size:=⋯;rw[e]at B;exact B)⟩))))))
      .have e:f+(a₀.size-f)=a₀.size:=by lia
       rw[e]
      .show ((pendingOf l).modify _ _).push _=_;rw[Z];simp
  .dsimp only;rw[c_ (i4 _)];exact wpS_pure ⟨rfl,.inr ⟨f,M⟩⟩
 .rintro c i (⟨hx,_⟩|⟨hx,_⟩|⟨_,hc,M⟩)
  .lia
  .lia
  .exact⟨hc,.inr M⟩
 .rintro c i ⟨rfl,hc⟩;dsimp only;rcases hc with⟨r,j,_,_,P⟩|⟨f,r,as,n12,⟨pw,j⟩,ap,a5⟩
  .refine wpS_bind (wpS_mono (wpS_forRange (I:=λ_ c a=>a=i/\c=(Y,())) (Q:=λc a=>a=i/\c=(Y,())) ?_ (λ_ _ hh=>hh) ⟨rfl,rfl⟩) ?_)
   .rintro x c a _ _ ⟨rfl,rfl⟩;refine wpS_bind (wpS_get ?_);rw[c_ (by rw[j];exact i4 1)];exact wpS_pure ⟨rfl,rfl⟩
   .rintro c a ⟨rfl,rfl⟩;exact wpS_pure (h _ r.perm r.failed P)
  .refine wpS_bind (wpS_mono (wpS_forRange (I:=λx c a=>c=(Y,())/\((x=0/\a=i)\/(1<=x/\SB kd a₀ a/\(pendingOf a).size=1/\qd C (arrOf a) 0 a₀.size)))
    (Q:=λc a=>c=(Y,())/\SB kd a₀ a/\qd C (arrOf a) 0 a₀.size) ?_ ?_ ⟨rfl,.inl ⟨rfl,rfl⟩⟩) ?_)
   .rintro x c a _ _ ⟨rfl,W⟩;rcases W with⟨rfl,rfl⟩|⟨a6,b1,b2,b3⟩
    .refine wpS_bind (wpS_get ?_);rw[f_ (by rw[j];simp)];rw[j];refine wpS_bind (xc (n1:=f) (pw:=pw) h0 r as n12 j ap a5 λz c1 c2 c3=>?_);simp only[ET,nw,if_false];exact wpS_pure ⟨rfl,.inr ⟨⋯,c1,c2,c3⟩⟩
    .refine wpS_bind (wpS_get ?_);rw[c_ (by rw[b2];exact i4 1)];exact wpS_pure ⟨rfl,b1,b3⟩
   .rintro c a ⟨rfl,⟨hx,_⟩|⟨_,b1,_,b3⟩⟩
    .lia
    .exact⟨rfl,b1,b3⟩
   .rintro c a ⟨rfl,b1,b3⟩;exact wpS_pure (h _ b1.perm b1.failed b3)
end
end SortT
namespace SortT
open PyProof.Rows SetT PySem.W
def ce:WN->WN->Bool
 |[],[]=>T
 |[],_::_=>I
 |_::_,[]=>T
 |a::x,b::y=>if a=b then ce x y else decide (a<b)
def oZ:∀x,ce x x=T
 |[]=>rfl
 |a::x=>by unfold ce;rw[c_ rfl];exact oZ x
def qN:∀x y z,ce x y=I->ce y z=I->ce x z=I
 |[],_::_,_::_,_,_=>rfl
 |a::x,b::y,c::z,i,f=>by
  unfold ce at i f ⊢;by_cases e1:a=b
  .rw[c_ e1]at i;by_cases e2:b=c
   .rw[c_ e2]at f;rw[c_ (e1.trans e2)];exact qN x y z i f
   .rw[f_ e2]at f;rw[f_ (λq=>e2 (e1.symm.trans q)),e1];exact f
  .grind
def uH:∀x y z,ce x z=I->ce x y=I\/ce y z=I
 |[],[],_::_,_=>.inr rfl
 |[],_::_,_,_=>.inl rfl
 |_::_,[],_::_,_=>.inr rfl
 |a::x,b::y,c::z,h=>by
  unfold ce at h ⊢;by_cases e1:a=b
  .rw[c_ e1];by_cases e2:b=c
   .rw[c_ e2];rw[c_ (e1.trans e2)]at h;exact uH x y z h
   .rw[f_ (λq=>e2 (e1.symm.trans q)),e1]at h;rw[f_ e2];exact .inr h
  .grind
def lS:∀x y,ce x y=T->ce y x=T->x=y
 |[],[],_,_=>rfl
 |a::x,b::y,f,i=>by
  unfold ce at f i;by_cases e:a=b
  .rw[c_ e]at f;rw[c_ e.symm]at i;rw[e,lS x y f i]
  .rw[f_ e]at f;rw[f_ (λq=>e q.symm)]at i
   grind
def GO:KeyOrd:=⟨WN,ce,oZ,qN,uH,lS⟩
def GP(l:WP):Prop:=l.Pairwise λx y=>ce y x=T
section
variable{prog:Program}{w:World}{A:Around}{E:WA}{s:Shared}
def p7(prog:Program)(w:World)(h:Heap)(v:Value):WN:=Classical.epsilon λk=>∃a,v=.ref a/\TK prog w h k a
def jv(t:TK prog w h k a):p7 prog w h (.ref a)=k:=by
 have:=Classical.epsilon_spec (p:=λk=>∃b,Value.ref a=.ref b/\TK prog w h k b) ⟨k,a,rfl,t⟩
 obtain⟨b,e,f⟩:=this;cases e;exact IsTupleKey.inj f t
def K8:∀(xs ys:WT)(f r:WN)(i:Nat),ItemsAre (intKind prog w) f xs->ItemsAre (intKind prog w) r ys->fin=decide (xs.length<ys.length)->Q (ce f r) s ->
  KatLex prog w A b fin Q (xs.zip ys) i s:=by
 intro xs
 induction xs with
 |nil =>
  intro ys f r i F G hf a;cases F
  cases G with
  |nil=>rw[hf];exact a
  |cons M L=>rw[hf];exact a
 |cons x xs O =>
  intro ys f r i F G hf a
  cases F with
  |@cons l _ H _ M z =>
   cases G with
   |nil=>rw[hf];exact a
   |@cons j y u C L B =>
    obtain⟨R,rfl⟩:=Value.isInt_shape (k:=l) (v:=x) M;obtain⟨S,rfl⟩:=Value.isInt_shape (k:=j) (v:=y) L;refine kat_cons (wpAny_eqBool_int ?_);unfold ce at a;by_cases e:l=j
    .rw[c_ e]at a
     have:(l==j)=I:=by simpa using e
     rw[this];exact kat_yes (O C H u (i+1) z B (by rw[hf];simp) a)
    .rw[f_ e]at a
     have:(l==j)=T:=by simpa using e
     rw[this];refine kat_no ?_
     cases P:(b&&i==0) with
     |true=>exact oneLt_int a
     |false=>exact kat_one _ _ (wpAny_lt_int a)
def OS(prog:Program)(w:World)(A:Around)(E:WA)(s:Shared)(b:Bool):t3 prog w A E s (tuples' b) GO where
 key:=λp=>p7 prog w s.heap p.1
 dflt:=([]:WN)
 good:=λp=>∃a k,p.1=.ref a/\TK prog w s.heap k a
 ask:=λx y st Q O H R P=>by
  obtain⟨x1,x2⟩:=x;obtain⟨W,y2⟩:=y;obtain⟨L,z,ex,C⟩:=O;obtain⟨S,F,B,ty⟩:=H;simp only at ex B;subst ex;subst B;have U:Q (J (ce z F)) st:=by
   have M:=jv C;have G:=jv ty;have e:GO.blt (p7 prog w s.heap (.ref L)) (p7 prog w s.heap (.ref S))=ce z F:=by rw[M,G];rfl
   rw[<-e];exact P
  obtain⟨ox,ix,nx,u,_,j,f⟩:=C;obtain⟨Z,iy,X,i,_,l,r⟩:=ty;rw[lt'_eq];refine wpS_bind (wpS_get ?_);rw[R];refine wpS_bind (wpS_lift (wpAny_attempt (kat_lt u j i l (K8 _ _ _ _ _ f r (by simp) ⟨rfl,?_⟩))));exact wpS_pure U
def u5{z:WT}{F:WP}{Q:SortKind->Shared->Prop}(R:E7 prog w s.heap z.toArray F)(L:∀k∈F,k≠[])(h1:0<z.length)(h:Q (tuples' I) s):
  wpAny (model prog w) A (keyKind' z.toArray) Q E s:=by
 have C:z.length=F.length:=by have:=R.1;simpa using this
 have key:∀(y:WT)(j:WP),y.length=j.length->(∀(i:Nat)(v:Value)(k:WN),y[i]?=J v->j[i]?=J k->∃a,v=.ref a/\TK prog w s.heap k a)->(∀k∈j,k≠[]) ->
   ∃fs:WT,fs.length=y.length/\KatTups s.heap y fs/\∀v∈fs,∃i t,v=.int i t:=by
  intro y
  induction y with
  |nil=>intro j _ _ _;exact⟨[],rfl,KatTups.nil,λv hv=>by cases hv⟩
  |cons u y ih =>
   intro j W r P
   cases j with
   |nil=>simp at W
   |cons k j =>
    obtain⟨a,rfl,o,items,n,ho,Z,hd,hi⟩:=r 0 u k rfl rfl;obtain⟨fs,X,H,M⟩:=ih j (by simpa using W) (λi v O hv f=>r (i+1) v O (by simpa using hv) (by simpa using f)) (λO f=>P O (mw _ f))
    cases k with
    |nil=>exact absurd rfl (P [] xg)
    |cons U kr =>
     have B:=hi;generalize G:items.toList=l at B
     cases B with
     |@cons _ v0 _ vr h0 hr =>
      obtain⟨S,rfl⟩:=Value.isInt_shape h0;have hg:items[0]?=J (.int U S):=by rw[<-y6,G];rfl
      refine⟨.int U S::fs,by simp[X],KatTups.cons ho Z hd hg H,λv hv=>?_⟩;rcases lb.mp hv with rfl|hv
      .exact⟨_,_,rfl⟩
      .exact M v hv
 obtain⟨fs,X,H,M⟩:=key z F C (λi v k hv f=>R.2 i v k (by simpa using hv) f) L;refine kat_kind (T:=.type "int") H ⋯ (λv hv=>?_) (by decide) ?_
 .obtain⟨i,t,rfl⟩:=M v hv;exact .now
 .exact h
def Bt(ho:s.heap.get? a=J (seqObj "list" vs.toArray n))(G:E7 prog w s.heap vs.toArray z)(ax:∀k∈z,k≠[])(a6:vs.length<=66)(h:∀(R:WT) (O:WP),E7 prog w s.heap R.toArray O->R.Perm vs->O.Perm z->GP O->P (.done (.ret .none)) { s with heap:=sortedHeap s.heap a vs R.toArray}):
  wpAny (model prog w) A (Builtin.«list.sort» ⟨[.ref a],[]⟩) P E s:=by
 rw[list_sort_plain];have F:vs.length<=sizeLine:=by rw[sizeLine_eq];lia
 refine e_ (listItems_at ho rfl ?_);refine e_ (listUpdate_at ho rfl ?_ (by rw[oh];exact F) (t0 _));obtain⟨e1,an⟩:∃e1,(s.heap.update a (Obj.mapSeq λ_=>(#[]:Array Value))).get? a=J (seqObj "list" #[] e1):=⟨_,get?_update_seq ho λ_=>#[]⟩;refine e_ (seqEpoch_at an rfl ?_);refine e_ (wpAny_newTuple ?_ (by show vs.length<=_;exact F));refine e_ (wpAny_newList ?_ (t0 _));refine wpAny_holding ?_;have H:(((s.heap.update a (Obj.mapSeq λ_=>(#[]:Array Value))).push (seqObj "tuple" vs.toArray 0)).push (seqObj "list" #[] 0)).get? a=J (seqObj "list" #[] e1) :=
  k_ _ (k_ _ an)
 have X:∀k b,TK prog w s.heap k b->TK prog w (((s.heap.update a (Obj.mapSeq λ_=>(#[]:Array Value))).push (seqObj "tuple" vs.toArray 0)).push (seqObj "list" #[] 0)) k b:=by
  rintro k b ⟨o,items,m,hb,hc,r⟩;have Z:b≠a:=by rintro rfl;rw[ho]at hb;cases hb;have ay:Value.type "list"=Value.type "tuple":=hc;exact absurd ay (by decide)
  exact⟨o,items,m,k_ _ (k_ _ ((Nm _ _ _ _ Z).trans hb)),hc,r⟩
 show wpAny (model prog w) A _ P E { s with heap:=((s.heap.update a (Obj.mapSeq λ_=>(#[]:Array Value))).push (seqObj "tuple" vs.toArray 0)).push (seqObj "list" #[] 0)};have U:E7 prog w (((s.heap.update a (Obj.mapSeq λ_=>(#[]:Array Value))).push (seqObj "tuple" vs.toArray 0)).push (seqObj "list" #[] 0)) vs.toArray z :=
  ⟨G.1,λi v k hv l=>let⟨b,e,t⟩:=G.2 i v k hv l;⟨b,e,X k b t⟩⟩
 have as:vs.toArray.size=vs.length:=by simp
 dsimp only;by_cases h2:vs.toArray.size<2
 .rw[c_ h2,c_ h2];refine e_ (i5 ?_);rw[StateT.run_pure];refine e_ (i5 ?_);dsimp only;refine e_ (seqEpoch_at H rfl ?_);have hz:((vs.toArray.zip vs.toArray).map (·.2))=vs.toArray:=by
   apply Ib.mp;simp only[Array.toList_map,Array.toList_zip,List.toList_toArray];exact List.map_snd_zip (i4 _)
  refine e_ (listUpdate_at H rfl ?_ (t0 _) (by show((vs.toArray.zip vs.toArray).map (·.2)).size<=_;rw[hz,as];lia));simp only[bne_self_eq_false,nw,if_false];refine i5 ?_
  have:=h vs z G (List.Perm.refl _) (List.Perm.refl _) (by
   have hl:z.length<2:=by have:=G.1;lia
   delta GP
   match z,hl with
   |[],_=>simp
   |[x],_=>simp)
  have e:(arrOf (SortSt.mk' general' (vs.toArray.zip vs.toArray) #[] 7 Y)).map (·.2)=vs.toArray:=hz;rw[e];exact this
 .rw[f_ h2,f_ h2];refine e_ (u5 (s:={ s with heap:=_}) U ax ⋯ ?_);have a5:(pairsOf vs).size=vs.length:=pairsOf_size vs
  refine e_ (wpAny_mono (Dl (C:=OS prog w A E { s with heap:=((s.heap.update a (Obj.mapSeq λ_=>(#[]:Array Value))).push (seqObj "tuple" vs.toArray 0)).push (seqObj "list" #[] 0)} I)
   (a₀:=pairsOf vs) (st:=SortSt.mk' (tuples' I) (vs.toArray.zip vs.toArray) #[] 7 Y)
   (Q:=λ_ f=>(arrOf f).Perm (pairsOf vs)/\failedOf f=Y/\qd (OS prog w A E { s with heap:=((s.heap.update a (Obj.mapSeq λ_=>(#[]:Array Value))).push (seqObj "tuple" vs.toArray 0)).push (seqObj "list" #[] 0)} I) (arrOf f) 0 (pairsOf vs).size)
   ?_ ⟨Array.Perm.refl _,rfl,rfl⟩ rfl ⋯ ⋯ λf a1 a2 a3=>⟨a1,a2,a3⟩) ?_ λ_ _ e=>e)
  .intro p S;rw[pairsOf_toList]at S;obtain⟨q1,q2⟩:=mem_zip_self S;obtain⟨i,y⟩:=vv.mp q2
   obtain⟨k,l⟩:∃k,z[i]?=J k:=⟨_,q_ (by
    have h3:=(kx.mp y).1
    have:=G.1;lia)⟩
   obtain⟨b,e,t⟩:=U.2 i p.1 k (by simpa using y) l;exact⟨b,k,e,t⟩
  .rintro⟨⟨⟩,f⟩ s' ⟨rfl,S,hf,hs⟩;dsimp only;refine e_ (seqEpoch_at H rfl ?_);have hz:((arrOf f).map (·.2)).size=vs.length:=by rw[Array.size_map,S.size_eq,a5]
   refine e_ (listUpdate_at H rfl ?_ (t0 _) (by show((arrOf f).map (·.2)).size<=_;rw[hz];lia));rw[hf];simp only[bne_self_eq_false,nw,if_false];refine i5 ?_;have hl:(arrOf f).toList.Perm (vs.zip vs):=by rw[<-pairsOf_toList];exact RG.mp S
   have B:∀p,p∈(arrOf f).toList->p.1=p.2/\p.1∈vs:=λp ap=>mem_zip_self (hl.mem_iff.mp ap);have hv:∀v,v∈vs->∃k b,v=.ref b/\TK prog w s.heap k b/\k∈z:=λv hv=>by
    obtain⟨i,y⟩:=vv.mp hv
    obtain⟨k,l⟩:∃k,z[i]?=J k:=⟨_,q_ (by
     have h3:=(kx.mp y).1
     have:=G.1;lia)⟩
    obtain⟨b,e,t⟩:=G.2 i v k (by simpa using y) l;exact⟨k,b,e,t,vv.mpr ⟨i,l⟩⟩
   have al:vs.map (p7 prog w s.heap)=z:=by
    apply Fw;intro i;rw[oe]
    cases y:vs[i]? with
    |none =>
     have:=List.getElem?_eq_none_iff.mp y
     rw[EF (by have:=G.1;lia)];rfl
    |some v =>
     obtain⟨k,l⟩:∃k,z[i]?=J k:=⟨_,q_ (by
      have h3:=(kx.mp y).1
      have:=G.1;lia)⟩
     obtain⟨b,e,t⟩:=G.2 i v k (by simpa using y) l;subst e;rw[l];show J (p7 prog w s.heap (.ref b))=J k;rw[jv t]
   have M:∀v,v∈vs->p7 prog w (((s.heap.update a (Obj.mapSeq λ_=>(#[]:Array Value))).push (seqObj "tuple" vs.toArray 0)).push (seqObj "list" #[] 0)) v=p7 prog w s.heap v:=λv u=>by
    obtain⟨k,b,rfl,t,_⟩:=hv v u;rw[jv t,jv (X k b t)]
   have L:=h ((arrOf f).toList.map (·.2)) ((arrOf f).toList.map λp=>p7 prog w s.heap p.1) ?_ ?_ ?_ ?_
   .have e:((arrOf f).toList.map (·.2)).toArray=(arrOf f).map (·.2):=by apply Ib.mp;simp
    rw[e]at L;exact L
   .refine⟨by simp,λi v k u l=>?_⟩;rw[MC,oe]at u;rw[oe]at l
    cases y:(arrOf f).toList[i]? with
    |none=>rw[y]at u;cases u
    |some p =>
     rw[y]at u l;cases u;cases l;obtain⟨q1,q2⟩:=B p (wj y);obtain⟨k,b,e,t,_⟩:=hv p.1 q2;refine⟨b,by show p.2=_;rw[<-q1];exact e,?_⟩;show TK prog w s.heap (p7 prog w s.heap p.1) b;rw[e,jv t];exact t
   .have q:=hl.map (·.2);rw[List.map_snd_zip (i4 _)]at q;exact q
   .have q:=hl.map λp=>p7 prog w s.heap p.1;have e2:(vs.zip vs).map (λp=>p7 prog w s.heap p.1)=z:=by
     rw[<-al]
     have:(vs.zip vs).map (λp=>p7 prog w s.heap p.1)=((vs.zip vs).map Prod.fst).map (p7 prog w s.heap):=by rw[CA];rfl
     rw[this,List.map_fst_zip (i4 _)]
    rw[e2]at q;exact q
   .delta GP;rw[Nt,HR];intro i j y hj a0;have a4:i<(arrOf f).size:=by simpa using y
    have W:j<(arrOf f).size:=by simpa using hj
    have q:=hs i j (t0 _) (wr a0) (by rw[<-S.size_eq];exact W);rw[aV (getElem?_pos _ i a4),aV (getElem?_pos _ j W)]at q;have m1:=(B (arrOf f)[i] (by simp)).2;have m2:=(B (arrOf f)[j] (by simp)).2;have q':ce (p7 prog w (((s.heap.update a (Obj.mapSeq λ_=>(#[]:Array Value))).push (seqObj "tuple" vs.toArray 0)).push (seqObj "list" #[] 0)) (arrOf f)[j].1)
     (p7 prog w (((s.heap.update a (Obj.mapSeq λ_=>(#[]:Array Value))).push (seqObj "tuple" vs.toArray 0)).push (seqObj "list" #[] 0)) (arrOf f)[i].1)=T:=q
    rw[M _ m1,M _ m2]at q';simpa using q'
def ku(j:h.get? a=J (seqObj "list" vs.toArray n))(f:Array Value):∃c,(sortedHeap h a vs f).get? a=J (seqObj "list" f c):=by obtain⟨e1,i⟩:∃e1,(h.update a (Obj.mapSeq λ_=>(#[]:Array Value))).get? a=J (seqObj "list" #[] e1):=⟨_,get?_update_seq j λ_=>#[]⟩;exact⟨_,get?_update_seq (k_ _ (k_ _ i)) λ_=>f⟩
def jO(i:b≠a)(j:h.get? b=J o)(f:Array Value):(sortedHeap h a vs f).get? b=J o:=by unfold sortedHeap;rw[Nm _ _ _ _ i];exact k_ _ (k_ _ ((Nm _ _ _ _ i).trans j))
structure Told(prog:Program)(w:World)(R:Value->Prop)(H0 h h':Heap)(l:Addr)(ks:WP)(out:WT)(ks':WP):Prop where
 ext:DZ h h'
 fresh:h.get? l=Y
 size:h.objs.size<=l
 at':∃c,h'.get? l=J (seqObj "list" out.toArray c)
 lie:E7 prog w H0 out.toArray ks'
 perm:ks'.Perm ks
 ris:GP ks'
 mem:∀v∈out,R v
def tD(hx:DZ H0 s.heap)(al:∀k∈Z,k≠[])(ax:Z.length<=66)(hc:wpAny (model prog w) A.in1 (collect v) (λj s1=>∃G C f,s1={ s with heap:=G,toks:=C}/\DZ s.heap G/\s.heap.objs.size<G.objs.size/\s.toks<=C/\E7 prog w H0 (List.toArray j) f/\f.Perm Z/\∀v∈j,R v) E s)(h:∀G C l y B,Told prog w R H0 s.heap G l Z y B->s.toks<=C->Q (.ref l) { s with heap:=G,toks:=C}):
  wpAny (model prog w) A (call (.builtin "sorted") [v]) Q E s:=by
 refine Calls.call_function_entry kind_sorted plain_sorted entry_sorted (args_sorted1 _) ?_;refine e_ (i5 ?_);refine e_ (wpAny_mono hc (λj s1 X=>?_) λ_ _ e=>e);obtain⟨z,C,f,rfl,P,O,an,a,p1,hR⟩:=X;have U:j.length=f.length:=by have:=a.1;simpa using this
 have H:j.length<=66:=by rw[U,p1.length_eq];exact ax
 refine e_ (wpAny_newList ?_ (by rw[sizeLine_eq];lia));have F:(z.push (seqObj "list" j.toArray 0)).get? z.objs.size=J (seqObj "list" j.toArray 0):=rb _ rfl;have up:∀b o,z.get? b=J o->(z.push (seqObj "list" j.toArray 0)).get? b=J o:=λb o e=>k_ _ e;have M:E7 prog w (z.push (seqObj "list" j.toArray 0)) j.toArray f:=⟨a.1,λi u k W S=>let⟨b,e,t⟩:=a.2 i u k W S;⟨b,e,nC (λc o ho=>up c o (P c o (hx c o ho))) t⟩⟩
 refine e_ (wpAny_holding (wpAny_call_entry slot_list_sort ⟨_,F,rfl⟩ entry_list_sort
  (Bt F M (λk S=>al k (p1.mem_iff.mp S)) H λy B l2 pv p2 r2=>⟨_,rfl,?_⟩) (args_list_sort _)))
 refine i5 ⟨_,rfl,?_⟩;have r:s.heap.get? z.objs.size=Y:=by
  cases e:s.heap.get? z.objs.size with
  |none=>rfl
  |some o=>exact absurd (l_ (P _ _ e)) (Ef _)
 refine h _ C z.objs.size y B ⟨λb o e=>?_,r,wr O,ku F _,⟨l2.1,λi u k W S=>?_⟩,p2.trans p1,r2,λv hv=>hR v (pv.mem_iff.mp hv)⟩ an
 .have hb:=tt (l_ (P b o e));exact jO hb (up b o (P b o e)) _
 .obtain⟨b,e,t⟩:=l2.2 i u k W S;have ap:y[i]?=J u:=by simpa using W
  have L:=pv.mem_iff.mp (wj ap);obtain⟨q,X⟩:=vv.mp L;obtain⟨k1,as⟩:∃k1,f[q]?=J k1:=⟨_,q_ (by have:=(kx.mp X).1;lia)⟩;obtain⟨b1,e1,t1⟩:=a.2 q u k1 (by simpa using X) as;rw[e]at e1;cases e1;have t2:=nC (λc o ho=>up c o (P c o (hx c o ho))) t1
  have:=IsTupleKey.inj t t2
  subst this;exact⟨b,e,t1⟩
def zY(G:A.handled=Y)(B:eK prog w (PB H0 R) s.heap S (cw w) r)(F:DZ H0 s.heap)(u:∀k∈r,k≠[])(C:r.length<=66)(h:∀i j l y f,Told prog w (λv=>∃a,v=.ref a/\R a) H0 s.heap i l r y f->s.toks<=j->Q (.ref l) { s with heap:=i,toks:=j}):
  wpAny (model prog w) A (call (.builtin "sorted") [.ref S]) Q E s :=
 tD F u C (w6 (by simpa using G) B F λi j H f a z b c e d=>⟨i,j,f,rfl,a,z,b,c,d,e⟩) h
def wW{l:Addr}{f:WT}{a:WP}{Q:WA}(G:s.heap.IsList l f.toArray)(C:E7 prog w s.heap f.toArray a)(i:∀k∈a,k≠[])(u:a.length<=66)(h:∀z B l r j,Told prog w (·∈f) s.heap s.heap z l a r j->s.toks<=B->Q (.ref l) { s with heap:=z,toks:=B}):
  wpAny (model prog w) A (call (.builtin "sorted") [.ref l]) Q E s:=by
 have F:f.length=a.length:=by have:=C.1;simpa using this
 refine tD (λb o e=>e) i u (collect_list G ⟨_,s.toks,a,rfl,λb o e=>?_,by rw[Heap.size_update,size_push'];exact MQ _,i4 _,C,List.Perm.refl _,λv hv=>hv⟩ (by rw[sizeLine_eq];lia)) h;have y:=l_ e;rw[Nm _ _ _ _ (tt y)];exact k_ _ e
end
end SortT
namespace MM
open PySem.Spec PyProof.Rows L2 SetT SortT
def kF:WL->Option (WN)
 |[]=>J []
 |.int i::r=>(kF r).map (i::·)
 |_=>Y
def Rh:PV->Option (WN)
 |.tup xs=>kF xs
 |_=>Y
def jW:WL->Option (WP)
 |[]=>J []
 |x::r=>(match Rh x,jW r with
  |some k,J a=>J (k::a)
  |_,_=>Y)
def kP(k:WN):PV:=.tup (k.map .int)
def cE(l:WP):WP:=l.mergeSort λx y=>!ce y x
def cS(l:WP):(cE l).Perm l:=List.mergeSort_perm _ _
def lZ(l:WP):GP (cE l):=by
 have:=UH (le:=λx y=>!ce y x) (λa b c f i=>by
   simp only[Fj]at f i ⊢
   exact KeyOrd.kle_trans (O:=GO) f i) (λa b=>by
   cases h:ce b a with
   |false=>simp
   |true =>
    have:ce a b=T:=KeyOrd.klt_asymm (O:=GO) h
    simp[this])
 delta GP cE
 simp_all
def lA(f:GP l)(i:GP m)(p:l.Perm m):l=m :=
 List.Perm.eq_of_pairwise (λa b _ _ x y=>lS a b y x) f i p
def vI:∀{xs:WL}{k:WN},kF xs=J k->xs=k.map .int
 |[],k,h=>by cases h;rfl
 |x::r,k,h=>by
  cases x with
  |int i =>
   unfold kF at h
   cases a:kF r with
   |none=>rw[a]at h;cases h
   |some f =>
    rw[a]at h;cases h;rw[vI a];rfl
  |_=>cases h
def K9(h:Rh x=J k):x=kP k:=by
 cases x with
 |tup xs=>delta kP;rw[vI (show kF xs=J k from h)]
 |_=>cases h
def rD:∀{xs:WL}{f:WP},jW xs=J f->xs=f.map kP
 |[],f,h=>by cases h;rfl
 |x::r,f,h=>by
  unfold jW at h
  cases a:Rh x with
  |none=>rw[a]at h;cases h
  |some k =>
   cases i:jW r with
   |none=>rw[a,i]at h;cases h
   |some j =>
    rw[a,i]at h;cases h;rw[K9 a,rD i];rfl
def GQ(K:h_)(H:Hp)(ys:List V)(f:WP):Prop :=
 ys.length=f.length/\∀(i:Nat)(y:V)(k:WN),ys[i]?=J y->f[i]?=J k->∃a,y=.ref a/\SqT K H a (k.map V.int)
def Ew{K:h_}{U:WS}{H:Hp}:∀{k:WN}{ys:List V},RPs K U H (k.map PV.int) ys->ys=k.map V.int
 |[],ys,h=>by cases h;rfl
 |i::k,ys,h=>by
  cases h with
  |cons r t =>
   cases r;rw[Ew t];rfl
def sv{K:h_}{U:WS}{H:Hp}:∀{a:WP}{ys:List V},RPs K U H (a.map kP) ys->GQ K H ys a
 |[],ys,h=>by cases h;exact⟨rfl,λi y k e=>by simp at e⟩
 |k::a,ys,h=>by
  cases h with
  |cons r t =>
   obtain⟨l,g⟩:=sv t;refine⟨by simp[l],λi y u e1 e2=>?_⟩
   cases i with
   |zero =>
    simp at e1 e2;subst e1;subst e2
    cases r with
    |tup f j =>
     rw[Ew j]at f;exact⟨_,rfl,f⟩
   |succ i=>exact g i y u (by simpa using e1) (by simpa using e2)
def ss{K:h_}{U:WS}{H:Hp}:∀{f:WP}{ys:List V},GQ K H ys f->RPs K U H (f.map kP) ys
 |[],ys,h=>by
  have:=Je.mp (by have:=h.1;simpa using this)
  subst this;exact .nil
 |k::f,ys,h=>by
  cases ys with
  |nil=>have:=h.1;simp at this
  |cons y ys =>
   obtain⟨a,rfl,r⟩:=h.2 0 y k rfl rfl;refine .cons (.tup r (RPs.ints k)) (ss ⟨by have:=h.1;simpa using this,λi l j e1 e2=>h.2 (i+1) l j (by simpa using e1) (by simpa using e2)⟩)
def qx:∀{k:WN}{a:WT},aD (k.map V.int) a->ItemsAre (intKind prog w) k a
 |[],_,h=>by cases h;exact .nil
 |i::k,_,h=>by
  cases h with
  |cons r t =>
   obtain⟨f,rfl⟩:=r;exact .cons (intKind_is _ _ _ _) (qx t)
section
variable{X:Cx}{Oa:List (Addr × Obj)}{Z:L2.St}{H:Hp}{s:Shared}
def qb(f:Inv X Oa Z H s)(h:SqT X.K H a (k.map V.int)):TK X.prog X.w s.heap k a:=by obtain⟨i,j,⟨o,l,r,n,hd⟩,_⟩:=f.tuple h;exact⟨o,i.toArray,n,l,r,hd,by simpa using qx j⟩
def xR(f:Inv X Oa Z H s)(h:GQ X.K H ys ks)(j:aD ys its):E7 X.prog X.w s.heap its.toArray ks:=by
 refine⟨by simp[<-j.length,h.1],λi v k hv l=>?_⟩;have z:i<ys.length:=by rw[h.1];exact(kx.mp l).1
 obtain⟨a,e,y⟩:=h.2 i ys[i] k (by simp) l;obtain⟨u,B,r⟩:=j.get (show ys[i]?=J ys[i] by simp)
 have:v=u:=by simp_all
 subst this;rw[e]at r;exact⟨a,r,qb f y⟩
end
def IF(prog:Program)(w:World)(S:Addr)(i:List (WN×Addr))(h:Heap):Prop :=
 ∃o a f t,h.get? S=J o/\o.ExactSet/\o.data=.set a f t/\t.dummies=#[]/\(t.mask=7\/t.mask=31\/t.mask=127)/\t.plain=I/\t.led=cw w /\
  WF t.mask t.place (a.map (·.1))/\n5 t a.size/\a.toList=i.map λp=>(TH prog w p.1,Value.ref p.2)
def K_(f:eK prog w P h S (cw w) ks):
  ∃j,IF prog w S j h/\(j.map (·.1)).Perm ks/\∀p∈j,TK prog w h p.1 p.2/\P p.2:=by
 obtain⟨o,L,Q,t,E,f,O,G,U⟩:=f;have key:∀(l:List (Int×Value))(r:WP),l.length=r.length->(∀(i:Nat)(e:Int×Value)(k:WN),l[i]?=J e->r[i]?=J k->∃a,e.2=.ref a/\TK prog w h k a/\e.1=TH prog w k/\P a) ->
   ∃j:List (WN×Addr),l=j.map (λp=>(TH prog w p.1,Value.ref p.2))/\j.map (·.1)=r/\∀p∈j,TK prog w h p.1 p.2/\P p.2:=by
  intro l
  induction l with
  |nil =>
   intro r y _
   have:=Je.mp (by simpa using y.symm)
   subst this;exact⟨[],rfl,rfl,λp u=>by cases u⟩
  |cons e l R =>
   intro r y g
   cases r with
   |nil=>simp at y
   |cons k r =>
    obtain⟨a,e1,e2,e3,e4⟩:=g 0 e k rfl rfl;obtain⟨j,H,F,B⟩:=R r (by simpa using y) λi M W C z=>g (i+1) M W (by simpa using C) (by simpa using z);refine⟨(k,a)::j,?_,by simp[F],λp u=>?_⟩
    .congr 1;obtain⟨X,Z⟩:=e;simp only at e1 e3;rw[e1,e3]
    .rcases lb.mp u with rfl|u
     .exact⟨e2,e4⟩
     .exact B p u
 obtain⟨j,H,F,B⟩:=key L.toList E (by exact f.ents.1) λi e k C z=>f.ents.2 i e k (by rw[<-y6];exact C) z;exact⟨j,⟨o,L,Q,t,f.get,f.ex,f.data,f.dm,f.mask,f.plain,f.led',f.wf,O,H⟩,by rw[F];exact G,B⟩
def GR(p:IF prog w S f h)(Q:∀q∈f,TK prog w h q.1 q.2)(y:(f.map (·.1)).Nodup):
  eK prog w (PB h λa=>∃k,(k,a)∈f) h S (cw w) (f.map (·.1)):=by
 obtain⟨o,X,F,t,H,E,R,U,W,M,G,P,L,l⟩:=p;refine⟨o,X,F,t,f.map (·.1),⟨H,E,R,U,W,M,G,P,?_,λi e k j r=>?_⟩,L,List.Perm.refl _,y⟩
 .rw[<-DB,l];simp
 .rw[<-y6,l,oe]at j;rw[oe]at r
  cases z:f[i]? with
  |none=>rw[z]at j;cases j
  |some q =>
   rw[z]at j r;cases j;cases r;have B:=wj z;have C:=Q q B;exact⟨q.2,rfl,C,rfl,let⟨O,_,_,u,_⟩:=C;⟨O,u⟩,q.1,B⟩
def zj(p:IF prog w S al h1)(k:∀o,h1.get? S=J o->h2.get? S=J o):IF prog w S al h2:=by obtain⟨o,i,a,t,f,r⟩:=p;exact⟨o,i,a,t,k o f,r⟩
section
variable{X:Cx}{N W G:WM}{k:Nat}
def A2(hh:X.calm=I)(hr:Room k X.A):cK X (.type "set") (λxs H Q=>∃l ys j,xs=[.ref l]/\SqL X.K H l ys/\GQ X.K H ys j/\(m_ j).length<=66 /\
  ∀S y,H S=Y->(y.map (·.1)).Perm (m_ j)->(∀p∈y,SqT X.K H p.2 (p.1.map V.int))->Q (.ref S) (ky H S (.ext (IF X.prog X.w S y)))):=by
 intro Oa s Z H xs us Q f r ⟨l,ys,j,e,hq,F,O,q⟩;subst e;obtain⟨u,rfl,rx⟩:=fw r;cases rx;obtain⟨E,C,pl,hz⟩:=f.list hq;have lie:=xR f F C;refine uq (f.ok.hd hh) (by have:=hr.units;lia) pl.isList lie O λh' tk L x as=>?_;obtain⟨y,U,pm,P⟩:=K_ L;have M:=f.hok.fresh (i4 s.heap.objs.size);obtain⟨o,es,ep,t,ho,an⟩:=id U;refine⟨.ref s.heap.objs.size,_,f.laid (o:=.ext (IF X.prog X.w s.heap.objs.size y)) x (i4 _) ⟨U,⟨o,ho⟩,λh1 h2 a b=>zj a b⟩,rfl,q _ y M pm λp hp=>?_⟩;obtain⟨t1,⟨_,hm⟩⟩:=P p hp;obtain⟨i,hi⟩:=vv.mp hm;have B:E[i]?=J (.ref p.2):=by simpa using hi
 have R:=(kx.mp B).1;have z:i<ys.length:=by rw[C.length];exact R
 have ap:i<j.length:=by rw[<-F.1];exact z
 obtain⟨a,e,s1⟩:=F.2 i ys[i] j[i] (by simp) (by simp);obtain⟨u,eu,ru⟩:=C.get (show ys[i]?=J ys[i] by simp);rw[B]at eu;cases eu;rw[e]at ru;have ea:p.2=a:=by cases ru;rfl
 have t2:=nC x (qb f s1);rw[<-ea]at t2
 have:=IsTupleKey.inj t1 t2
 rw[this,ea];exact s1
def xk{Oa:WU}{s:Shared}{Z:L2.St}{H:Hp}{Q:VK}{R:Value->Prop}{h':Heap}{tk:Nat}{l:Addr}{L E:WP}{j:WT}(C:Inv X Oa Z H s)(f:Told X.prog X.w R s.heap s.heap h' l L j E)(hR:∀v,R v->∃(a:Addr)(k:WN),v=.ref a/\SqT X.K H a (k.map V.int))(hz:L.length<=66)(q:∀l ys,H l=Y->GQ X.K H ys (cE L)->Q (.ref l) (ky H l (.lst ys))):EP X Oa Z Q (.ref l) { s with heap:=h',toks:=tk}:=by
 have S:=f.size;have P:=lA f.ris (lZ L) (f.perm.trans (cS L).symm);obtain⟨c,hc⟩:=f.at';have z:j.length=E.length:=by have:=f.lie.1;simpa using this
 have B:∀v∈j,∃a,v=.ref a:=λv hv=>let⟨a,_,e,_⟩:=hR v (f.mem v hv);⟨a,e⟩;obtain⟨ys,U,F⟩:∃ys:List V,aD ys j/\∀y∈ys,∃a,y=.ref a/\Value.ref a∈j:=by
  clear z f hR P hc
  induction j with
  |nil=>exact⟨[],.nil,λy F=>by cases F⟩
  |cons v j ih =>
   obtain⟨a,rfl⟩:=B v xg;obtain⟨ys,r,g⟩:=ih (λu hu=>B u (mw _ hu));refine⟨.ref a::ys,.cons rfl r,λy F=>?_⟩;rcases lb.mp F with rfl|F
   .exact⟨a,rfl,xg⟩
   .obtain⟨b,e,m⟩:=g y F;exact⟨b,e,mw _ m⟩
 have O:GQ X.K H ys E:=by
  refine⟨by rw[U.length,z],λi y k M hk=>?_⟩;obtain⟨u,eu,ru⟩:=U.get M;obtain⟨a,e,m⟩:=F y (wj M);subst e;cases ru;obtain⟨b,k2,e2,s1⟩:=hR _ (f.mem _ m);cases e2;obtain⟨b2,e3,t⟩:=f.lie.2 i (.ref a) k (by simpa using eu) hk;cases e3
  have:=IsTupleKey.inj t (qb C s1)
  subst this;exact⟨a,rfl,s1⟩
 have al:=C.hok.fresh S;refine⟨.ref l,_,C.laid (o:=.lst ys) f.ext S (⟨?_,j,c,U,hc⟩),rfl,q l ys al (by rw[<-P];exact O)⟩;rw[U.length,z,f.perm.length_eq,sizeLine_eq];lia
def wH(U:X.calm=I):cK X (.builtin "sorted") (λxs H Q=>∃S i,xs=[.ref S]/\H S=J (.ext (IF X.prog X.w S i))/\(∀p∈i,SqT X.K H p.2 (p.1.map V.int))/\(i.map (·.1)).Nodup/\(∀p∈i,p.1≠[])/\i.length<=66 /\
  ∀l ys,H l=Y->GQ X.K H ys (cE (i.map (·.1)))->Q (.ref l) (ky H l (.lst ys))):=by
 intro Oa s Z H xs us Q f r ⟨S,i,e,hS,j,C,y,E,q⟩;subst e;obtain⟨u,rfl,O⟩:=fw r;cases O;obtain⟨L,_,_⟩:=(f.hok S _ hS);have B:=GR L (λp z=>qb f (j p z)) C;refine zY (f.ok.hd U) B (λb o e=>e) (λk hk=>?_) (by simpa using E) λh' tk l an P F R=>?_
 .obtain⟨p,z,rfl⟩:=mm.mp hk;exact y p z
 .refine xk f F (λv ⟨a,e,k,M⟩=>⟨a,k,e,j (k,a) M⟩) (by simpa using E) q
def wq:cK X (.builtin "sorted") (λxs H Q=>∃l ys f,xs=[.ref l]/\SqL X.K H l ys/\GQ X.K H ys f/\(∀k∈f,k≠[])/\f.length<=66 /\
  ∀B y,H B=Y->GQ X.K H y (cE f)->Q (.ref B) (ky H B (.lst y))):=by
 intro Oa s Z H xs us Q j r ⟨l,ys,f,e,hq,F,E,O,q⟩;subst e;obtain⟨u,rfl,rx⟩:=fw r;cases rx;obtain⟨al,C,pl,ax⟩:=j.list hq;refine wW pl.isList (xR j F C) E O λh' tk B as an U ap=>?_;refine xk j U (λv hv=>?_) O q;obtain⟨i,P⟩:=vv.mp hv;have L:=(kx.mp P).1;have z:i<ys.length:=by rw[C.length];exact L
 have M:i<f.length:=by rw[<-F.1];exact z
 obtain⟨a,e,s1⟩:=F.2 i ys[i] f[i] (by simp) (by simp);obtain⟨u,S,R⟩:=C.get (show ys[i]?=J ys[i] by simp);rw[P]at S;cases S;rw[e]at R;exact⟨a,_,R,s1⟩
def df(h:MH):PV->Option (WL)
 |.frl xs=>J xs
 |.loc n=>(match h[n]? with
  |some (.lst xs)=>J xs
  |_=>Y)
 |_=>Y
def rE{U:WS}{H:Hp}{h:MH}{x:PV}{y:V}{xs:WL}{K:h_}{mg:F0}(B:RH K mg U H h)(r:RP K U H x y)(e:df h x=J xs):∃a f,y=.ref a/\SqL K H a f/\RPs K U H xs f:=by
 cases r with
 |frl s r=>cases e;exact⟨_,_,rfl,s.sq,r⟩
 |@loc n a j =>
  obtain⟨o,u,i⟩:=B.obj j;unfold df at e;dsimp only at e;rw[u]at e
  cases o with
  |lst f =>
   cases e;obtain⟨ys,l,z⟩:=i;exact⟨a,ys,rfl,SqL.of l,z⟩
  |_=>cases e
 |_=>cases e
def VZ(m:Mx (WL)):Mx PV:=λZ h=>(m Z h).bind λi a=>match i with
 |[x]=>(match (df a x).bind jW with
  |some f=>if(∀k∈f,k≠[])/\(m_ f).length<=66 then .ok (.loc a.length) (a++[.lst ((cE (m_ f)).map kP)])else .bad
  |none=>.bad)
 |_=>.bad
def m9(l:WP):(m_ l).Nodup:=by
 have key:∀(m:WP)(a:WP),a.Nodup->(m.foldl SetT.f6 a).Nodup:=by
  intro m
  induction m with
  |nil=>intro a h;exact h
  |cons k m f =>
   intro a h;refine f _ ?_;delta SetT.f6;split
   .exact h
   .rename_i r
    rw[Fi];refine⟨h,by simp,λx i y j=>?_⟩
    have:y=k:=by simpa using j
    subst this;rintro rfl;exact r i
 exact key l [] R8
def zx(p:l.Perm m):cE l=cE m:=lA (lZ l) (lZ m) ((cS l).trans (p.trans (cS m).symm))
def v6(g:Good X N W G k){a:Expr}{m:Mx (WL)}{i j:Nat}{p M P r:Pos}(hi:G[i]?=J "sorted")(hm:X.mg "sorted"=Y)(hj:G[j]?=J "set")(F:X.mg "set"=Y)(ha:MA X [a] m)(hs:starEach [a] X.env=[(T,eval a X.env)]:=by rfl)(he:starEach [.Call (.Name "set" M) [a] [] r] X.env=[(T,eval (.Call (.Name "set" M) [a] [] r) X.env)]:=by rfl):
  ME X (.Call (.Name "sorted" p) [.Call (.Name "set" M) [a] [] r] [] P) (VZ m):=by
 have d:=g.dbg _ (n2 _ (aN hi));have d':=g.dbg _ (n2 _ (aN hj));refine PE.imp (jZ (wH g.calm) (g.gl _ (aN hi)) hm PyProof.Rows.Boot.«sorted» (eJ (j6 (A2 g.calm g.room) (g.gl _ (aN hj)) F PyProof.Rows.Boot.«set» ha d'.2.2 d'.1 hs rfl) jA he) d.2.2 d.1 he rfl) λZ H Q ⟨U,as,h,rs,rh,q⟩=>?_;refine⟨U,as,h,rs,rh,Ful.bind q λU1 H1 x x' h1 ex l1 u rx f=>?_⟩
 cases rx with
 |nil=>exact f.elim
 |@cons y y' _ _ r1 t1 =>
  cases t1 with
  |cons _ _=>exact f.elim
  |nil =>
   dsimp only at f
   cases hl:df h1 y with
   |none=>rw[hl]at f;exact f.elim
   |some xs =>
    rw[hl]at f
    cases hk:jW xs with
    |none=>simp only[Aa,hk]at f;exact f.elim
    |some B =>
     simp only[Aa,hk]at f;by_cases z:(∀k∈B,k≠[])/\(m_ B).length<=66
     .rw[c_ z]at f;obtain⟨la,zs,rfl,ap,C⟩:=rE u r1 hl;rw[rD hk]at C;refine⟨la,zs,B,rfl,ap,sv C,z.2,λS al hS pm an=>?_⟩;obtain⟨E,l2⟩:=u.loose hS (.ext (IF X.prog X.w S al));refine⟨S,al,rfl,cg,λp L=>l2.sqt (an p L),pm.nodup_iff.mpr (m9 B),λp L=>?_,?_,λl ys R tk=>?_⟩
      .have:p.1∈m_ B:=pm.mem_iff.mp (mm.mpr ⟨p,L,rfl⟩)
       exact z.1 p.1 ((gA _ _).mp this)
      .have:=pm.length_eq
       rw[oF]at this;rw[this];exact z.2
      .rw[zx pm]at tk;obtain⟨O,l3⟩:=E.new R (o:=.lst ((cE (m_ B)).map kP)) (ho:=.lst ys) ⟨_,rfl,ss tk⟩;exact f _ _ _ (l2.trans l3) O (.loc (by rw[<-u.len];simp))
     .rw[f_ z]at f;exact f.elim
end
end MM
namespace SeqT
abbrev Fm(tp:Bool):String:=if tp then "tuple_iterator" else "list_iterator"
abbrev Vm(tp:Bool):String:=if tp then "tuple" else "list"
def SqI(f:Bool)(h:Heap)(j a:Addr)(i:Nat):Prop:=∃o,h.get? j=J o/\o.cls=.type (Fm f)/\o.data=.fields #[.ref a,.int i 0]
def SqO(f:Bool)(h:Heap)(a:Addr)(xs:Array Value):Prop:=∃o,h.get? a=J o/\o.cls=.type (Vm f)/\∃n,o.data=.seq xs n
def SqI.at'(x:SqI tp h it a i)(k:∀o,h.get? it=J o->h'.get? it=J o):SqI tp h' it a i:=let⟨o,e,r⟩:=x;⟨o,k o e,r⟩
def SqO.at'(x:SqO tp h a xs)(k:∀o,h.get? a=J o->h'.get? a=J o):SqO tp h' a xs:=let⟨o,e,r⟩:=x;⟨o,k o e,r⟩
def SqI.lt(x:SqI tp h it a i):it<h.objs.size:=let⟨_,e,_⟩:=x;l_ e
section
variable{prog:Program}{w:World}{A:Around}{E:WA}{s:Shared}
def kC(B:SqI tp s.heap it a i)(r:SqO tp s.heap a xs)(u:xs[i]?=J x)(C:∀f,SqI tp f it a (i+1)->Heap.SameBut it s.heap f->Q x { s with heap:=f}):wpAny (model prog w) A (Builtin.SmallTypes.nextOf (.ref it)) Q E s:=by
 cases tp with
 |false=>exact wpAny_nextOf_list_item (B) (r) u C
 |true =>
  obtain⟨o,e,y,hd⟩:=id B;obtain⟨H,l,_,G,j⟩:=r;have z:s.TypeIs (.ref it) "tuple_iterator":=⟨o,e,y⟩;refine e_ (wpAny_callSpecial?_slot z F.slot_tuple_iterator_next (wpAny_call_entry F.slot_tuple_iterator_next z F.entry_tuple_iterator_next ?_ (F.args_tuple_iterator_next_1 _)));show wpAny _ _ (field (.ref it) 0 >>= _) _ _ s;refine e_ (wpAny_field e hd rfl ?_);refine e_ (wpAny_field e hd rfl ?_);refine e_ (wpAny_seqItems l j ?_);simp only[z_,u];refine e_ (wpAny_setField e hd (by simp) (i5 ⟨x,rfl,i5 (C _ ?_ (Heap.SameBut.update ..))⟩));exact⟨_,Nk _ e (Obj.isFreed_of_fields (Obj.data_mapFields hd _)),(Obj.cls_mapFields ..).trans y,by rw[Obj.data_mapFields hd];simp[rawInt]⟩
def mE(C:A.handled=Y)(B:SqI tp s.heap it a i)(r:SqO tp s.heap a xs)(u:xs[i]?=Y)(y:∀f e,Heap.ExtBut it s.heap f->(∃o,f.get? e=J o/\o.cls=.type "StopIteration")->E (.ref e) { s with heap:=f}):wpAny (model prog w) A (Builtin.SmallTypes.nextOf (.ref it)) Q E s:=by
 cases tp with
 |false=>exact wpAny_nextOf_list_end C (B) (r) u y
 |true =>
  obtain⟨o,e,G,hd⟩:=id B;obtain⟨L,l,_,H,j⟩:=r;have z:s.TypeIs (.ref it) "tuple_iterator":=⟨o,e,G⟩;refine e_ (wpAny_callSpecial?_slot z F.slot_tuple_iterator_next (wpAny_call_entry F.slot_tuple_iterator_next z F.entry_tuple_iterator_next ?_ (F.args_tuple_iterator_next_1 _)));show wpAny _ _ (field (.ref it) 0 >>= _) _ _ s;refine e_ (wpAny_field e hd rfl ?_);refine e_ (wpAny_field e hd rfl ?_);refine e_ (wpAny_seqItems l j ?_);simp only[z_,u];refine e_ (wpAny_rule (e_ (wpAny_setField e hd (by simp) ?_)));refine e_ ?_;refine e_ (m:=firstArgMember _ _) (wpAny_of_eq (by first | rfl | (simp only)) ?_);refine wpAny_newObj_type ?_ (by size_fits);refine e_ (wpAny_handled ?_);rw[show A.in1.handled=Y from C];refine e_ (i5 (wpAny_throw ?_));exact y _ _ (((Heap.SameBut.update ..).extBut.push _).push _) ⟨_,rb _ rfl,rfl⟩
def lm(f:SqO tp s.heap a xs)(i:Q (.ref s.heap.objs.size) { s with heap:=s.heap.push { cls:=.type (Fm tp),data:=.fields #[.ref a,.int 0 0]}}):wpAny (model prog w) A (pyIter (.ref a)) Q E s:=by
 cases tp with
 |false=>exact wpAny_pyIter_list (f) i
 |true=>exact wpAny_pyIter_tuple (f) i
end
def OT(C:A.handled=Y)(u:Bool)(l a:Addr)(r:a≠l)(xs:Array Value):
  Draws prog w A l [l,a] xs.size (λi v=>xs[i]?=J v) (λi h=>SqI u h l a i/\SqO u h a xs) where
 live:=λ_ _ st=>let⟨o,z,_⟩:=st.1;⟨o,z⟩
 frame:=λ_ _ _ st y=>⟨st.1.at' λo e=>y l (by simp) o e,st.2.at' λo e=>y a (by simp) o e⟩
 item:=λi s Q E H st G=>by
  refine kC st.1 st.2 (x:=xs[i]) (by simp) λB f j=>?_;exact G _ B s.toks (by simp) ⟨f,st.2.at' λo e=>(j.2 a r).trans e⟩ j
 done:=λs Q E st F=>mE C st.1 st.2 (by simp) F
def DK(i:Bool)(a:Addr)(xs:Array Value)(n:Nat)(j:Option Addr)(sl:Array (WV)):
  Meets (Builtin.«enumerate.__new__» ⟨[.type "enumerate",.ref a],[]⟩) (λ_ R s=>s.heap.get? a=J { cls:=.type (Vm i),dict:=j,data:=.seq xs n,slots:=sl} /\
   R (.ok (.ret (.ref (s.heap.push { cls:=.type (Fm i),data:=.fields #[.ref a,.int 0 0]}).objs.size)))
    { s with heap:=(s.heap.push { cls:=.type (Fm i),data:=.fields #[.ref a,.int 0 0]}).push { cls:=.type "enumerate",data:=.fields #[.none,.bool T,.ref s.heap.objs.size,rawInt 0,.none,.none]}}) :=
 .of_wp λprog w A R s h=>by
  obtain⟨r,g,d,u,os⟩:=s;obtain⟨f,h⟩:=h;have l:=sub_enumerate;have hL:SqO i (Shared.heap ⟨r,g,d,u,os⟩) a xs:=⟨_,f,rfl,n,rfl⟩
  wp_walk using AutoSeq1.wpAny_loadPart' f
  refine wpAny_stack_any λst=>i5 ?_;split
  .rename_i c _ _ _ _ _
   cases(c==Value.type "enumerate")
   .wp_walk using AutoSeq1.wpAny_loadPart' f,lm hL
    exact⟨_,rfl,h⟩
   .wp_walk using AutoSeq1.wpAny_loadPart' f,lm hL
    exact⟨_,rfl,h⟩
  .wp_walk using AutoSeq1.wpAny_loadPart' f,lm hL
   exact⟨_,rfl,h⟩
section
variable{prog:Program}{w:World}{A:Around}{E:WA}{s:Shared}
def AX(hL:SqO tp s.heap a xs)(h:∀f,IsEnum f (s.heap.objs.size+1) s.heap.objs.size 0 .none->SqI tp f s.heap.objs.size a 0->f.objs.size=s.heap.objs.size+2 ->
   (∀b o,s.heap.get? b=J o->f.get? b=J o)->Q (.ref (s.heap.objs.size+1)) { s with heap:=f}):
  wpAny (model prog w) A (call (.type "enumerate") [.ref a]) Q E s:=by
 obtain⟨⟨c,i,y,sl⟩,u,r,n,hd⟩:=hL;subst r hd;refine callType_new F.called_enumerate (by decide) (F.typeCall_enumerate_1 _) (F.newCall_enumerate_1 _) (λobj=>F.args_object_init_2 obj _) F.entry_enumerate_new (DK tp a xs n i sl) ⟨u,?_⟩;have j:(s.heap.push { cls:=.type (Fm tp),data:=.fields #[.ref a,.int 0 0]}).objs.size=s.heap.objs.size+1:=Ep ..;rw[j]
 have l:IsEnum ((s.heap.push { cls:=.type (Fm tp),data:=.fields #[.ref a,.int 0 0]}).push
   { cls:=.type "enumerate",data:=.fields #[.none,.bool T,.ref s.heap.objs.size,rawInt 0,.none,.none]}) (s.heap.objs.size+1) s.heap.objs.size 0 .none:=by
  have:=rb (s.heap.push { cls:=.type (Fm tp),data:=.fields #[.ref a,.int 0 0]})
   (o:={ cls:=.type "enumerate",data:=.fields #[.none,.bool T,.ref s.heap.objs.size,rawInt 0,.none,.none]}) rfl
  rw[j]at this;exact this
 exact⟨⟨_,l,rfl⟩,h _ l ⟨_,k_ _ (rb _ rfl),rfl,rfl⟩ (by rw[Ep,j]) λb o x=>k_ _ (k_ _ x)⟩
end
section
variable{prog:Program}{w:World}{A:Around}{E:WA}{s:Shared}{z TI TO i1 i2 l1 l2:Addr}{t1 t2:Bool}{k1 k2:Nat}{xs ys:Array Value}
def Ar{x y a b:Value}{Q:WA}(D:ZipApart z TI TO i1 i2 l1 l2)(S:IsZip s.heap z TI TO .none)(an:IsPair s.heap TI (.ref i1) (.ref i2))(a3:IsPair s.heap TO a b)(h1:SqI t1 s.heap i1 l1 k1)(h2:SqI t2 s.heap i2 l2 k2)(a1:SqO t1 s.heap l1 xs)(ax:SqO t2 s.heap l2 ys)(hx:xs[k1]?=J x)(hy:ys[k2]?=J y)(hQ:∀u,IsZip u z TI TO (rawInt s.heap.objs.size)->IsPair u TO x y->SqI t1 u i1 l1 (k1+1)->SqI t2 u i2 l2 (k2+1)->IsPair u s.heap.objs.size x y->u.objs.size=s.heap.objs.size+1 ->
   (∀c o,c≠z->c≠TO->c≠i1->c≠i2->s.heap.get? c=J o->u.get? c=J o)->Q (.ref s.heap.objs.size) { s with heap:=u}):
  wpAny (model prog w) A (Builtin.«zip.__next__» ⟨[.ref z],[]⟩) (λfin s'=>∃v,fin=.done (.ret v)/\Q v s') E s:=by
 show wpAny _ _ (field (.ref z) 2 >>= _) _ _ _;refine e_ (wpAny_field S rfl (x:=.bool T) rfl ?_);refine e_ (wpAny_field S rfl (x:=.ref TI) rfl ?_);refine e_ (wpAny_seqItems an rfl ?_);refine e_ ?_;refine e_ (wpAny_field S rfl (x:=.none) rfl (i5 ?_));refine e_ (wpAny_rule ?_);refine e_ (wpAny_field S rfl (x:=.ref TO) rfl ?_);refine e_ (wpAny_setField_rec S (by simp) λha a2 sa=>?_);refine e_ ?_;simp only[R1,List.zipIdx_nil,R6,List.forIn_nil];refine e_ (e_ (wpAny_onRaise ?_));show wpAny _ _ (Builtin.SmallTypes.nextOf (.ref i1) >>= _) _ _ _;refine e_ (kC (s:={ s with heap:=ha}) (h1.at' λo e=>(sa.2 _ D.i1z).trans e) (a1.at' λo e=>(sa.2 _ D.l1z).trans e) hx λhb ay sb=>i5 ?_);replace sb:Heap.SameBut i1 ha hb:=sb;have W:IsPair hb TO a b:=(sb.2 _ D.TOi1).trans ((sa.2 _ D.TOz).trans a3);refine e_ (wpAny_seqItems W rfl ?_);refine e_ (wpAny_updateSeq_pair W λX H r=>?_);replace H:IsPair X TO x b:=H;replace r:Heap.SameBut TO hb X:=r;refine e_ (wpAny_letGo (i5 ?_));refine e_ (e_ (wpAny_onRaise ?_));show wpAny _ _ (Builtin.SmallTypes.nextOf (.ref i2) >>= _) _ _ _
 refine e_ (kC (s:={ s with heap:=X}) (h2.at' λo e=>(r.2 _ D.TOi2.symm).trans ((sb.2 _ D.i12.symm).trans ((sa.2 _ D.i2z).trans e)))
  (ax.at' λo e=>(r.2 _ D.l2TO).trans ((sb.2 _ D.l2i1).trans ((sa.2 _ D.l2z).trans e))) hy λhd a0 G=>i5 ?_)
 replace G:Heap.SameBut i2 X hd:=G;have U:IsPair hd TO x b:=(G.2 _ D.TOi2).trans H;refine e_ (wpAny_seqItems U rfl ?_);refine e_ (wpAny_updateSeq_pair U λf j C=>?_);replace j:IsPair f TO x y:=j;replace C:Heap.SameBut TO hd f:=C;refine e_ (wpAny_letGo (i5 (i5 ?_)));refine e_ (wpAny_seqItems j rfl ?_);refine e_ (wpAny_newTuple ?_);have L:f.objs.size=s.heap.objs.size:=by rw[C.1,G.1,r.1,sb.1,sa.1]
 have R:IsZip f z TI TO .ellipsis:=(C.2 _ D.TOz.symm).trans ((G.2 _ D.i2z.symm).trans ((r.2 _ D.TOz.symm).trans ((sb.2 _ D.i1z.symm).trans a2)));have as:∀c o,c≠z->c≠TO->c≠i1->c≠i2->s.heap.get? c=J o->f.get? c=J o:=λc o B c2 c3 c4 e =>
  (C.2 _ c2).trans ((G.2 _ c4).trans ((r.2 _ c2).trans ((sb.2 _ c3).trans ((sa.2 _ B).trans e))))
 have al:SqI t1 f i1 l1 (k1+1):=ay.at' λo e=>(C.2 _ D.TOi1.symm).trans ((G.2 _ D.i12).trans ((r.2 _ D.TOi1.symm).trans e));have a4:SqI t2 f i2 l2 (k2+1):=a0.at' λo e=>(C.2 _ D.TOi2.symm).trans e;have l:z<f.objs.size:=l_ R;show wpAny _ _ (Builtin.SmallTypes.ownedTupleHandOut (.ref z) (.ref f.objs.size) >>= _) _ _ _;refine e_ ?_;unfold Builtin.SmallTypes.ownedTupleHandOut;have ap:IsZip (f.push { cls:=.type "tuple",data:=.seq #[x,y]}) z TI TO .ellipsis:=k_ _ R;refine e_ (wpAny_setField_rec ap (by simp) λhg F sg=>?_);replace F:IsZip hg z TI TO (rawInt f.objs.size):=F;refine wpAny_setField_rec F (by simp) λO i sh=>?_;replace i:IsZip O z TI TO (rawInt f.objs.size):=i;have Z:∀c o,c≠z->f.get? c=J o->O.get? c=J o:=λc o B e=>(sh.2 _ B).trans ((sg.2 _ B).trans (k_ _ e));have P:IsPair O f.objs.size x y:=(sh.2 _ (DL l)).trans ((sg.2 _ (DL l)).trans (rb _ rfl));have M:O.objs.size=f.objs.size+1:=by rw[sh.1,sg.1,Ep]
 rw[L]at i P M;refine i5 ⟨_,rfl,?_⟩;show Q (.ref f.objs.size) _;rw[L];exact hQ O i (Z _ _ D.TOz j) (al.at' λo e=>Z _ o D.i1z e) (a4.at' λo e=>Z _ o D.i2z e) P M λc o B c2 c3 c4 e=>Z c o B (as c o B c2 c3 c4 e)
def CG(hh:A.handled=Y)(D:ZipApart z TI TO i1 i2 l1 l2)(C:IsZip s.heap z TI TO .none)(P:IsPair s.heap TI (.ref i1) (.ref i2))(al:IsPair s.heap TO a b)(h1:SqI t1 s.heap i1 l1 k1)(h2:SqI t2 s.heap i2 l2 k2)(F:SqO t1 s.heap l1 xs)(U:SqO t2 s.heap l2 ys)(y:xs[k1]?=Y\/ys[k2]?=Y)(hE:∀R e,(∀c o,c≠z->c≠TO->c≠i1->c≠i2->s.heap.get? c=J o->R.get? c=J o)->(∃o,R.get? e=J o/\o.cls=.type "StopIteration")->E (.ref e) { s with heap:=R}):
  wpAny (model prog w) A (Builtin.«zip.__next__» ⟨[.ref z],[]⟩) Q E s:=by
 show wpAny _ _ (field (.ref z) 2 >>= _) _ _ _;refine e_ (wpAny_field C rfl (x:=.bool T) rfl ?_);refine e_ (wpAny_field C rfl (x:=.ref TI) rfl ?_);refine e_ (wpAny_seqItems P rfl ?_);refine e_ ?_;refine e_ (wpAny_field C rfl (x:=.none) rfl (i5 ?_));refine e_ (wpAny_rule ?_);refine e_ (wpAny_field C rfl (x:=.ref TO) rfl ?_);refine e_ (wpAny_setField_rec C (by simp) λS L sa=>?_);refine e_ ?_;simp only[R1,List.zipIdx_nil,R6,List.forIn_nil];refine e_ (e_ (wpAny_onRaise ?_));show wpAny _ _ (Builtin.SmallTypes.nextOf (.ref i1) >>= _) _ _ _
 cases Z:xs[k1]? with
 |none =>
  refine e_ (mE (s:={ s with heap:=S}) hh (h1.at' λo e=>(sa.2 _ D.i1z).trans e) (F.at' λo e=>(sa.2 _ D.l1z).trans e) Z λu e sb W=>?_);obtain⟨X,f,i⟩:=W;have B:IsZip u z TI TO .ellipsis:=sb _ _ D.i1z.symm L;have l:e≠z:=λq=>by subst q;rw[B]at f;cases f;simp at i
  exact wpAny_setField_rec B (by simp) λM _ j=>hE M e (λc o r _ O _ q=>(j.2 _ r).trans (sb _ _ O ((sa.2 _ r).trans q))) ⟨X,(j.2 _ l).trans f,i⟩
 |some x =>
  have hy:ys[k2]?=Y:=by
   rcases y with q|q
   .rw[Z]at q;cases q
   .exact q
  refine e_ (kC (s:={ s with heap:=S}) (h1.at' λo e=>(sa.2 _ D.i1z).trans e) (F.at' λo e=>(sa.2 _ D.l1z).trans e) Z λu an sb=>i5 ?_);replace sb:Heap.SameBut i1 S u:=sb;have H:IsPair u TO a b:=(sb.2 _ D.TOi1).trans ((sa.2 _ D.TOz).trans al);refine e_ (wpAny_seqItems H rfl ?_);refine e_ (wpAny_updateSeq_pair H λM ap j=>?_);replace j:Heap.SameBut TO u M:=j;refine e_ (wpAny_letGo (i5 ?_));refine e_ (e_ (wpAny_onRaise ?_));show wpAny _ _ (Builtin.SmallTypes.nextOf (.ref i2) >>= _) _ _ _
  refine e_ (mE (s:={ s with heap:=M}) hh (h2.at' λo e=>(j.2 _ D.TOi2.symm).trans ((sb.2 _ D.i12.symm).trans ((sa.2 _ D.i2z).trans e)))
   (U.at' λo e=>(j.2 _ D.l2TO).trans ((sb.2 _ D.l2i1).trans ((sa.2 _ D.l2z).trans e))) hy λhd e sd W=>?_)
  obtain⟨X,f,i⟩:=W;have G:IsZip hd z TI TO .ellipsis:=sd _ _ D.i2z.symm ((j.2 _ D.TOz.symm).trans ((sb.2 _ D.i1z.symm).trans L));have l:e≠z:=λq=>by subst q;rw[G]at f;cases f;simp at i
  exact wpAny_setField_rec G (by simp) λhf _ sf=>hE hf e (λc o r c2 O c4 q=>(sf.2 _ r).trans (sd _ _ c4 ((j.2 _ c2).trans ((sb.2 _ O).trans ((sa.2 _ r).trans q))))) ⟨X,(sf.2 _ l).trans f,i⟩
def Cw(D:ZipApart z TI TO i1 i2 l1 l2)(u:IsZip s.heap z TI TO .none)(i:IsPair s.heap TI (.ref i1) (.ref i2))(r:IsPair s.heap TO a b)(M:SqI t1 s.heap i1 l1 k1)(H:SqI t2 s.heap i2 l2 k2)(l:SqO t1 s.heap l1 xs)(j:SqO t2 s.heap l2 ys)(S:xs[k1]?=J x)(W:ys[k2]?=J y)(X:∀f,IsZip f z TI TO (rawInt s.heap.objs.size)->IsPair f TO x y->SqI t1 f i1 l1 (k1+1)->SqI t2 f i2 l2 (k2+1)->IsPair f s.heap.objs.size x y->f.objs.size=s.heap.objs.size+1 ->
   (∀c o,c≠z->c≠TO->c≠i1->c≠i2->s.heap.get? c=J o->f.get? c=J o)->Q (J (.ref s.heap.objs.size)) { s with heap:=f}):
  wpAny (model prog w) A (pyNext (.ref z)) Q E s:=by
 have B:s.TypeIs (.ref z) "zip":=⟨_,u,rfl⟩
 exact e_ (wpAny_attempt (wpAny_callSpecial?_slot B F.slot_zip_next
  (wpAny_call_entry F.slot_zip_next B F.entry_zip_next (Ar D u i r M H l j S W λf G U O L C R P=>i5 (X f G U O L C R P)) (F.args_zip_next_1 _))))
def GU(M:A.handled=Y)(D:ZipApart z TI TO i1 i2 l1 l2)(y:IsZip s.heap z TI TO .none)(i:IsPair s.heap TI (.ref i1) (.ref i2))(u:IsPair s.heap TO a b)(L:SqI t1 s.heap i1 l1 k1)(C:SqI t2 s.heap i2 l2 k2)(r:SqO t1 s.heap l1 xs)(l:SqO t2 s.heap l2 ys)(f:xs[k1]?=Y\/ys[k2]?=Y)(R:∀j,(∀c o,c≠z->c≠TO->c≠i1->c≠i2->s.heap.get? c=J o->j.get? c=J o)->Q Y { s with heap:=j}):wpAny (model prog w) A (pyNext (.ref z)) Q E s:=by
 have B:s.TypeIs (.ref z) "zip":=⟨_,y,rfl⟩
 refine e_ (wpAny_attempt (wpAny_callSpecial?_slot B F.slot_zip_next
  (wpAny_call_entry F.slot_zip_next B F.entry_zip_next (CG M D y i u L C r l f λj e O P=>?_) (F.args_zip_next_1 _))))
 obtain⟨o,H,G⟩:=P;refine e_ (wpAny_isInstance ⟨o,H,G⟩ isSubtype_stop ?_);exact i5 (R _ O)
end
abbrev zA(t1:Bool)(h:Heap)(l1:Addr):Heap:=h.push { cls:=.type (Fm t1),data:=.fields #[.ref l1,.int 0 0]}
abbrev zB(t1 t2:Bool)(h:Heap)(l1 l2:Addr):Heap:=(zA t1 h l1).push { cls:=.type (Fm t2),data:=.fields #[.ref l2,.int 0 0]}
abbrev zC(t1 t2:Bool)(h:Heap)(l1 l2:Addr):Heap:=(zB t1 t2 h l1 l2).push { cls:=.type "tuple",data:=.seq #[.ref h.objs.size,.ref (zA t1 h l1).objs.size]}
abbrev zD(t1 t2:Bool)(h:Heap)(l1 l2:Addr):Heap:=(zC t1 t2 h l1 l2).push { cls:=.type "tuple",data:=.seq #[.none,.none]}
abbrev zE(t1 t2:Bool)(h:Heap)(l1 l2:Addr):Heap:=(zD t1 t2 h l1 l2).push { cls:=.type "zip",data:=.fields #[.none,.bool T,.bool T,.ref (zB t1 t2 h l1 l2).objs.size,.ref (zC t1 t2 h l1 l2).objs.size]}
def GV(f j:Bool)(a i:Addr)(xs ys:Array Value):
  Meets (Builtin.«zip.__new__» ⟨[.type "zip",.ref a,.ref i],[]⟩) (λ_ R s=>SqO f s.heap a xs/\SqO j s.heap i ys/\R (.ok (.ret (.ref (zD f j s.heap a i).objs.size))) { s with heap:=zE f j s.heap a i}) :=
 .of_wp λprog w A R s h=>by
  obtain⟨z,g,d,B,os⟩:=s;obtain⟨u,r,h⟩:=h;have C:=sub_zip;have y:SqO f (Shared.heap ⟨z,g,d,B,os⟩) a xs:=u;have l:SqO j (Shared.heap ⟨z.push { cls:=.type (Fm f),data:=.fields #[.ref a,.int 0 0]},g,d,B,os⟩) i ys:=r.at' λo e=>k_ _ e
  wp_walk using lm y,lm l
  exact⟨_,rfl,h⟩
section
variable{prog:Program}{w:World}{A:Around}{E:WA}{s:Shared}
def DF(y:SqO t1 s.heap l1 xs)(l:SqO t2 s.heap l2 ys)(h:∀a,IsZip a (s.heap.objs.size+4) (s.heap.objs.size+2) (s.heap.objs.size+3) .none->IsPair a (s.heap.objs.size+2) (.ref s.heap.objs.size) (.ref (s.heap.objs.size+1)) ->
   IsPair a (s.heap.objs.size+3) .none .none->SqI t1 a s.heap.objs.size l1 0->SqI t2 a (s.heap.objs.size+1) l2 0->a.objs.size=s.heap.objs.size+5 ->
   (∀c o,s.heap.get? c=J o->a.get? c=J o)->Q (.ref (s.heap.objs.size+4)) { s with heap:=a}):
  wpAny (model prog w) A (call (.type "zip") [.ref l1,.ref l2]) Q E s:=by
 refine callType_new F.called_zip (by decide) (F.typeCall_zip_2 _ _) (F.newCall_zip_2 _ _) (λobj=>F.args_object_init_3 obj _ _) F.entry_zip_new (GV t1 t2 l1 l2 xs ys) ⟨y,l,?_⟩;have u:(zA t1 s.heap l1).objs.size=s.heap.objs.size+1:=Ep ..;have i:(zB t1 t2 s.heap l1 l2).objs.size=s.heap.objs.size+2:=by rw[Ep,u]
 have f:(zC t1 t2 s.heap l1 l2).objs.size=s.heap.objs.size+3:=by rw[Ep,i]
 have r:(zD t1 t2 s.heap l1 l2).objs.size=s.heap.objs.size+4:=by rw[Ep,f]
 have G:(zE t1 t2 s.heap l1 l2).objs.size=s.heap.objs.size+5:=by rw[Ep,r]
 have j:(zE t1 t2 s.heap l1 l2).get? (zD t1 t2 s.heap l1 l2).objs.size=J _:=rb _ rfl;have z:(zE t1 t2 s.heap l1 l2).get? (zC t1 t2 s.heap l1 l2).objs.size=J _:=k_ _ (rb _ rfl);have B:(zE t1 t2 s.heap l1 l2).get? (zB t1 t2 s.heap l1 l2).objs.size=J _:=k_ _ (k_ _ (rb _ rfl));have C:(zE t1 t2 s.heap l1 l2).get? (zA t1 s.heap l1).objs.size=J _:=k_ _ (k_ _ (k_ _ (rb _ rfl)));have H:(zE t1 t2 s.heap l1 l2).get? s.heap.objs.size=J _:=k_ _ (k_ _ (k_ _ (k_ _ (rb _ rfl))));rw[i,f,r]at j;rw[u,i]at B;rw[f]at z;rw[u]at C;rw[r]
 exact⟨⟨_,j,rfl⟩,h _ j B z ⟨_,H,rfl,rfl⟩ ⟨_,C,rfl,rfl⟩ G λc o x =>
  k_ _ (k_ _ (k_ _ (k_ _ (k_ _ x))))⟩
end
end SeqT
namespace MM
open PySem.Spec PyProof.Rows L2 SeqT
def Ex(f:Bool)(K:h_)(H:Hp)(a:Addr)(ys:List V):Prop:=match f with
 |true=>SqT K H a ys
 |false=>SqL K H a ys
section
variable{X:Cx}{Oa:List (Addr × Obj)}{Z:L2.St}{H:Hp}{s:Shared}
def gJ(i:Inv X Oa Z H s)(h:Ex tp X.K H a ys):∃f:WT,aD ys f/\SqO tp s.heap a f.toArray/\ys.length<=sizeLine:=by
 cases tp with
 |true =>
  obtain⟨f,j,r,l⟩:=i.tuple h;exact⟨f,j,r,l⟩
 |false =>
  obtain⟨f,j,r,l⟩:=i.list h;exact⟨f,j,r.isList,l⟩
def sG(f:Inv X Oa Z H s)(h:Ex tp X.K H a xs)(i:Ex tp X.K H a ys):xs=ys:=by
 cases tp with
 |true=>exact f.tuple_inj h i
 |false=>exact f.list_inj h i
def mI(f:Inv X Oa Z H s){j:Heap}{t':Nat}{ch:WS}(hf:∀b∈ch,jS X Oa H b)(k:∀b o,b∉ch->s.heap.get? b=J o->j.get? b=J o):
  Inv X Oa Z H { s with heap:=j,toks:=t'}:=by
 have i:∀b u,H b=J u->b∉ch:=λb u e z=>by rw[(hf b z).1]at e;cases e
 refine f.step (g':=s.gens) (d':=s.drawn) (λb y=>?_) (λb o _ _ a e _=>k b o a e) (λb o _ _ a e _=>⟨o.slots,k b o a e⟩) (λ_ _ _ _ n=>n)
  (λb o a e=>⟨o,k b o a e⟩) (λ_ _ e=>e) (λ_ _ _ e=>e) (λb P e=>⟨#[],by rw[e];simp⟩) (λm l=>?_) (λb u e=>?_) f.bare
 .obtain⟨Q,M,O,F,G,E⟩:=hf b y;exact⟨F,M,G,E⟩
 .obtain⟨o,L,B,C,r⟩:=l;exact⟨o,L,B,k _ o (λz=>(hf _ z).2.1 rfl) C,r⟩
 .refine (f.hok b u e).stay (λc v a q=>k c v ?_ q) (λ_ q=>q) λ_ _ q=>q;rcases a with z|z
  .rw[z];exact i b u e
  .exact i c _ z
def xS(f:Inv X Oa Z H s){h':Heap}{t':Nat}{ch:WS}{ys:List V}{its:WT}(hf:∀b∈ch,jS X Oa H b)(B:aD ys its)(E:ys.length<=sizeLine)(r:s.heap.objs.size∉ch)(F:h'.get? s.heap.objs.size=J { cls:=.type "tuple",data:=.seq its.toArray})(k:∀b o,b∉ch->s.heap.get? b=J o->h'.get? b=J o):
  Inv X Oa Z (ky H s.heap.objs.size (.tup ys)) { s with heap:=h',toks:=t'}/\(∀b∈ch,(ky H s.heap.objs.size (.tup ys)) b=Y)/\H s.heap.objs.size=Y:=by
 have y:=f.hok.fresh (i4 s.heap.objs.size);have l:∀b∈ch,b≠s.heap.objs.size:=λb a z=>r (by rw[<-z];exact a);have C:Inv X Oa Z (ky H s.heap.objs.size (.tup ys)) { s with heap:=s.heap.push { cls:=.type "tuple",data:=.seq its.toArray},toks:=s.toks} :=
  f.laid (λb u q=>k_ _ q) (i4 _) ⟨E,its,B,_,rb _ rfl,rfl,⟨_,rfl⟩,rfl⟩
 have i:∀b∈ch,(ky H s.heap.objs.size (.tup ys)) b=Y:=λb a=>by rw[bh (l b a)];exact(hf b a).1
 refine⟨?_,i,y⟩;refine mI (t':=t') C (λb a=>⟨i b a,(hf b a).2⟩) λb o a e=>?_;by_cases z:b=s.heap.objs.size
 .have j:(s.heap.push { cls:=.type "tuple",data:=.seq its.toArray}).get? s.heap.objs.size=J { cls:=.type "tuple",data:=.seq its.toArray}:=rb _ rfl
  grind
 .have j:=e;rw[Heap.get?_push_ne _ _ _ z]at j;exact k b o a j
end
def V0(K:h_)(f:Bool)(a:Addr):It :=
 ⟨λi H=>∃ys y,Ex f K H a ys/\ys[i]?=J y,λi H x j=>∃p y,H p=Y/\x=.ref p/\j=ky H p (.tup [.int i,y])/\∀ys,Ex f K H a ys->ys[i]?=J y,λi H=>∃ys,Ex f K H a ys/\ys.length<=i⟩
def Bs{P:Program}{w:World}{K:h_}{R:WX}{x1:Nat}{a6:Pos}(tp:Bool)(a e j:Addr)(L:e≠j)(a8:a≠e)(al:a≠j):
  EH P w K (.Tuple R x1 a6) (V0 K tp a) [e,j] e (λi h=>(∃old,IsEnum h e j i old)/\SqI tp h j a i) where
 mem:=by simp
 obj:=λi h st b M=>by
  obtain⟨⟨old,l⟩,B⟩:=st
  have:b=e\/b=j:=by simpa using M
  rcases this with rfl|rfl
  .exact⟨_,l,λv z=>nomatch z⟩
  .obtain⟨o,ho,W,hd⟩:=B;exact⟨o,ho,λv z=>by rw[hd]at z;cases z⟩
 keep:=λi h h' st k=>let⟨⟨old,l⟩,B⟩:=st;⟨⟨old,k e (by simp) _ l⟩,B.at' λo q=>k j (by simp) o q⟩
 item:=by
  intro X hP hw hK W i Oa s Z H E f hf st hg;subst hP hw hK;obtain⟨⟨old,l⟩,B⟩:=st;obtain⟨ys,y,hq,hy⟩:=hg;obtain⟨r,rv,so,hz⟩:=gJ f hq;obtain⟨u,hu,ru⟩:=rv.get hy;have ba:i<r.toArray.size:=by
   have:=(kx.mp hu).1
   simpa using this
  have G:(X.A.in1).handled=Y:=by have:=f.ok.hd W;simpa using this
  refine wpAny_pyNext_enum_itemD (OT G tp j a al r.toArray) l ⟨B,so⟩ ba L (by simp[L,Ne.symm a8]) λx h1 U hx a3 ay a7 bi a9=>⟨_,rfl,?_⟩;have ax:x=u:=by
   have:r.toArray[i]?=J u:=by simpa using hu
   rw[this]at hx;exact(Option.some.inj hx).symm
  subst ax;refine wpAny_letOwnedTupleGo_enum (s:={ s with heap:=h1,toks:=U+1}) a3 λh2 a5 F=>?_;have C:e<s.heap.objs.size:=l_ l;have S:j<s.heap.objs.size:=B.lt;obtain⟨I2,as,a0⟩:=xS (t':=U+1) (h':=h2) f (ch:=[e,j]) (ys:=[.int i,y]) (its:=[.int i U,x]) hf (.cons ⟨U,rfl⟩ (.cons ru .nil)) (by rw[sizeLine_eq];show 2<=_;decide)
   (by simp only[lb,HZ,or_false,not_or];exact⟨DL C,DL S⟩)
   ((F.2 _ (DL C)).trans a7)
   (λb o M q=>by
    have O:b≠e:=λz=>M (by simp[z]);have a2:b≠j:=λz=>M (by simp[z])
    exact(F.2 b O).trans (a9 b o O a2 q))
  refine⟨.ref s.heap.objs.size,_,I2,rfl,⟨_,y,a0,rfl,rfl,λzs ap=>by rw[sG f ap hq];exact hy⟩,⟨⟨x,by simpa using a5⟩,?_⟩,as⟩;exact ay.1.at' λo q=>(F.2 j (Ne.symm L)).trans q
 done:=by
  intro X hP hw hK W i Oa s Z H E f hf st hg;subst hP hw hK;obtain⟨⟨old,l⟩,B⟩:=st;obtain⟨ys,hq,hy⟩:=hg;obtain⟨r,rv,so,hz⟩:=gJ f hq;have G:(X.A.in1).handled=Y:=by have:=f.ok.hd W;simpa using this
  have be:=rv.length;have hT:s.TypeIs (.ref e) "enumerate":=⟨_,l,rfl⟩;unfold pyNext;refine e_ (wpAny_attempt (wpAny_callSpecial?_slot (name:=Str.ofString "__next__") hT PySem.F.slot_enumerate_next (wpAny_call_entry PySem.F.slot_enumerate_next hT PySem.F.entry_enumerate_next ?_ (PySem.F.args_enumerate_next_1 _))));show wpAny _ _ (field (.ref e) 2 >>= _) _ _ _;refine e_ (wpAny_field l rfl (x:=.ref j) rfl ?_);refine e_ (mE G B so (by simp;ext) λh1 x a4 an=>?_);obtain⟨o,ho,a1⟩:=an;refine e_ (wpAny_isInstance (T:="StopIteration") (b:=I) ⟨o,ho,a1⟩ isSubtype_stop ?_);refine i5 ⟨rfl,mI (t':=s.toks) f hf λb o M q=>a4 b o (λz=>M (by simp[z])) q⟩
 self:=λA i s Q E st h=>let⟨⟨old,l⟩,_⟩:=st;wpAny_pyIter_enum l h
def V1(K:h_)(j f:Bool)(a b:Addr):It :=
 ⟨λi H=>∃xs ys x y,Ex j K H a xs/\Ex f K H b ys/\xs[i]?=J x/\ys[i]?=J y,
   λi H v l=>∃p x y,H p=Y/\v=.ref p/\l=ky H p (.tup [x,y])/\(∀xs,Ex j K H a xs->xs[i]?=J x)/\∀ys,Ex f K H b ys->ys[i]?=J y,
   λi H=>∃xs ys,Ex j K H a xs/\Ex f K H b ys/\(xs.length<=i\/ys.length<=i)⟩
def DH{P:Program}{w:World}{K:h_}{ap:WX}{x1:Nat}{be:Pos}(t1 t2:Bool)(a b z TI TO G L:Addr)(D:ZipApart z TI TO G L a b):
  EH P w K (.Tuple ap x1 be) (V1 K t1 t2 a b) [z,TI,TO,G,L] z (λi h=>IsZip h z TI TO .none/\IsPair h TI (.ref G) (.ref L)/\(∃u v,IsPair h TO u v)/\SqI t1 h G a i/\SqI t2 h L b i) where
 mem:=by simp
 obj:=λi h st c l=>by
  obtain⟨F,j,⟨u,v,r⟩,⟨o1,e1,_,d1⟩,⟨o2,e2,_,d2⟩⟩:=st
  have:c=z\/c=TI\/c=TO\/c=G\/c=L:=by simpa using l
  rcases this with rfl|rfl|rfl|rfl|rfl
  .exact⟨_,F,λv z=>nomatch z⟩
  .exact⟨_,j,λv z=>nomatch z⟩
  .exact⟨_,r,λv z=>nomatch z⟩
  .exact⟨o1,e1,λv z=>by rw[d1]at z;cases z⟩
  .exact⟨o2,e2,λv z=>by rw[d2]at z;cases z⟩
 keep:=λi h h' st k=>let⟨F,j,⟨u,v,r⟩,h1,W⟩:=st
  ⟨k z (by simp) _ F,k TI (by simp) _ j,⟨u,v,k TO (by simp) _ r⟩,h1.at' λo q=>k G (by simp) o q,W.at' λo q=>k L (by simp) o q⟩
 item:=by
  intro X hP hw hK l i Oa s Z H E f hf st hg;subst hP hw hK;obtain⟨F,j,⟨u,v,r⟩,h1,W⟩:=st;obtain⟨xs,ys,x,y,B,C,hx,hy⟩:=hg;obtain⟨as,R,M,a8⟩:=gJ f B;obtain⟨ax,S,U,a7⟩:=gJ f C;obtain⟨u1,a1,a0⟩:=R.get hx;obtain⟨u2,a6,ba⟩:=S.get hy;refine Cw D F j r h1 W M U (x:=u1) (y:=u2) (by simpa using a1) (by simpa using a6) λha a4 al bn a9 bi bq an=>⟨_,rfl,?_⟩;refine wpAny_letOwnedTupleGo_zip (s:={ s with heap:=ha}) a4 λhb a5 sb=>?_;have l1:z<s.heap.objs.size:=l_ F;have l2:TI<s.heap.objs.size:=l_ j;have l3:TO<s.heap.objs.size:=l_ r;have l4:G<s.heap.objs.size:=h1.lt;have l5:L<s.heap.objs.size:=W.lt;have up:∀c o,c≠z->ha.get? c=J o->hb.get? c=J o:=λc o l q=>(sb.2 c l).trans q;obtain⟨I2,a2,a3⟩:=xS (t':=s.toks) (h':=hb) f (ch:=[z,TI,TO,G,L]) (ys:=[x,y]) (its:=[u1,u2]) hf (.cons a0 (.cons ba .nil)) (by rw[sizeLine_eq];show 2<=_;decide)
   (by simp only[lb,HZ,or_false,not_or];exact⟨DL l1,DL l2,DL l3,DL l4,DL l5⟩)
   (up _ _ (DL l1) bi)
   (λc o l q=>up c o (λe=>l (by simp[e])) (an c o (λe=>l (by simp[e])) (λe=>l (by simp[e])) (λe=>l (by simp[e])) (λe=>l (by simp[e])) q))
  refine⟨.ref s.heap.objs.size,_,I2,rfl,⟨_,x,y,a3,rfl,rfl,λzs O=>by rw[sG f O B];exact hx,λzs O=>by rw[sG f O C];exact hy⟩,⟨a5,?_,⟨_,_,up _ _ D.TOz al⟩,bn.at' λo q=>up _ o D.i1z q,a9.at' λo q=>up _ o D.i2z q⟩,a2⟩;exact up _ _ D.TIz (an _ _ D.TIz D.TITO D.TIi1 D.TIi2 j)
 done:=by
  intro X hP hw hK l i Oa s Z H E f hf st hg;subst hP hw hK;obtain⟨F,j,⟨u,v,r⟩,h1,W⟩:=st;obtain⟨xs,ys,B,C,ay⟩:=hg;obtain⟨as,R,M,a8⟩:=gJ f B;obtain⟨ax,S,U,a7⟩:=gJ f C;have e1:=R.length;have e2:=S.length;have hT:s.TypeIs (.ref z) "zip":=⟨_,F,rfl⟩;have bt:(X.A.in1).handled=Y:=by have:=f.ok.hd l;simpa using this
  refine GU (f.ok.hd l) D F j r h1 W M U ?_ λh' hk=>⟨rfl,mI (t':=s.toks) f hf λc o l q=>hk c o (λe=>l (by simp[e])) (λe=>l (by simp[e])) (λe=>l (by simp[e])) (λe=>l (by simp[e])) q⟩;rcases ay with q|q
  .exact .inl (by simp;ext)
  .exact .inr (by simp;ext)
 self:=λA i s Q E st h=>wpAny_pyIter_zip st.1 h
def cF(v:PV)(h:MH):Option (Bool×WL×List (Nat×WL)):=match v with
 |.loc n=>(match h[n]? with
  |some (.lst xs)=>J (T,xs,[(n,xs)])
  |_=>Y)
 |.frl xs=>J (T,xs,[])
 |.tup xs=>J (I,xs,[])
 |_=>Y
def wB{X:Cx}{U:WS}{H:Hp}{h:MH}{x:PV}{y:V}{u:Bool}{xs:WL}{gd:List (Nat×WL)}(O:RH X.K X.mg U H h)(r:RP X.K U H x y)(e:cF x h=J (u,xs,gd)):
  ∃a,y=.ref a/\(∃ys,Ex u X.K H a ys)/\∀i f j,Le U H i f->RH X.K X.mg i f j->(∀p∈gd,j[p.1]?=J (.lst p.2))->∃ys,Ex u X.K f a ys/\RPs X.K i f xs ys:=by
 cases r with
 |frl s r=>cases e;exact⟨_,rfl,⟨_,s.sq⟩,λi f j l _ _=>⟨_,(l.sqf s).sq,r.le l⟩⟩
 |tup s r=>cases e;exact⟨_,rfl,⟨_,s⟩,λi f j l _ _=>⟨_,l.sqt s,r.le l⟩⟩
 |@loc n a F =>
  obtain⟨o,M,G⟩:=O.obj F;unfold cF at e;dsimp only at e;rw[M]at e
  cases o with
  |lst P =>
   cases e;obtain⟨ys,L,Q⟩:=G;refine⟨a,rfl,⟨ys,SqL.of L⟩,λi f j l B ok=>?_⟩;obtain⟨z,E,C⟩:=B.at' n a _ (l.get F) (ok (n,xs) (by simp));exact⟨z,SqL.of E,C⟩
  |_=>cases e
 |_=>cases e
def j8(xs:WL):WL:=xs.zipIdx.map λp=>.tup [.int (p.2:Int),p.1]
def kR(xs ys:WL):WL:=(xs.zip ys).map λp=>.tup [p.1,p.2]
def B2{xs:WL}{i:Nat}{x:PV}(h:xs[i]?=J x):(j8 xs)[i]?=J (.tup [.int (i:Int),x]):=by delta j8;rw[oe,RT,h];simp
def tV(xs:WL):(j8 xs).length=xs.length:=by simp[j8]
def uN(xs ys:WL):(kR xs ys).length=min xs.length ys.length:=by simp[kR]
def Do{xs ys:WL}{i:Nat}{x y:PV}(a:xs[i]?=J x)(f:ys[i]?=J y):(kR xs ys)[i]?=J (.tup [x,y]):=by
 delta kR;rw[oe]
 have:(xs.zip ys)[i]?=J (x,y):=by rw[List.getElem?_zip_eq_some];exact⟨a,f⟩
 rw[this];rfl
def Ti(m:Mx (WL)):Mx MIt:=λZ h=>(m Z h).bind λf a=>match f with
 |[x]=>(match cF x a with
  |some (_,xs,gd)=>.ok ⟨j8 xs,gd⟩ a
  |none=>.bad)
 |_=>.bad
def Tj(m:Mx (WL)):Mx MIt:=λZ h=>(m Z h).bind λf a=>match f with
 |[x,y]=>(match cF x a,cF y a with
  |some (_,xs,i),J (_,ys,j)=>.ok ⟨kR xs ys,i++j⟩ a
  |_,_=>.bad)
 |_=>.bad
section
variable{X:Cx}{N W G:WM}{k:Nat}
def GW(g:Good X N W G k){ax:WX}{x1:Nat}{tp:Pos}{a:Expr}{m:Mx (WL)}{p a0:Pos}{j:Nat}(hj:G[j]?=J "enumerate")(hm:X.mg "enumerate"=Y)(ha:MA X [a] m)(hs:starEach [a] X.env=[(T,eval a X.env)]:=by rfl):MI X (.Tuple ax x1 tp) (.Call (.Name "enumerate" p) [a] [] a0) (Ti m):=by
 have d:=g.dbg _ (n2 _ (aN hj));intro Oa s Z H R al ⟨U,a2,h,rs,rh,q⟩;refine wpAny_Call_Name_kw (iO al (g.gl _ (aN hj)) hm PyProof.Rows.Boot.«enumerate» ?_ d.2.2 d.1)
 refine PyProof.Rows.callWith_type1 (ki (ha a0 Oa s Z H (λvs r=>∃M Q xs,Le U H M r/\RH X.K X.mg M r Q/\RPs X.K M r xs vs/\Ful X (rj X) a2 M r ((match xs with
   |[x]=>(match cF x Q with|some (_,xs,gd)=>.ok ⟨j8 xs,gd⟩ Q|none=>.bad)
   |_=>.bad:Out MIt)) R) al ⟨U,a2,h,rs,rh,Ful.bind q λM r v v' Q _ l1 L rv E=>⟨M,Q,v,l1,L,rv,E⟩⟩) λus C ⟨vs,r,S,r1,M,Q,xs,l1,L,rv,E⟩=>?_) hs rfl
 cases rv with
 |nil=>exact E.elim
 |@cons y y' ys bn ry t1 =>
  cases t1 with
  |cons _ _=>exact E.elim
  |nil =>
   dsimp only at E
   cases P:cF y Q with
   |none=>rw[P]at E;exact E.elim
   |some z =>
    obtain⟨b,zs,gd⟩:=z;rw[P]at E;obtain⟨ad,rfl,⟨ws,a5⟩,a6⟩:=wB L ry P;obtain⟨u,rfl,rx⟩:=fw r1;cases rx;obtain⟨bi,a9,so,hz⟩:=gJ S a5;refine AX so λh' he hi be hk=>?_;refine wpAny_pyIter_enum he ?_;have I2:Inv X Oa Z r { C with heap:=h',toks:=C.toks}:=S.kept hk;obtain⟨oa,a8,ba,_⟩:=id so;have a3:ad<C.heap.objs.size:=l_ a8;have a1:=S.hok.fresh (i4 C.heap.objs.size);have as:=S.hok.fresh (Ih C.heap.objs.size);refine⟨C.heap.objs.size+1,_,_,_,r,rfl,I2,Bs b ad _ C.heap.objs.size (DL (MQ _)) (tt (ML a3)) (tt a3),⟨⟨_,he⟩,hi⟩,λc hc=>?_,?_⟩
    .have:c=C.heap.objs.size+1\/c=C.heap.objs.size:=by simpa using hc
     rcases this with rfl|rfl
     .have F:=Inv.fpOk S (H':=r) (b:=C.heap.objs.size+1) (Ih _) as;exact F
     .exact Inv.fpOk S (H':=r) (i4 _) a1
    .refine E M r _ (Le.refl _ _) L ?_;intro U' H' h2 i l an ok;obtain⟨O,B,ay⟩:=a6 U' H' h2 l an ok;refine⟨λf=>?_,λf=>⟨O,B,by rw[<-ay.length];rw[tV]at f;exact f⟩⟩;rw[tV]at f;have hx:zs[i]?=J (zs[i]'f):=q_ f;obtain⟨w',ew,a4⟩:=ay.get hx;refine⟨⟨O,w',B,ew⟩,λx' H3 ⟨pp,y2,hp,e1,e2,ap⟩=>?_⟩;subst e1;subst e2;have ey:y2=w':=by
      have:=ap O B
      rw[ew]at this;exact(Option.some.inj this).symm
     subst ey;obtain⟨a7,l3⟩:=an.tup hp [.int i,y2];exact⟨U',_,l3,a7,B2 hx,.tup (SqT.of cg) (.cons (.int _) (.cons (a4.le l3) .nil))⟩
def La(g:Good X N W G k){bu:WX}{x1:Nat}{tp:Pos}{a b:Expr}{m:Mx (WL)}{p a5:Pos}{j:Nat}(hj:G[j]?=J "zip")(hm:X.mg "zip"=Y)(ha:MA X [a,b] m)(hs:starEach [a,b] X.env=(T,eval a X.env)::starEach [b] X.env:=by rfl)(cq:(backTo a5 (starEach [b] X.env)).any (·.1)=T:=by rfl):MI X (.Tuple bu x1 tp) (.Call (.Name "zip" p) [a,b] [] a5) (Tj m):=by
 have d:=g.dbg _ (n2 _ (aN hj));intro Oa s Z H R a9 ⟨U,b4,h,rs,rh,q⟩;refine wpAny_Call_Name_kw (iO a9 (g.gl _ (aN hj)) hm PyProof.Rows.Boot.«zip» ?_ d.2.2 d.1)
 refine PyProof.Rows.callWith_type1 (ki (ha a5 Oa s Z H (λvs M=>∃U1 h1 xs,Le U H U1 M/\RH X.K X.mg U1 M h1/\RPs X.K U1 M xs vs/\Ful X (rj X) b4 U1 M ((match xs with
   |[x,y]=>(match cF x h1,cF y h1 with|some (_,xs,g1),J (_,ys,g2)=>.ok ⟨kR xs ys,g1++g2⟩ h1|_,_=>.bad)
   |_=>.bad:Out MIt)) R) a9 ⟨U,b4,h,rs,rh,Ful.bind q λU1 M v v' h1 _ l1 S rv L=>⟨U1,h1,v,l1,S,rv,L⟩⟩) λus f ⟨vs,M,I1,r1,U1,h1,xs,l1,S,rv,L⟩=>?_) hs cq
 cases rv with
 |nil=>exact L.elim
 |@cons y y' ys ec ry t1 =>
  cases t1 with
  |nil=>exact L.elim
  |@cons v v' dF dc rv t2 =>
   cases t2 with
   |cons _ _=>exact L.elim
   |nil =>
    dsimp only at L
    cases an:cF y h1 with
    |none=>rw[an]at L;exact L.elim
    |some z =>
     obtain⟨b1,bn,dd⟩:=z
     cases Q:cF v h1 with
     |none=>rw[an,Q]at L;exact L.elim
     |some z2 =>
      obtain⟨b2,bx,dt⟩:=z2;rw[an,Q]at L;obtain⟨u,rfl,⟨ds,be⟩,b0⟩:=wB S ry an;obtain⟨E,rfl,⟨ea,bt⟩,a7⟩:=wB S rv Q
      cases r1 with
      |@cons _ u1 _ dV ca cn =>
       cases cn with
       |@cons _ u2 _ dx c1 ck =>
        cases ck;cases ca;cases c1;obtain⟨da,c5,a6,d1⟩:=gJ I1 be;obtain⟨db,c6,b5,d0⟩:=gJ I1 bt;refine DF a6 b5 λh' hz b6 cy cd cb d2 hk=>?_;refine wpAny_pyIter_zip hz ?_;have I2:Inv X Oa Z M { f with heap:=h',toks:=f.toks}:=I1.kept hk;obtain⟨eb,ba,_,_⟩:=id a6;obtain⟨ed,bq,_,_⟩:=id b5;have al:u<f.heap.objs.size:=l_ ba;have IY:E<f.heap.objs.size:=l_ bq;have sN:∀(n:Nat),f.heap.objs.size<=f.heap.objs.size+n:=λn=>Jm _ _;have ap:∀(c:Addr)(n:Nat),c<f.heap.objs.size->c≠f.heap.objs.size+n:=λc n hc=>tt (oy hc (sN n));have r:∀(m n:Nat),m≠n->f.heap.objs.size+m≠f.heap.objs.size+n:=λm n c2 e=>c2 (Nat.add_left_cancel e);have D:ZipApart (f.heap.objs.size+4) (f.heap.objs.size+2) (f.heap.objs.size+3) f.heap.objs.size (f.heap.objs.size+1) u E :=
         ⟨r 2 4 (by decide),r 3 4 (by decide),r 0 4 (by decide),r 1 4 (by decide),r 2 3 (by decide),r 2 0 (by decide),r 2 1 (by decide),r 3 0 (by decide),r 3 1 (by decide),r 0 1 (by decide),
          ap u 4 al,ap u 3 al,ap u 0 al,ap u 1 al,ap E 4 IY,ap E 3 IY,ap E 0 IY,ap E 1 IY⟩
        refine⟨f.heap.objs.size+4,_,_,_,M,rfl,I2,DH b1 b2 u E _ _ _ _ _ D,⟨hz,b6,⟨_,_,cy⟩,cd,cb⟩,λc hc=>?_,?_⟩
        .have F:∀n:Nat,jS X Oa M (f.heap.objs.size+n):=λn=>Inv.fpOk I1 (H':=M) (sN n) (I1.hok.fresh (sN n))
         have:c=f.heap.objs.size+4\/c=f.heap.objs.size+2\/c=f.heap.objs.size+3\/c=f.heap.objs.size\/c=f.heap.objs.size+1:=by simpa using hc
         rcases this with rfl|rfl|rfl|rfl|rfl
         .exact F 4
         .exact F 2
         .exact F 3
         .exact F 0
         .exact F 1
        .refine L U1 M _ (Le.refl _ _) S ?_;intro U' H' h2 i l ay ok;obtain⟨P,C,ax⟩:=b0 U' H' h2 l ay (λp hp=>ok p (rT _ hp));obtain⟨O,B,as⟩:=a7 U' H' h2 l ay (λp hp=>ok p (n2 _ hp));refine⟨λa4=>?_,λa4=>⟨P,O,C,B,?_⟩⟩
         .rw[uN]at a4;have a8:bn[i]?=J (bn[i]'(by ext)):=q_ (by ext);have bi:bx[i]?=J (bx[i]'(by ext)):=q_ (by ext);obtain⟨w1,b3,c4⟩:=ax.get a8;obtain⟨w2,bv,cs⟩:=as.get bi;refine⟨⟨P,O,w1,w2,C,B,b3,bv⟩,λx' H3 ⟨pp,y1,y2,hp,e1,e2,a3,a0⟩=>?_⟩;subst e1;subst e2;have cx:y1=w1:=by
           have:=a3 P C
           rw[b3]at this;exact(Option.some.inj this).symm
          have cf:y2=w2:=by
           have:=a0 O B
           rw[bv]at this;exact(Option.some.inj this).symm
          subst cx;subst cf;obtain⟨c3,l3⟩:=ay.tup hp [y1,y2];exact⟨U',_,l3,c3,Do a8 bi,.tup (SqT.of cg) (.cons (c4.le l3) (.cons (cs.le l3) .nil))⟩
         .rw[uN]at a4;have a1:=ax.length;have a2:=as.length;ext
end
end MM
namespace MM
open PySem.Spec PyProof.Rows L2 SetT SortT
def dP:WL->Option (WN)
 |[]=>J []
 |.int i::r=>(dP r).map (i::·)
 |_=>Y
def fg(l:WN):WN:=l.mergeSort λa b=>decide (a<=b)
def iX(l:WN):(fg l).Perm l:=List.mergeSort_perm _ _
def lT(l:WN):(fg l).Pairwise (·<=·):=by
 have:=UH (le:=λa b:Int=>decide (a<=b)) (λa b c f i=>by
   simp only[decide_eq_true_eq]at f i ⊢;lia) (λa b=>by
   lia)
 delta fg
 simp_all
def iA{l m:WN}(f:l.Pairwise (·<=·))(i:m.Pairwise (·<=·))(p:l.Perm m):l=m :=
 List.Perm.eq_of_pairwise (λa b _ _ x y=>by lia) f i p
def sQ:∀{xs:WL}{k:WN},dP xs=J k->xs=k.map .int
 |[],k,h=>by cases h;rfl
 |x::r,k,h=>by
  cases x with
  |int i =>
   unfold dP at h
   cases a:dP r with
   |none=>rw[a]at h;cases h
   |some f =>
    rw[a]at h;cases h;rw[sQ a];rfl
  |_=>cases h
def vO:∀(k:WN),dP (k.map .int)=J k
 |[]=>rfl
 |i::k=>by show(dP (k.map .int)).map (i::·)=_;rw[vO k];rfl
def j_(xs:WL)(h:MH):WZ:=match xs with
 |[x]=>(match df h x with
  |some ys=>(match dP ys with
   |some ns=>if ns.length<64 then .ok (.loc h.length) (h++[.lst ((fg ns).map .int)])else .bad
   |none=>(match jW ys with
    |some a=>if(∀k∈a,k≠[])/\a.length<=66 then .ok (.loc h.length) (h++[.lst ((cE a).map kP)])else .bad
    |none=>.bad))
  |none=>.bad)
 |_=>.bad
def ww:∀{ns:WN}{a:WT},aD (ns.map V.int) a->IntsAre a ns
 |[],_,h=>by cases h;exact .nil
 |i::k,_,h=>by
  cases h with
  |cons r t =>
   obtain⟨f,rfl⟩:=r;exact .cons i f (ww t)
def uX:∀{ns:WN}{a:WT},IntsAre a ns->aD (ns.map V.int) a
 |_,_,.nil=>.nil
 |_,_,.cons n t h=>.cons ⟨t,rfl⟩ (uX h)
section
variable{X:Cx}{N W G:WM}{k:Nat}
def vW:cK X (.builtin "sorted") (λxs H Q=>∃l ns,xs=[.ref l]/\SqL X.K H l (ns.map V.int)/\ns.length<64/\∀B,H B=Y->Q (.ref B) (ky H B (.lst ((fg ns).map V.int)))):=by
 intro Oa s Z H xs us Q f r ⟨l,ns,e,U,hz,q⟩;subst e;obtain⟨u,rfl,R⟩:=fw r;cases R;obtain⟨a,E,P,al⟩:=f.list U;have j:=E.length;rw[oF]at j;refine sorted_ints P.isList (ww E) ⋯ λi L S M h3=>?_;have e:=iA h3 (lT ns) (M.trans (iX ns).symm);subst e;have z:((s.heap.push (seqObj "list" #[] 0)).update s.heap.objs.size (Obj.mapSeq (·++a.toArray))).objs.size=s.heap.objs.size+1:=by rw[Heap.size_update,size_push']
 have C:(((s.heap.push (seqObj "list" #[] 0)).update s.heap.objs.size (Obj.mapSeq (·++a.toArray))).push (seqObj "list" a.toArray 0)).get? (s.heap.objs.size+1)=J (seqObj "list" a.toArray 0):=by rw[<-z];exact rb _ rfl
 obtain⟨c,O⟩:=ku C i;refine⟨.ref (s.heap.objs.size+1),_,f.laid (o:=.lst ((fg ns).map V.int)) (t':=s.toks) (λb o F=>?_) (Ih _) (⟨?_,i.toList,c,uX S,?_⟩),rfl,q _ (f.hok.fresh (Ih _))⟩
 .have y:=l_ F;refine jO (tt (ML y)) ?_ _;refine k_ _ ?_;rw[Nm _ _ _ _ (tt y)];exact k_ _ F
 .rw[oF,(iX ns).length_eq,sizeLine_eq];lia
 .unfold sortedAll;rw[O]
def tL:dv X (.builtin "sorted") j_:=by
 intro R s Z H xs O Q u r ⟨U,h,ps,B,rp,q⟩
 cases rp with
 |nil=>exact q.elim
 |@cons x y _ _ r1 t1 =>
  cases t1 with
  |cons _ _=>exact q.elim
  |nil =>
   unfold j_ at q;dsimp only at q
   cases L:df h x with
   |none=>rw[L]at q;exact q.elim
   |some P =>
    rw[L]at q;dsimp only at q;obtain⟨M,ys,rfl,j,a⟩:=rE B r1 L
    cases E:dP P with
    |some ns =>
     rw[E]at q;dsimp only at q;by_cases z:ns.length<64
     .rw[c_ z]at q;rw[sQ E]at a;rw[Ew a]at j;refine vW R s Z H _ O Q u r ⟨M,ns,rfl,j,z,λl i=>?_⟩;obtain⟨f,l3⟩:=B.new i (o:=.lst ((fg ns).map .int)) ⟨_,rfl,RPs.ints _⟩;exact q _ _ _ l3 f (.loc (by rw[<-B.len];simp))
     .rw[f_ z]at q;exact q.elim
    |none =>
     rw[E]at q
     cases F:jW P with
     |none=>rw[F]at q;exact q.elim
     |some C =>
      rw[F]at q;dsimp only at q;by_cases z:(∀k∈C,k≠[])/\C.length<=66
      .rw[c_ z]at q;rw[rD F]at a;refine wq R s Z H _ O Q u r ⟨M,ys,C,rfl,j,sv a,z.1,z.2,λl al i S=>?_⟩;obtain⟨f,l3⟩:=B.new i (o:=.lst ((cE C).map kP)) ⟨_,rfl,ss S⟩;exact q _ _ _ l3 f (.loc (by rw[<-B.len];simp))
      .rw[f_ z]at q;exact q.elim
end
def GX:Dr X b (λ_ _=>.bad):=λj s Z H D f ⟨U,a,h,i,l,q⟩=>q.elim
end MM
namespace MM
open PySem.Spec PyProof.Rows L2
def r6(a:Nat->ly->MH->Prop):∀(xs:WL)(j:Nat)(Z:ly)(h:MH),a j Z h->(∀j Z h,a j Z h->it.ok h) ->
  (∀m Z h x,a (j+m) Z h->xs[m]?=J x->∃B u f i,g x Z h=.nx B u/\b B u=.nx f i/\a (j+m+1) f i) ->
  ∃f i,xT it g b xs Z h=.nx f i/\a (j+xs.length) f i
 |[],j,Z,h,l,hok,_=>⟨Z,h,Gf (hok _ _ _ l),l⟩
 |x::r,j,Z,h,l,hok,st=>by
  obtain⟨B,u,F,C,e1,e2,G⟩:=st 0 Z h x l rfl;obtain⟨L,H,e3,E⟩:=r6 a r (j+1) F C G hok λm f i y q z=>by
   have:=st (m+1) f i y (by rw[show j+(m+1)=j+1+m by lia];exact q) (by simpa using z)
   rw[show j+(m+1)+1=j+1+m+1 by lia]at this;exact this
  refine⟨L,H,?_,by rw[pk,show j+(r.length+1)=j+1+r.length by lia];exact E⟩;rw[De (hok _ _ _ l) e1,e2];exact e3
end MM
namespace MM
open PySem.Spec PyProof.Rows L2 SetT SortT
section
variable{h:MH}{i:Int}{xs:WL}{n:Nat}
def AH(e:h[n]?=J (.lst xs)):df h (.loc n)=J xs:=by simp[df,e]
def Bm(e:h[n]?=J (.lst (ns.map .int)))(a:ns.length<64):j_ [.loc n] h=.ok (.loc h.length) (h++[.lst ((fg ns).map .int)]):=by simp[j_,AH e,vO,a]
def yL(e:h[n]?=J (.lst xs))(a:xs.length<1000):dE n [v] h=.ok .non (h.set n (.lst (xs++[v]))):=by
 have z:1000<=sizeLine:=by decide
 simp only[dE,e];rw[c_ ⋯]
def xw(em:m Z h=.ok (.loc n) h1)(e:h1[n]?=J (.lst xs)):Ed f m ma Z h=(ma Z h1).bind λj a=>(f n j a).ne:=by simp_all
end
def itR1'(em:m Z h=.ok [.int j] h1)(z:-(2^62)<=j/\j<2^62):kc m Z h=.ok ⟨bI 0 j.toNat,[]⟩ h1:=by simp_all
def Tk(em:m Z h=.ok [.int (n:Int)] h1)(f:n<=100000):kc m Z h=.ok ⟨bI 0 n,[]⟩ h1:=by
 have i:-(2^62)<=(n:Int):=Sd (by decide) (Int.natCast_nonneg n);have a:(n:Int)<2^62:=RW (Int.ofNat_le.mpr f) (by decide)
 have:=itR1' em ⟨i,a⟩
 rwa [z_]at this
def Tl(em:m Z h=.ok [.int i,.int j] h1)(f:0<=i)(l:i<=100000)(a:0<=j)(r:j<=100000):oC m Z h=.ok ⟨bI i (j-i).toNat,[]⟩ h1:=by
 have B:-(2^62)<=i:=Sd (by decide) f;have y:i<2^62:=RW l (by decide);have u:-(2^62)<=j:=Sd (by decide) a;have z:j<2^62:=RW r (by decide)
 simp_all
def hX:∀(k:WN),PyData.canLayAll0 (k.map .int)=I/\PyData.depthAll (k.map .int)<=1
 |[]=>⟨rfl,by simp[PyData.depthAll]⟩
 |i::k=>by
  obtain⟨a,b⟩:=hX k;constructor
  .simp[PyData.canLayAll0,PyData.canLay0,a]
  .simp only[oI,PyData.depthAll,PyData.depth];lia
def vt:∀(f:WP),PyData.canLayAll0 (f.map λk=>.tuple (k.map .int))=I/\PyData.depthAll (f.map λk=>.tuple (k.map .int))<=2
 |[]=>⟨rfl,by simp[PyData.depthAll]⟩
 |k::f=>by
  obtain⟨a,b⟩:=vt f;obtain⟨c,d⟩:=hX k;constructor
  .simp[PyData.canLayAll0,PyData.canLay0,a,c]
  .simp only[oI,PyData.depthAll,PyData.depth];lia
end MM
namespace MM
open PySem.Spec PyProof.Rows L2
def jN(h:MH):PV->Option Bool
 |.non=>J T
 |.bl b=>J b
 |.int i=>J (i != 0)
 |.str _=>Y
 |.tup xs=>J (!xs.isEmpty)
 |.frl xs=>J (!xs.isEmpty)
 |.loc n=>match h[n]? with
  |some (.lst xs)=>J (!xs.isEmpty)
  |_=>Y
def Vn(m:Mx PV):Mx Bool:=λZ h=>(m Z h).bind λv a=>match jN a v with
 |some b=>.ok b a
 |none=>.bad
section
variable{X:Cx}{N W G:WM}{k:Nat}
def gq{K:h_}{U:WS}{H:Hp}{xs:WL}{ys:List V}(r:RPs K U H xs ys):(!xs.isEmpty)=!ys.isEmpty:=by cases r<;>rfl
def Lb{e:Expr}{m:Mx PV}(h:ME X e m)(O:∀l,isTrue e X.env l=(do let v <-l;standAt e.pos;holding [v] (truthy v)):=by intro _;rfl):MT X e (Vn m):=by
 refine PT.imp (Dd h O) λZ H Q ⟨U,C,h,P,S,q⟩=>⟨U,C,h,P,S,Ful.bind q λu y x x' h1 _ l1 f L j=>?_⟩
 cases L with
 |non=>exact⟨T,rfl,j u y _ (Le.refl _ _) f rfl⟩
 |bl b=>exact⟨b,rfl,j u y _ (Le.refl _ _) f rfl⟩
 |int i=>exact⟨_,rfl,j u y _ (Le.refl _ _) f rfl⟩
 |str i=>exact j.elim
 |@tup xs a ys s r=>exact⟨_,.inr (.inl ⟨ys,s,rfl⟩),by rw[<-gq r];exact j u y _ (Le.refl _ _) f rfl⟩
 |@frl xs a ys s r=>exact⟨_,.inl ⟨ys,s.sq,rfl⟩,by rw[<-gq r];exact j u y _ (Le.refl _ _) f rfl⟩
 |@loc n a e =>
  obtain⟨o,B,F⟩:=f.obj e
  cases o with
  |lst xs =>
   obtain⟨ys,M,R⟩:=F;simp only[jN,B]at j;exact⟨_,.inl ⟨ys,.inl (.inl M),rfl⟩,by rw[<-gq R];exact j u y _ (Le.refl _ _) f rfl⟩
  |dic E=>simp only[jN,B]at j;exact j.elim
  |exc z=>simp only[jN,B]at j;exact j.elim
end
end MM
namespace MM
open PySem.Spec PyProof.Rows L2 PySem.W
def eZ(k:Int):WN->WD
 |[]=>Y
 |x::r=>if x=k then J 0 else(eZ k r).map (·+1)
def AW:isInt k (.int a t)=decide (a=k):=by simp[isInt,UQ]
def za:∀{ns:WN}{f:WT},aD (ns.map V.int) f->kf_ints f=I/\kf_at k f=eZ k ns
 |[],_,r=>by cases r;exact⟨rfl,rfl⟩
 |n::ns,_,r=>by
  cases r with
  |cons j i =>
   obtain⟨t,rfl⟩:=j;obtain⟨a,b⟩:=za i;refine⟨a,?_⟩;unfold kf_at eZ;rw[AW,b];by_cases z:n=k
   .simp[z]
   .simp only[z];cases eZ k ns<;>rfl
def qH(n:Nat)(a:WL)(h:MH):WZ:=match a with
 |[.int k]=>(match h[n]? with
  |some (.lst xs)=>(match dP xs with
   |some ns=>(match eZ k ns with
    |some j=>.ok (.int j) h
    |none=>.bad)
   |none=>.bad)
  |_=>.bad)
 |_=>.bad
def oE(n:Nat)(a:WL)(h:MH):WZ:=match a with
 |[.int k]=>(match h[n]? with
  |some (.lst xs)=>(match dP xs with
   |some ns=>(match eZ k ns with
    |some j=>.ok .non (h.set n (.lst ((ns.eraseIdx j).map .int)))
    |none=>.bad)
   |none=>.bad)
  |_=>.bad)
 |_=>.bad
def pQ:∀{xs:WL}{ns:WN},dP xs=J ns->xs=ns.map .int
 |[],ns,e=>by cases e;rfl
 |x::xs,ns,e=>by
  cases x with
  |int i =>
   rw[dP,tr]at e;obtain⟨a,e1,rfl⟩:=e;rw[pQ e1];rfl
  |_=>cases e
def kL{K:h_}{U:WS}{H:Hp}:∀{ns:WN}{ys:List V},RPs K U H (ns.map .int) ys->ys=ns.map V.int
 |[],_,r=>by cases r;rfl
 |n::ns,_,r=>by cases r with|cons f a=>cases f;rw[kL a];rfl
section
variable{X:Cx}
def DP:FV X "list.index" (Gk X qH):=by
 intro Oa s Z H x vs v us Q f rx W ⟨U,h,n,a,ps,e,en,S,rp,q⟩;subst e;obtain⟨o,eo,ro⟩:=S.obj en;unfold qH at q
 cases rp with
 |nil=>exact q.elim
 |cons R t1 =>
  cases t1 with
  |cons _ _=>cases R<;>exact q.elim
  |nil =>
   cases R with
   |int k =>
    rw[eo]at q
    cases o with
    |lst xs =>
     dsimp only at q
     cases C:dP xs with
     |none=>rw[C]at q;exact q.elim
     |some ns =>
      rw[C]at q;dsimp only at q
      cases F:eZ k ns with
      |none=>rw[F]at q;exact q.elim
      |some j =>
       rw[F]at q;obtain⟨ys,ey,O⟩:=ro;rw[pQ C]at O
       have:=kL O
       subst this;cases rx
       cases W with
       |cons E u =>
        cases u;obtain⟨t,rfl⟩:=E;obtain⟨z,B,nn,r,P,e⟩:=f.lstM ey;obtain⟨k1,M⟩:=za r;rw[F]at M;obtain⟨hj,l,G⟩:=kf_at_spec M;have hs:=sizeLine_eq;refine call_meets PySem.F.slot_list_index ⟨_,e,rfl⟩ PySem.F.entry_list_index (PySem.F.args_list_index_2 _ _)
         (MeetsSeq.list_index a B.toArray nn (.int k t) (isInt k) (λy hy=>kf_eq k1 y (by simpa using hy)) j (by simpa using hj) ⋯ (by simpa using l) (λi hi L=>by simpa using G i (by simpa using hi) L)) ⟨e,?_⟩
        exact⟨.int j,H,f.tok _,⟨_,rfl⟩,q U H _ (Le.refl _ _) S (.int _)⟩
    |_=>exact q.elim
   |_=>exact q.elim
def BO:FV X "list.remove" (Gk X oE):=by
 intro Oa s Z H x vs v us Q u rx rv ⟨U,h,n,a,ps,e,W,rh,rp,q⟩;subst e;obtain⟨o,eo,ro⟩:=rh.obj W;unfold oE at q
 cases rp with
 |nil=>exact q.elim
 |cons r1 t1 =>
  cases t1 with
  |cons _ _=>cases r1<;>exact q.elim
  |nil =>
   cases r1 with
   |int k =>
    rw[eo]at q
    cases o with
    |lst xs =>
     dsimp only at q
     cases G:dP xs with
     |none=>rw[G]at q;exact q.elim
     |some ns =>
      rw[G]at q;dsimp only at q
      cases O:eZ k ns with
      |none=>rw[O]at q;exact q.elim
      |some j =>
       rw[O]at q;obtain⟨ys,ey,ry⟩:=ro;rw[pQ G]at ry
       have:=kL ry
       subst this;cases rx
       cases rv with
       |cons L F =>
        cases F;obtain⟨t,rfl⟩:=L;obtain⟨z,f,nn,r,C,e⟩:=u.lstM ey;obtain⟨k1,S⟩:=za r;rw[O]at S;obtain⟨hj,E,P⟩:=kf_at_spec S;obtain⟨M,l'⟩:=rh.put W (o:=.lst ((ns.eraseIdx j).map .int)) ⟨_,rfl,RPs.ints _⟩;refine call_meets PySem.F.slot_list_remove ⟨_,e,rfl⟩ PySem.F.entry_list_remove (PySem.F.args_list_remove_2 _ _)
         (MeetsSeq.list_remove a f.toArray nn (.int k t) (isInt k) (λy hy=>kf_eq k1 y (by simpa using hy)) j (by simpa using hj) (by simpa using E) (λi hi R=>by simpa using P i (by simpa using hi) R) (by rw[oh,<-C];exact z)) ⟨e,?_⟩
        have B:aD ((ns.eraseIdx j).map V.int) (f.eraseIdx j):=by
         have:=r.eraseIdx j
         have em:∀(l:WN)(j:Nat),(l.map V.int).eraseIdx j=(l.eraseIdx j).map V.int:=λl=>by
          induction l with
          |nil=>intro j;rfl
          |cons x l ih=>intro j;cases j with|zero=>rfl|succ j=>simp[ih]
         rwa [em]at this
        refine⟨.non,_,u.lset (its':=f.eraseIdx j) ey e ?_ B ?_,rfl,q U _ .non l' M .non⟩
        .simp
        .have h1:((ns.eraseIdx j).map V.int).length<=(ns.map V.int).length:=by
          simp only[oF];exact List.length_eraseIdx_le ..
         exact ny h1 z
    |_=>exact q.elim
   |_=>exact q.elim
end
end MM
namespace MM
open PySem.Spec PyProof.Rows L2
section
variable{X:Cx}{o e:Expr}{es:WX}{name:Str}{apos cpos:Pos}{id:String}{f:Str->WL->MH->WZ}{m:Mx PV}{ma:Mx (WL)}
end
end MM
namespace L2
open PySem.Spec PyProof.Rows
section
variable{X:Cx}{e st:Expr}{te:TE}{hi:Option Expr}{th ts:TO}{pos p2:Pos}
end
end L2
namespace MM
open PySem.Spec PyProof.Rows L2
section
variable{X:Cx}{pos p2:Pos}
end
def GY(h:MH):PV->Option (WL)
 |.frl xs=>J xs
 |.loc n=>(match h[n]? with
  |some (.lst xs)=>J xs
  |_=>Y)
 |_=>Y
def p4(x y:PV)(h:MH):WZ:=match GY h x,GY h y with
 |some xs,J ys=>if xs.length≠ys.length then .ok (.bl T) h else r_ x y h
 |_,_=>r_ x y h
section
variable{X:Cx}{k:Nat}
def Vo{U:WS}{H:Hp}{h:MH}{x:PV}{f:V}{xs:WL}(C:RH X.K X.mg U H h)(j:RP X.K U H x f)(e:GY h x=J xs):∃a ys,f=.ref a/\SqL X.K H a ys/\RPs X.K U H xs ys:=by
 cases j with
 |frl s r=>cases e;exact⟨_,_,rfl,s.sq,r⟩
 |@loc n a l =>
  obtain⟨o,y,i⟩:=C.obj l;simp only[GY,y]at e
  cases o with
  |lst ys =>
   cases e;obtain⟨B,u,z⟩:=i;exact⟨a,B,rfl,SqL.of u,z⟩
  |_=>cases e
 |_=>cases e
def Lc(r:Room k X.A):xy X (compareOp .Eq) p4:=by
 intro L s Z H G F u v Q f j i ⟨U,h,x,y,l,B,E,q⟩;unfold p4 at q
 split at q
 .rename_i xs ys ex W
  by_cases z:xs.length≠ys.length
  .rw[c_ z]at q;obtain⟨a,zs,rfl,hl,rz⟩:=Vo l B ex;obtain⟨b,ws,rfl,R,C⟩:=Vo l E W;cases j;cases i;obtain⟨P,r1,p1,_⟩:=f.list hl;obtain⟨M,S,O,_⟩:=f.list R;refine SeqAt.eq_list_lengthsAt p1.isList O.isList ?_ (by have:=r.units;lia) ⟨.bl _,H,f,rfl,q U H _ (Le.refl _ _) l (.bl _)⟩;rw[oh,oh,<-r1.length,<-S.length,<-rz.length,<-C.length];simpa using z
  .rw[f_ z]at q;exact uD r L s Z H G F u v Q f j i ⟨U,h,x,y,l,B,E,q⟩
 .exact uD r L s Z H G F u v Q f j i ⟨U,h,x,y,l,B,E,q⟩
end
end MM
namespace MM
open PySem.Spec PyProof.Rows L2 SetT SortT
def wz(ns:WN):Nat:=(firstMet (λi=>ns.getD i 0) ns.length).length
def GZ(ns:WN):wz ns<=ns.length:=firstMet_length_le _ _
def Ld(prog:Program)(w:World)(S:Addr)(n:Nat)(h:Heap):Prop:=∃f,h.SetOf (intKind prog w) S f n
def zT{prog:Program}{w:World}{S:Addr}{n:Nat}{a i:Heap}(p:Ld prog w S n a)(k:∀o,a.get? S=J o->i.get? S=J o):Ld prog w S n i:=by obtain⟨f,o,u,j,t,l,r⟩:=p;exact⟨f,o,u,j,t,k o l,r⟩
section
variable{X:Cx}{N W G:WM}{k:Nat}
def AY(hh:X.calm=I):cK X (.type "set") (λxs H Q=>∃l ns,xs=[.ref l]/\SqL X.K H l (ns.map V.int)/\ns.length<=1000/\∀S,H S=Y->Q (.ref S) (ky H S (.ext (Ld X.prog X.w S (wz ns))))):=by
 intro Oa s Z H xs us Q i r ⟨l,ns,e,U,hl,q⟩;subst e;obtain⟨u,rfl,P⟩:=fw r;cases P;obtain⟨j,E,O,hz⟩:=i.list U;have z:j.length=ns.length:=by have:=E.length;rw[oF]at this;exact this.symm
 have M:=zg E;have C:=i.hok.fresh (i4 s.heap.objs.size);refine call_set_list (i.ok.hd hh) O.isList M (by rw[oh];unfold scanBound;ext) λh' tk y x=>?_;have B:j.toArray.size=ns.length:=by rw[oh,z]
 rw[B]at y;have F:Ld X.prog X.w s.heap.objs.size (wz ns) h':=⟨_,y⟩;obtain⟨f,o,es,ep,t,R,L⟩:=id F;exact⟨.ref s.heap.objs.size,_,i.laid (o:=.ext (Ld X.prog X.w s.heap.objs.size (wz ns))) (λb o e=>x b o (l_ e) e) (i4 _) ⟨F,⟨o,R⟩,λh1 h2 a b=>zT a b⟩,rfl,q _ C⟩
def B4:cK X (.builtin "len") (λxs H Q=>∃S n,xs=[.ref S]/\H S=J (.ext (Ld X.prog X.w S n))/\n<=1000/\Q (.int n) H):=by intro U s Z H xs L Q a r ⟨S,n,e,z,O,q⟩;subst e;obtain⟨u,rfl,l⟩:=fw r;cases l;obtain⟨i,_,_⟩:=(a.hok S _ z);obtain⟨f,o,es,F,t,B,j,E,R,p5,P,y,C⟩:=i;refine call_len_set B j E y (by ext) ?_;rw[C];exact⟨.int n,H,a.kept λb M q=>q,⟨_,rfl⟩,q⟩
def V2(m:Mx (WL)):Mx PV:=λZ h=>(m Z h).bind λxs a=>match xs with
 |[x]=>(match (df a x).bind dP with
  |some ns=>if ns.length<=1000 then .ok (.int (wz ns)) a else .bad
  |none=>.bad)
 |_=>.bad
def A0(g:Good X N W G k){a:Expr}{m:Mx (WL)}{p F L l:Pos}(i j:Nat)(hm:X.mg "len"=Y)(E:X.mg "set"=Y)(ha:MA X [a] m)(hi:G[i]?=J "len":=by rfl)(hj:G[j]?=J "set":=by rfl)(hs:starEach [a] X.env=[(T,eval a X.env)]:=by rfl)(he:starEach [.Call (.Name "set" F) [a] [] l] X.env=[(T,eval (.Call (.Name "set" F) [a] [] l) X.env)]:=by rfl):
  ME X (.Call (.Name "len" p) [.Call (.Name "set" F) [a] [] l] [] L) (V2 m):=by
 have d:=g.dbg _ (n2 _ (aN hi));have R:=g.dbg _ (n2 _ (aN hj));refine PE.imp (jZ B4 (g.gl _ (aN hi)) hm PyProof.Rows.Boot.«len» (eJ (j6 (AY g.calm) (g.gl _ (aN hj)) E PyProof.Rows.Boot.«set» ha R.2.2 R.1 hs rfl) jA he) d.2.2 d.1 he rfl) λZ H Q ⟨U,O,h,rs,rh,q⟩=>?_;refine⟨U,O,h,rs,rh,Ful.bind q λU1 H1 x x' h1 ex l1 u rx f=>?_⟩
 cases rx with
 |nil=>exact f.elim
 |@cons y y' _ _ r1 t1 =>
  cases t1 with
  |cons _ _=>exact f.elim
  |nil =>
   dsimp only at f
   cases P:df h1 y with
   |none=>rw[P]at f;exact f.elim
   |some xs =>
    rw[P]at f
    cases M:dP xs with
    |none=>simp only[Aa,M]at f;exact f.elim
    |some ns =>
     simp only[Aa,M]at f;by_cases z:ns.length<=1000
     .rw[c_ z]at f;obtain⟨la,zs,rfl,B,r⟩:=rE u r1 P;rw[sQ M]at r;rw[Ew r]at B;refine⟨la,ns,rfl,B,z,λS hS=>?_⟩;obtain⟨C,l2⟩:=u.loose hS (.ext (Ld X.prog X.w S (wz ns)));exact⟨S,wz ns,rfl,cg,ny (GZ ns) z,f U1 _ _ l2 C (.int _)⟩
     .rw[f_ z]at f;exact f.elim
end
end MM
namespace L2
open PySem.Spec PyProof.Rows
section
variable{X:Cx}{a:Expr}{ta:TE}{pos:Pos}
def G0(B:PE X a ta):PE X (.UnaryOp .Not a pos) (λZ H Q=>ta Z H λx j=>∃k,JT X.K x j k/\Q (.bl (!k)) j):=by intro l s Z H Q f h;refine UnaryOp_ (ki (B l s Z H _ f h) λv y ⟨x,C,z,E,r⟩=>?_);exact not_of (ki (mR l y Z C x v (λc i=>Q (.bl (!c)) i) z E r) λc F ⟨i,u,q⟩=>⟨.bl (!c),i,u,rfl,q⟩)
end
end L2
namespace MM
open PySem.Spec PyProof.Rows L2
def IG(m:Mx PV):Mx PV:=λZ h=>(m Z h).bind λv a=>match jN a v with
 |some b=>.ok (.bl (!b)) a
 |none=>.bad
section
variable{X:Cx}{pos:Pos}
def G1{e:Expr}{m:Mx PV}(h:ME X e m):ME X (.UnaryOp .Not e pos) (IG m):=by
 refine PE.imp (G0 h) λZ H Q ⟨U,B,h,L,O,q⟩=>⟨U,B,h,L,O,Ful.bind q λl u x R P _ S f F j=>?_⟩
 cases F with
 |non=>exact⟨T,rfl,j l u _ (Le.refl _ _) f (.bl _)⟩
 |bl b=>exact⟨b,rfl,j l u _ (Le.refl _ _) f (.bl _)⟩
 |int i=>exact⟨_,rfl,j l u _ (Le.refl _ _) f (.bl _)⟩
 |str i=>exact j.elim
 |@tup xs a ys s r=>exact⟨_,.inr (.inl ⟨ys,s,rfl⟩),by rw[<-gq r];exact j l u _ (Le.refl _ _) f (.bl _)⟩
 |@frl xs a ys s r=>exact⟨_,.inl ⟨ys,s.sq,rfl⟩,by rw[<-gq r];exact j l u _ (Le.refl _ _) f (.bl _)⟩
 |@loc n a e =>
  obtain⟨o,y,E⟩:=f.obj e
  cases o with
  |lst xs =>
   obtain⟨ys,G,M⟩:=E;simp only[jN,y]at j;exact⟨_,.inl ⟨ys,.inl (.inl G),rfl⟩,by rw[<-gq M];exact j l u _ (Le.refl _ _) f (.bl _)⟩
  |dic C=>simp only[jN,y]at j;exact j.elim
  |exc z=>simp only[jN,y]at j;exact j.elim
end
def uA(n:Nat)(a:WL)(h:MH):WZ:=match a,h[n]? with
 |[.int 0],J (.lst (y::r))=>.ok y (h.set n (.lst r))
 |_,_=>.bad
section
variable{X:Cx}
def G2:FV X "list.pop" (Gk X uA):=by
 intro W s Z H x vs v M Q i L F ⟨U,h,n,a,ps,e,B,E,rp,q⟩;subst e;obtain⟨o,P,G⟩:=E.obj B;unfold uA at q;rw[P]at q
 split at q
 .rename_i y r e
  injection e with e
  subst e
  cases rp with
  |cons r1 R =>
   cases R;cases r1;obtain⟨ys,O,S⟩:=G
   cases S with
   |@cons _ j _ f l z =>
    obtain⟨u,C⟩:=E.put B (o:=.lst r) (ho:=.lst f) ⟨_,rfl,z⟩;exact Cd W s Z H _ _ v M Q i L F ⟨a,j::f,0,0,j,rfl,rfl,O,by decide,by decide,by simp[seqIndex?],rfl,q U _ j C u (l.le C)⟩
 .exact q.elim
end
section
variable{X:Cx}{k:Nat}
end
end MM
namespace HT
open PyProof.Rows
section
open PySem.SeqAt
open PySem.AutoSeq1 (wpAny_loadPart')
open PySem.MeetsSeq PySem.MeetsSeq2 PySem.MeetsSeq3
end
section
variable{prog:Program}{w:World}{A:Around}{E:WA}{s:Shared}
end
end HT
namespace L2
open PySem.Spec PyProof.Rows
section
variable{X:Cx}{e st:Expr}{te:TE}{ts:TO}{pos p2:Pos}
end
end L2
namespace MM
open PySem.Spec PyProof.Rows L2
section
variable{X:Cx}{k:Nat}{pos:Pos}
end
end MM
namespace L2
open PySem.Spec PyProof.Rows
section
variable{X:Cx}{a b c d:Expr}{ta tb tc td:TE}{r r' r2:R2}{op op' op2:CmpOp}{pos:Pos}
end
end L2
namespace MM
open PySem.Spec PyProof.Rows L2
section
variable{X:Cx}{a b c d:Expr}{ma mb mc md:Mx PV}{f g' g2:PV->PV->MH->WZ}{op op' op2:CmpOp}{pos:Pos}{k:Nat}
def bH:Expr->Bool
 |.Starred _ _=>T
 |_=>I
def bc(h:bH e=I):starEach (e::es) env=(T,eval e env)::starEach es env:=by cases e<;>first | rfl | cases h
def Lf(i:ME X e m)(l:MA X es ms)(j:bH e=I:=by rfl):MA X (e::es) (aq m ms):=aK i l (bc j)
structure ka(X:Cx)(e:Expr)(m:Mx PV):Prop where
 h:ME X e m
structure Ac(X:Cx)(es:WX)(ms:Mx (WL)):Prop where
 h:MA X es ms
structure wh(X:Cx)(st:Stmt)(m:mh):Prop where
 h:MS X st m
structure kn(X:Cx)(st:List Stmt)(m:mh):Prop where
 h:Dr X st m
section
variable{e:Expr}{es:WX}{m ma mb:Mx PV}{ms:Mx (WL)}{st:Stmt}{rest:List Stmt}{u v:mh}{f:PV->PV->MH->WZ}{N W G:WM}{x:Str}
def wv:Ac X [] ib:=⟨bC⟩
def jR(i:ka X e m)(l:Ac X es ms)(j:bH e=I:=by rfl):Ac X (e::es) (aq m ms):=⟨Lf i.h l.h j⟩
def Ag(h:ME X e m):ka X e m:=⟨h⟩
def Tn(h:Ac X es ms):ka X (.List es pos) (gL ms):=⟨Bg h.h⟩
def V3(h:Ac X es ms):ka X (.Tuple es j pos) (F2 ms):=⟨Kf h.h⟩
def EL(h:MS X st u):wh X st u:=⟨h⟩
def IH(g:Good X N W G k)(i:Nat){j:Pos}(y:ka X e m)(r:N[i]?=J x:=by rfl)(l:W[i]?=J x:=by rfl)(z:swapsWith e (J (.Name x j)) pos.line X.env=pure T:=by rfl):
  wh X (.Assign [.Name x j] e pos) (bN i m):=⟨mV g i r l y.h z⟩
def E8(i:ka X e m):wh X (.Return (J e) pos) (cr m):=⟨Kg i.h⟩
def El(h:wh X st u):kn X [st] u:=⟨F3 h.h⟩
def C0(j:wh X st u)(i:kn X rest v):kn X (st::rest) (bJ u v):=⟨Db j.h i.h⟩
end
end
end MM
namespace PU
open MM
def ys{α:Type}{a b:α}(h:a=b):a=b:=h
inductive D where
 |non | bl (b:Bool) | int (i:Int) | str (x:Str) | tup (xs:List D) | lst (xs:List D) | dic | exc (c:Str) | pen
abbrev _root_.WR:=List D
abbrev _root_.WC:=Option D
abbrev g_:=Int×Int×Int
abbrev az:=List (WC)
def cP(h:MH)(p:Nat)(s:g_):Prop:=h[p]?=J (.lst [.int s.1,.int s.2.1,.int s.2.2])
inductive To(P:WL->Prop)(v:PV):Prop
 |mk(xs:WL)(e:v=.tup xs)(r:P xs):To P v
inductive Vp(h:MH)(O:WQ)(P:WL->Prop)(v:PV):Prop
 |mk(n:Nat)(xs:WL)(e:v=.loc n)(no:n∉O)(g:h[n]?=J (.lst xs))(r:P xs):Vp h O P v
inductive Tp(h:MH)(O:WQ)(o:MO)(v:PV):Prop
 |mk(n:Nat)(e:v=.loc n)(no:n∉O)(g:h[n]?=J o):Tp h O o v
inductive Tq(P:PV->Prop)(Q:WL->Prop)(vs:WL):Prop
 |mk(x:PV)(r:WL)(e:vs=x::r)(a:P x)(b:Q r):Tq P Q vs
mutual
def Rp(p:Nat)(h:MH)(O:WQ):D->PV->Prop
 |.non,v=>v=.non
 |.bl b,v=>v=.bl b
 |.int i,v=>v=.int i
 |.str x,v=>v=.str x
 |.tup a,v=>To (Rps p h O a) v
 |.lst a,v=>Vp h O (Rps p h O a) v
 |.dic,v=>Tp h O (.dic []) v
 |.exc c,v=>Tp h O (.exc ⟨c,[]⟩) v
 |.pen,v=>v=.loc p
def Rps(p:Nat)(h:MH)(O:WQ):WR->WL->Prop
 |[],a=>a=[]
 |d::f,a=>Tq (Rp p h O d) (Rps p h O f) a
end
def bj{h:MH}{n:Nat}{o:MO}(e:h[n]?=J o):n<h.length:=(kx.mp e).1
structure Mv(O:WQ)(h:MH)(O':WQ)(h':MH):Prop where
 keep:∀n:Nat,n<h.length->n∉O->h'[n]?=h[n]?
 new:∀o∈O',o∈O\/h.length<=o
def Mv.get{O f:WQ}{h a:MH}(s:Mv O h f a){n:Nat}{o:MO}(e:h[n]?=J o)(no:n∉O):n∉f/\a[n]?=J o:=by
 have i:=bj e;refine⟨λz=>?_,(s.keep n i no).trans e⟩;rcases s.new n z with q|q
 .exact no q
 .lia
section
variable{p:Nat}{O O':WQ}{h h':MH}
def Rp.mv(s:Mv O h O' h')(r:Rp p h O d v):Rp p h' O' d v:=by
 refine D.rec (motive_2:=λf=>∀l,Rps p h O f l->Rps p h' O' f l)
  (λ_ r=>r) (λ_ _ r=>r) (λ_ _ r=>r) (λ_ _ r=>r) (λf i _ r=>?_) (λf i _ r=>?_) (λ_ r=>?_) (λ_ _ r=>?_) (λ_ r=>r) (λ_ r=>r) (λ_ _ i j _ r=>?_) d v r
 .obtain⟨xs,e,r⟩:=r;exact⟨xs,e,i _ r⟩
 .obtain⟨n,xs,e,no,g,r⟩:=r;exact⟨n,xs,e,(s.get g no).1,(s.get g no).2,i _ r⟩
 .obtain⟨n,e,no,g⟩:=r;exact⟨n,e,(s.get g no).1,(s.get g no).2⟩
 .obtain⟨n,e,no,g⟩:=r;exact⟨n,e,(s.get g no).1,(s.get g no).2⟩
 .obtain⟨x,t,e,a,b⟩:=r;exact⟨x,t,e,i _ a,j _ b⟩
def Rps.mv(s:Mv O h O' h')(r:Rps p h O f vs):Rps p h' O' f vs:=by
 induction f generalizing vs with
 |nil=>exact r
 |cons d f i=>obtain⟨x,t,e,a,b⟩:=r;exact⟨x,t,e,a.mv s,i b⟩
def Rps.length(r:Rps p h O f vs):vs.length=f.length:=by
 induction f generalizing vs with
 |nil=>rw[show vs=[]from r];rfl
 |cons d f i=>obtain⟨x,t,e,a,b⟩:=r;rw[e,pk,pk,i b]
def Rps.get{f:WR}{j:WL}{i:Nat}{d:D}(r:Rps p h O f j)(g:f[i]?=J d):∃v,j[i]?=J v/\Rp p h O d v:=by
 induction f generalizing j i with
 |nil=>cases g
 |cons d f l =>
  obtain⟨x,t,e,a,b⟩:=r;subst e
  cases i with
  |zero=>cases g;exact⟨x,rfl,a⟩
  |succ i=>have z:=@l t i b g;exact z
def Rps.app(r:Rps p h O f vs)(s:Rps p h O es ws):Rps p h O (f++es) (vs++ws):=by
 induction f generalizing vs with
 |nil=>rw[show vs=[]from r];exact s
 |cons d f i=>obtain⟨x,t,e,a,b⟩:=r;subst e;exact⟨x,t++_,rfl,a,i b⟩
def Rps.take(n:Nat)(r:Rps p h O f vs):Rps p h O (f.take n) (vs.take n):=by
 induction f generalizing vs n with
 |nil=>rw[show vs=[]from r];cases n<;>rfl
 |cons d f i =>
  obtain⟨x,t,e,a,b⟩:=r;subst e
  cases n with
  |zero=>rfl
  |succ n=>exact⟨x,t.take n,rfl,a,i n b⟩
def Rps.drop(n:Nat)(r:Rps p h O f vs):Rps p h O (f.drop n) (vs.drop n):=by
 induction f generalizing vs n with
 |nil=>rw[show vs=[]from r];cases n<;>rfl
 |cons d f i =>
  cases n with
  |zero=>exact r
  |succ n=>obtain⟨x,t,e,a,b⟩:=r;subst e;exact i n b
def Rps.set(i:Nat)(r:Rps p h O f vs)(q:Rp p h O d v):Rps p h O (f.set i d) (vs.set i v):=by
 induction f generalizing vs i with
 |nil=>rw[show vs=[]from r];rfl
 |cons l f j =>
  obtain⟨x,t,e,a,b⟩:=r;subst e
  cases i with
  |zero=>exact⟨v,t,rfl,q,b⟩
  |succ i=>exact⟨x,t.set i v,rfl,a,j i b⟩
end
inductive Vq(p:Nat)(h:MH)(L:Nat)(O:WQ)(d:D)(v:PV):Prop
 |mk(n:Nat)(xs:WL)(ds:WR)(e:d=.lst ds)(e':v=.loc n)(o:n∈O)(l:L<=n)(g:h[n]?=J (.lst xs))(r:Rps p h O ds xs):Vq p h L O d v
def Vw(p:Nat)(h:MH)(L:Nat)(O:WQ)(d:D)(v:PV):Prop:=Rp p h O d v\/Vq p h L O d v
def Vws(p:Nat)(h:MH)(L:Nat)(O:WQ):WR->WL->Prop
 |[],a=>a=[]
 |d::f,a=>Tq (Vw p h L O d) (Vws p h L O f) a
inductive OU(p:Nat)(L:Nat)(O:WQ)(h:MH)(ds:WR)(v:PV):Prop
 |mk(n:Nat)(xs:WL)(e:v=.loc n)(l:L<=n)(g:h[n]?=J (.lst xs))(r:Rps p h (n::O) ds xs):OU p L O h ds v
def Frs(p:Nat)(L:Nat)(O:WQ)(h:MH)(d:D)(v:PV):Prop:=∀a,d=.lst a->OU p L O h a v
structure KB(p:Nat)(h h':MH):Prop where
 len:h.length<=h'.length
 keep:∀n:Nat,n<h.length->n≠p->h'[n]?=h[n]?
def KB.refl(p:Nat)(h:MH):KB p h h:=⟨i4 _,λ_ _ _=>rfl⟩
def KB.trans(a:KB p h h1)(b:KB p h1 h2):KB p h h2 :=
 ⟨ny a.len b.len,λn f i=>(b.keep n (oy f a.len) i).trans (a.keep n f i)⟩
def KB.app(p:Nat)(h g:MH):KB p h (h++g):=⟨by simp,λn a _=>q7 a⟩
def KB.mv(k:KB p h h')(i:p∈O):Mv O h O h' :=
 ⟨λn f no=>k.keep n f λz=>no (z▸i),λo a=>.inl a⟩
def cP.app{p:Nat}{h g:MH}{s:g_}(e:cP h p s):cP (h++g) p s:=by unfold cP at *;rw[q7 (bj e)];exact e
def Vw.kb{p L:Nat}{h f:MH}{O:WQ}{d:D}{v:PV}(k:KB p h f)(a:p∈O)(hL:p<L)(w:Vw p h L O d v):Vw p f L O d v:=by
 rcases w with r|⟨n,xs,i,e1,e2,j,l,g,r⟩
 .exact .inl (r.mv (k.mv a))
 .exact .inr ⟨n,xs,i,e1,e2,j,l,(k.keep n (bj g) ⋯).trans g,r.mv (k.mv a)⟩
inductive PR(α:Type) where
 |ok(a:α)(s:g_)
 |exc(c:Str)(s:g_)
 |bad
def PR.bind{α β:Type}(r:PR α)(f:α->g_->PR β):PR β:=match r with
 |.ok a s=>f a s
 |.exc c s=>.exc c s
 |.bad=>.bad
@[simp]theorem Pb(a:α)(s:g_)(f:α->g_->PR β):(PR.ok a s).bind f=f a s:=rfl
@[simp]theorem Pe(c:Str)(s:g_)(f:α->g_->PR β):(PR.exc c s).bind f=.exc c s:=rfl
@[simp]theorem Pd(f:α->g_->PR β):(PR.bad:PR α).bind f=.bad:=rfl
def PR.of{α:Type}(o:Option α)(s:g_):PR α:=match o with
 |some a=>.ok a s
 |none=>.bad
@[simp]theorem Pf(a:α)(s:g_):PR.of (J a) s=.ok a s:=rfl
@[simp]theorem Pn(s:g_):PR.of (Y:Option α) s=.bad:=rfl
inductive Vr{α β:Type}(p:Nat)(h:MH)(o:Out β)(a:α)(s:g_)(R:MH->α->β->Prop):Prop
 |mk(b:β)(h':MH)(e:o=.ok b h')(k:KB p h h')(n:cP h' p s)(r:R h' a b):Vr p h o a s R
inductive Vs{β:Type}(p:Nat)(h:MH)(o:Out β)(c:Str)(s:g_):Prop
 |mk(h':MH)(e:o=.exc ⟨c,[]⟩ h')(k:KB p h h')(n:cP h' p s):Vs p h o c s
def Ok{α β:Type}(p:Nat)(h:MH)(o:Out β)(r:PR α)(R:MH->α->β->Prop):Prop:=match r with
 |.ok a s=>Vr p h o a s R
 |.exc c s=>Vs p h o c s
 |.bad=>True
def Ok.bind{α β γ δ:Type}{p:Nat}{h:MH}{o:Out β}{r:PR α}{R:MH->α->β->Prop}{f:β->MH->Out δ}{g:α->g_->PR γ}{S:MH->γ->δ->Prop}(q:Ok p h o r R)(k:∀a b i s,KB p h i->cP i p s->R i a b->Ok p i (f b i) (g a s) S):Ok p h (o.bind f) (r.bind g) S:=by
 cases r with
 |ok a s =>
  obtain⟨b,i,rfl,kb,pn,y⟩:=q
  have:=k a b i s kb pn y
  rw[Pb]
  cases e:g a s with
  |ok c B =>
   rw[e]at this;obtain⟨d,u,e2,l,j,z⟩:=this;exact⟨d,u,e2,kb.trans l,j,z⟩
  |exc c B =>
   rw[e]at this;obtain⟨u,e2,l,j⟩:=this;exact⟨u,e2,kb.trans l,j⟩
  |bad=>trivial
 |exc c s =>
  obtain⟨i,rfl,kb,pn⟩:=q;exact⟨i,rfl,kb,pn⟩
 |bad=>trivial
def Ok.imp{α β:Type}{p:Nat}{h:MH}{o:Out β}{r:PR α}{R S:MH->α->β->Prop}(q:Ok p h o r R)(k:∀f a b,KB p h f->R f a b->S f a b):Ok p h o r S:=by
 cases r with
 |ok a s=>obtain⟨b,j,e,kb,pn,i⟩:=q;exact⟨b,j,e,kb,pn,k _ _ _ kb i⟩
 |exc c s=>exact q
 |bad=>trivial
structure SR(p:Nat)(h:MH)(L:Nat)(O:WQ)(ws:WQ)(Z:ly)(env:az):Prop where
 len:Z.length=env.length
 fz:∀i d,env[i]?=J (J d)->i∉ws->∃v,Z[i]?=J (J v)/\Rp p h O d v
 ow:∀i d,env[i]?=J (J d)->i∈ws->∃n xs ds,d=.lst ds/\Z[i]?=J (J (.loc n))/\n∈O/\L<=n/\h[n]?=J (.lst xs)/\Rps p h O ds xs
structure Cx(p:Nat)(h:MH)(L:Nat)(B O:WQ)(ws:WQ)(Z:ly)(env:az)(s:g_):Prop where
 bd:∀o∈O,o<h.length
 sub:∀o∈B,o∈O
 bb:∀o∈B,o<L
 pb:p∈B
 hL:L<=h.length
 pen:cP h p s
 sr:SR p h L O ws Z env
section
variable{p L:Nat}{h h':MH}{B O ws:WQ}{Z:ly}{env:az}{s s':g_}
def Cx.pO(c:Cx p h L B O ws Z env s):p∈O:=c.sub p c.pb
def Cx.pL(c:Cx p h L B O ws Z env s):p<L:=c.bb p c.pb
def SR.mv{f:WQ}(m:Mv O h f h')(y:∀o∈O,o∈f)(u:∀n:Nat,n<h.length->L<=n->n∈O->h'[n]?=h[n]?)(r:SR p h L O ws Z env):SR p h' L f ws Z env :=
 ⟨r.len,λi d e j=>let⟨v,e1,q⟩:=r.fz i d e j;⟨v,e1,q.mv m⟩,λi d e j=>let⟨n,xs,l,e1,e2,a,b,g,q⟩:=r.ow i d e j;⟨n,xs,l,e1,e2,y n a,b,(u n (bj g) b a).trans g,q.mv m⟩⟩
def Cx.kb(c:Cx p h L B O ws Z env s)(k:KB p h h')(pn:cP h' p s'):Cx p h' L B O ws Z env s' :=
 ⟨λo a=>oy (c.bd o a) k.len,c.sub,c.bb,c.pb,ny c.hL k.len,pn,c.sr.mv (k.mv c.pO) (λ_ h=>h) λn f i _=>k.keep n f (by have:=c.pL;lia)⟩
def Vw.base(w:Vw p h L O d v)(sub:∀o∈B,o∈O)(bb:∀o∈B,o<L):Rp p h B d v:=by
 have m:Mv O h B h:=⟨λ_ _ _=>rfl,λo a=>.inl (sub o a)⟩;rcases w with r|⟨n,xs,i,rfl,rfl,_,f,g,r⟩
 .exact r.mv m
 .exact⟨n,xs,rfl,λz=>by have:=bb n z;lia,g,r.mv m⟩
def Vws.base(sub:∀o∈B,o∈O)(bb:∀o∈B,o<L):∀{i:WR}{f:WL},Vws p h L O i f->Rps p h B i f
 |[],_,r=>r
 |_::_,_,⟨x,t,e,a,b⟩=>⟨x,t,e,a.base sub bb,Vws.base sub bb b⟩
def Frs.rp(f:Frs p L' O h d v)(bd:∀o∈O,o<L')(e:d=.lst ds):Rp p h O d v:=by obtain⟨n,xs,e1,i,g,r⟩:=f ds e;subst e;exact⟨n,xs,e1,λz=>by have:=bd n z;lia,g,r.mv ⟨λ_ _ _=>rfl,λo a=>.inl (mw _ a)⟩⟩
def Frs.le(f:Frs p L2 O h d v)(j:L1<=L2):Frs p L1 O h d v:=λi e =>
 let⟨n,xs,e1,a,g,r⟩:=f i e;⟨n,xs,e1,ny j a,g,r⟩
end
abbrev Bd(h:MH)(O:WQ):Prop:=∀o∈O,o<h.length
inductive Gv(p:Nat)(h:MH)(O:WQ)(fr:Bool)(o:WZ)(d:D):Prop
 |mk(v:PV)(g:MH)(e:o=.ok v (h++g))(r:Rp p (h++g) O d v)(f:fr=I->Frs p h.length O (h++g) d v):Gv p h O fr o d
structure Ri where
 m:PV->MH->WZ
 p:D->WC
 fr:Bool
 ok:∀{q h L O a x d},Bd h O->Vw q h L O a x->p a=J d->Gv q h O fr (m x h) d
structure zo where
 m:PV->PV->MH->WZ
 p:D->D->WC
 fr:Bool
 ok:∀{q h L O a x b y d},Bd h O->Vw q h L O a x->Vw q h L O b y->p a b=J d->Gv q h O fr (m x y h) d
structure C_ where
 k:WL->MH->WZ
 p:WR->WC
 fr:Bool
 ok:∀{q h L O as xs d},Bd h O->Vws q h L O as xs->p as=J d->Gv q h O fr (k xs h) d
structure Fn where
 m:WL->MH->WZ
 p:WR->g_->PR D
 fr:Bool
 ok:∀{q h O vs ds s},Bd h O->q∈O->cP h q s->Rps q h O ds vs->Ok q h (m vs h) (p ds s) (λh' d v=>Rp q h' O d v/\(fr=I->Frs q h.length O h' d v))
mutual
def flat:D->Bool
 |.lst _ | .dic | .exc _ | .pen=>T
 |.tup a=>nc a
 |_=>I
def nc:WR->Bool
 |[]=>I
 |d::a=>flat d&&nc a
end
section
variable{p:Nat}{h h':MH}{O O':WQ}
mutual
def Rp.flat:∀{d:D}{v:PV},PU.flat d=I->Rp p h O d v->Rp p h' O' d v
 |.non,_,_,r=>r
 |.bl _,_,_,r=>r
 |.int _,_,_,r=>r
 |.str _,_,_,r=>r
 |.tup a,_,f,⟨xs,e,r⟩=>⟨xs,e,Rps.flat (by simpa [PU.flat]using f) r⟩
 |.lst a,_,f,_=>by simp[PU.flat]at f
 |.dic,_,f,_=>by simp[PU.flat]at f
 |.exc _,_,f,_=>by simp[PU.flat]at f
 |.pen,_,f,_=>by simp[PU.flat]at f
def Rps.flat:∀{i:WR}{j:WL},PU.nc i=I->Rps p h O i j->Rps p h' O' i j
 |[],_,_,r=>r
 |_::_,_,f,⟨x,t,e,a,b⟩=>⟨x,t,e,Rp.flat (by simp[PU.nc]at f;exact f.1) a,Rps.flat (by simp[PU.nc]at f;exact f.2) b⟩
end
end
structure Xe(ws:WQ) where
 m:Mx PV
 p:az->g_->PR D
 fz:Bool
 fr:Bool
 ok:∀{q h L B O Z env s},Cx q h L B O ws Z env s->Ok q h (m Z h) (p env s) (λh' d v=>Vw q h' L O d v/\(fz=I->Rp q h' O d v)/\(fr=I->Frs q h.length O h' d v))
structure Xs(ws:WQ) where
 m:Mx (WL)
 p:az->g_->PR (WR)
 fz:Bool
 ok:∀{q h L B O Z env s},Cx q h L B O ws Z env s->Ok q h (m Z h) (p env s) (λh' ds vs=>Vws q h' L O ds vs/\(fz=I->Rps q h' O ds vs))
structure Xt(ws:WQ) where
 m:Mx Bool
 p:az->g_->PR Bool
 ok:∀{q h L B O Z env s},Cx q h L B O ws Z env s->Ok q h (m Z h) (p env s) (λ_ a b=>a=b)
noncomputable section
variable{ws:WQ}
def EM{q L:Nat}{h a:MH}{O:WQ}{o:WZ}{d:D}{s:g_}{fr:Bool}(le:h.length<=a.length)(pn:cP a q s)(g:Gv q a O fr o d):
  Ok q a o (.ok d s) (λi d v=>Vw q i L O d v/\(I=I->Rp q i O d v)/\(fr=I->Frs q h.length O i d v)):=by
 obtain⟨v,g,e,r,f⟩:=g;exact⟨v,a++g,e,KB.app _ _ _,pn.app,.inl r,λ_=>r,λz=>(f z).le le⟩
def aa(i:Nat):Xe ws where
 m:=ar i
 p:=λenv s=>match env[i]? with
  |some (J d)=>.ok d s
  |_=>.bad
 fz:=!ws.contains i
 fr:=T
 ok {q h L B O Z env s} c:=by
  show Ok q h _ (match env[i]? with|some (J d)=>PR.ok d s|_=>.bad) _
  cases e:env[i]? with
  |none=>trivial
  |some o =>
   cases o with
   |none=>trivial
   |some d =>
    by_cases z:i∈ws
    .obtain⟨n,xs,j,e1,e2,a,b,g,r⟩:=c.sr.ow i d e z;exact⟨.loc n,h,by simp[ar,e2],KB.refl _ _,c.pen,.inr ⟨n,xs,j,e1,rfl,a,b,g,r⟩,λf=>by simp[z]at f,λf=>by simp at f⟩
    .obtain⟨v,e1,r⟩:=c.sr.fz i d e z;exact⟨v,h,by simp[ar,e1],KB.refl _ _,c.pen,.inl r,λ_=>r,λf=>by simp at f⟩
inductive Cn where
 |non | bl (b:Bool) | int (i:Int) | str (x:Str)
def Cn.v:Cn->PV
 |.non=>.non
 |.bl b=>.bl b
 |.int i=>.int i
 |.str x=>.str x
def Cn.d:Cn->D
 |.non=>.non
 |.bl b=>.bl b
 |.int i=>.int i
 |.str x=>.str x
def Cn.rp(c:Cn){q:Nat}{h:MH}{O:WQ}:Rp q h O c.d c.v:=by cases c<;>rfl
def xC(k:Cn):Xe ws where
 m:=mC k.v
 p:=λ_ s=>.ok k.d s
 fz:=I
 fr:=I
 ok {q h L B O Z env s} c:=⟨k.v,h,rfl,KB.refl _ _,c.pen,.inl k.rp,λ_=>k.rp,λ_ a e=>by cases k<;>cases e⟩
def ac(o:zo)(a b:Xe ws):Xe ws where
 m:=aC o.m a.m b.m
 p:=λenv s=>(a.p env s).bind λx z=>(b.p env z).bind λy E=>.of (o.p x y) E
 fz:=I
 fr:=o.fr
 ok {q h L B O Z env s} c:=by
  refine(a.ok c).bind λx v P z j C ⟨F,_,_⟩=>?_;refine(b.ok (c.kb j C)).bind λy w M E i l ⟨G,_,_⟩=>?_
  cases e:o.p x y with
  |none=>trivial
  |some d =>
   have H:=(c.kb j C).kb i l;obtain⟨u,g,e1,r,f⟩:=o.ok H.bd (F.kb i c.pO c.pL) G e;exact EM (ny j.len i.len) l ⟨u,g,by rw[e1];rfl,r,f⟩
def p8(o:Ri)(a:Xe ws):Xe ws where
 m:=N7 o.m a.m
 p:=λenv s=>(a.p env s).bind λx j=>.of (o.p x) j
 fz:=I
 fr:=o.fr
 ok {q h L B O Z env s} c:=by
  refine(a.ok c).bind λx v z j i l ⟨y,_,_⟩=>?_
  cases e:o.p x with
  |none=>trivial
  |some d =>
   obtain⟨u,g,e1,r,f⟩:=o.ok (c.kb i l).bd y e;exact EM i.len l ⟨u,g,by rw[e1];rfl,r,f⟩
def a_:Xs ws where
 m:=ib
 p:=λ_ s=>.ok [] s
 fz:=I
 ok {q h L B O Z env s} c:=⟨[],h,rfl,KB.refl _ _,c.pen,rfl,λ_=>rfl⟩
def ab(a:Xe ws)(r:Xs ws):Xs ws where
 m:=aq a.m r.m
 p:=λenv s=>(a.p env s).bind λx j=>(r.p env j).bind λy l=>.ok (x::y) l
 fz:=a.fz&&r.fz
 ok {q h L B O Z env s} c:=by refine(a.ok c).bind λx v P j C G ⟨E,H,_⟩=>?_;refine(r.ok (c.kb C G)).bind λy w z l i u ⟨M,F⟩=>?_;refine⟨v::w,z,rfl,KB.refl _ _,u,⟨v,w,rfl,E.kb i c.pO c.pL,M⟩,λf=>?_⟩;rw[MP]at f;exact⟨v,w,rfl,(H f.1).mv (i.mv c.pO),F f.2⟩
def jj(o:C_)(a:Xs ws):Xe ws where
 m:=λZ h=>(a.m Z h).bind o.k
 p:=λenv s=>(a.p env s).bind λx f=>.of (o.p x) f
 fz:=I
 fr:=o.fr
 ok {q h L B O Z env s} c:=by
  refine(a.ok c).bind λx v r f j i ⟨l,_⟩=>?_
  cases e:o.p x with
  |none=>trivial
  |some d=>exact EM j.len i (o.ok (c.kb j i).bd l e)
def aj(f:Fn)(a:Xs ws)(u:a.fz=I:=by exact ys rfl):Xe ws where
 m:=cj f.m a.m
 p:=λenv s=>(a.p env s).bind f.p
 fz:=I
 fr:=f.fr
 ok {q h L B O Z env s} c:=by refine(a.ok c).bind λx v y C j l ⟨_,z⟩=>?_;have i:=c.kb j l;refine(f.ok i.bd i.pO l (z u)).imp λE d v kb ⟨r,fr⟩=>⟨.inl r,λ_=>r,λz=>(fr z).le j.len⟩
def EN(d:D):Bool:=match d with
 |.lst a=>nc a
 |d=>flat d
def lU(f:Fn)(a:Xs ws)(hf:f.fr=I:=by exact ys rfl):Xe ws where
 m:=cj f.m a.m
 p:=λenv s=>((a.p env s).bind f.p).bind λd s=>if EN d=I then .ok d s else .bad
 fz:=I
 fr:=I
 ok {q h L B O Z env s} c:=by
  have key:Ok q h ((a.m Z h).bind f.m) ((a.p env s).bind f.p) (λj d v=>Rp q j B d v/\Frs q h.length B j d v):=by refine(a.ok c).bind λx v U E C H ⟨w,_⟩=>?_;have l:=c.kb C H;refine(f.ok (λo M=>oy (l.bb o M) l.hL) l.pb H (w.base l.sub l.bb)).imp λj d v kb ⟨r,fr⟩=>⟨r,(fr hf).le C.len⟩
  show Ok q h ((a.m Z h).bind f.m) _ _
  cases e:(a.p env s).bind f.p with
  |bad=>trivial
  |exc x E=>rw[e]at key;exact key
  |ok d E =>
   rw[e]at key;obtain⟨v,j,e1,kb,pn,r,fr⟩:=key;rw[Pb];by_cases z:EN d=I
   .rw[c_ z];have u:Frs q h.length O j d v:=λy G=>by
     obtain⟨n,xs,S,R,P,Q⟩:=fr y G;subst G;exact⟨n,xs,S,R,P,Rps.flat z Q⟩
    have F:Rp q j O d v:=by
     cases d with
     |lst y=>exact u.rp c.bd rfl
     |non=>exact r
     |bl b=>exact r
     |int i=>exact r
     |str i=>exact r
     |tup i=>exact Rp.flat z r
     |dic=>cases z
     |exc _=>cases z
     |pen=>cases z
    exact⟨v,j,e1,kb,pn,.inl F,λ_=>F,λ_=>u⟩
   .rw[f_ z];trivial
def f9:100000<=sizeLine:=by decide
def oH(bd:Bd h O)(r:Rps q h O ds xs)(u:ds.length<=100000):Gv q h O I (pq xs h) (.lst ds):=by
 have l:=r.length;have m:Mv O h O (h++[MO.lst xs]):=⟨λn f _=>q7 f,λo a=>.inl a⟩
 have i:Mv O h (h.length::O) (h++[MO.lst xs]):=⟨λn f _=>q7 f,λo a=>by
  rcases lb.mp a with z|z
  .exact .inr ⋯
  .exact .inl z⟩
 have g:(h++[MO.lst xs])[h.length]?=J (.lst xs):=by simp
 refine⟨.loc h.length,[.lst xs],?_,⟨_,_,rfl,λz=>by have:=bd _ z;lia,g,r.mv m⟩,λ_ j e=>?_⟩
 .delta pq;have:=f9;lia
 .cases e;exact⟨_,_,rfl,i4 _,g,r.mv i⟩
def xz(r:Rps q h O ds xs)(i:ds.length<=100000):Gv q h O I (wx xs h) (.tup ds):=by
 have f:=r.length;refine⟨.tup xs,[],?_,?_,λ_ a e=>by cases e⟩
 .delta wx;rw[c_ (by have:=f9;lia)];simp
 .simpa using⟨xs,rfl,r⟩
def br(a:Xs ws)(r:a.fz=I:=by exact ys rfl):Xe ws where
 m:=gL a.m
 p:=λenv s=>(a.p env s).bind λx i=>if x.length<=100000 then .ok (.lst x) i else .bad
 fz:=I
 fr:=I
 ok {q h L B O Z env s} c:=by
  refine(a.ok c).bind λx v u i l j ⟨_,z⟩=>?_;by_cases f:x.length<=100000
  .rw[c_ f];exact EM l.len j (oH (c.kb l j).bd (z r) f)
  .rw[f_ f];trivial
def bw(a:Xs ws)(l:a.fz=I:=by exact ys rfl):Xe ws where
 m:=F2 a.m
 p:=λenv s=>(a.p env s).bind λx i=>if x.length<=100000 then .ok (.tup x) i else .bad
 fz:=I
 fr:=I
 ok {q h L B O Z env s} c:=by
  refine(a.ok c).bind λx v u i r j ⟨_,z⟩=>?_;by_cases f:x.length<=100000
  .rw[c_ f];exact EM r.len j (xz (z l) f)
  .rw[f_ f];trivial
def Vw.bl(w:Vw q h L O (.bl b) v):v=.bl b:=by
 rcases w with r|⟨n,xs,a,e,_⟩
 .exact r
 .cases e
def PR.bl(r:PR D):PR Bool:=r.bind λd s=>match d with
 |.bl b=>.ok b s
 |_=>.bad
@[simp]theorem Pl:(PR.ok (D.bl b) s).bl=.ok b s:=rfl
def xB(a:Xe ws):Xt ws where
 m:=mB a.m
 p:=λenv s=>(a.p env s).bl
 ok {q h L B O Z env s} c:=by
  refine(a.ok c).bind λx v f j l i ⟨w,_,_⟩=>?_
  cases x with
  |bl b=>rw[w.bl];exact⟨b,f,rfl,KB.refl _ _,i,rfl⟩
  |_=>trivial
def eM(a:Xt ws):Xt ws where
 m:=pI a.m
 p:=λenv s=>(a.p env s).bind λb s=>.ok (!b) s
 ok {q h L B O Z env s} c:=(a.ok c).bind λx v f j l i e=>⟨!v,f,rfl,KB.refl _ _,i,by rw[e]⟩
def eU(a b:Xt ws):Xt ws where
 m:=J8 a.m b.m
 p:=λenv s=>(a.p env s).bind λx s=>if x=I then b.p env s else .ok T s
 ok {q h L B O Z env s} c:=(a.ok c).bind λx v i l j f e=>by
  subst e
  cases x with
  |true=>simpa using b.ok (c.kb j f)
  |false=>exact⟨T,i,rfl,KB.refl _ _,f,rfl⟩
def E9(a b:Xt ws):Xt ws where
 m:=SM a.m b.m
 p:=λenv s=>(a.p env s).bind λx s=>if x=I then .ok I s else b.p env s
 ok {q h L B O Z env s} c:=(a.ok c).bind λx v i l j f e=>by
  subst e
  cases x with
  |false=>simpa using b.ok (c.kb j f)
  |true=>exact⟨I,i,rfl,KB.refl _ _,f,rfl⟩
def i3:Xt ws where
 m:=v_
 p:=λ_ s=>.ok I s
 ok {q h L B O Z env s} c:=⟨I,h,rfl,KB.refl _ _,c.pen,rfl⟩
def Ok.after{α β:Type}{p:Nat}{h l:MH}{o:Out β}{r:PR α}{R:MH->α->β->Prop}(k:KB p h l)(q:Ok p l o r R):Ok p h o r R:=by
 cases r with
 |bad=>trivial
 |exc C z=>obtain⟨a,j,i,f⟩:=q;exact⟨a,j,k.trans i,f⟩
 |ok B z=>obtain⟨y,a,j,i,f,u⟩:=q;exact⟨y,a,j,k.trans i,f,u⟩
def II(pn:cP h q s):Ok q h (.ok (.bl b) h) (.ok (.bl b) s) (λa d v=>Vw q a L O d v/\(I=I->Rp q a O d v)/\(I=I->Frs q l O a d v)) :=
 ⟨.bl b,h,rfl,KB.refl _ _,pn,.inl rfl,λ_=>rfl,λ_ f e=>by cases e⟩
def Lg(k:Ok q h o r (λa d v=>Vw q a L O d v/\(fz=I->Rp q a O d v)/\(fr=I->Frs q l' O a d v))):
  Ok q h o (r.bl.bind λb s=>.ok (.bl b) s) (λa d v=>Vw q a L O d v/\(I=I->Rp q a O d v)/\(I=I->Frs q l O a d v)):=by
 cases r with
 |bad=>trivial
 |exc c s=>exact k
 |ok d s =>
  obtain⟨v,a,e,kb,pn,w,_,_⟩:=k
  cases d with
  |bl b=>exact⟨v,a,e,kb,pn,w,λ_=>by rw[w.bl];rfl,λ_ f e=>by cases e⟩
  |_=>trivial
def dY(a b:Xe ws):Xe ws where
 m:=yG a.m b.m
 p:=λenv s=>(a.p env s).bl.bind λx s=>if x=I then(b.p env s).bl.bind λy s=>.ok (.bl y) s else .ok (.bl T) s
 fz:=I
 fr:=I
 ok {q h L B O Z env s} c:=by
  have k:=a.ok c;show Ok q h ((a.m Z h).bind _) _ _
  cases e:a.p env s with
  |bad=>trivial
  |exc x z =>
   rw[e]at k;obtain⟨j,e1,f,i⟩:=k;rw[e1];exact⟨j,rfl,f,i⟩
  |ok d z =>
   rw[e]at k;obtain⟨v,j,e1,f,i,w,_,_⟩:=k
   cases d with
   |bl x =>
    rw[w.bl]at e1;rw[e1]
    cases x with
    |true =>
     exact Ok.after f (Lg (l:=h.length) (b.ok (c.kb f i)))
    |false =>
     obtain⟨G,r,F,E,u,C⟩:=II (L:=L) (l:=h.length) (O:=O) (b:=T) i;exact⟨G,r,F,f.trans E,u,C⟩
   |_=>trivial
def uB(a:Xe ws):Xe ws where
 m:=yO a.m
 p:=λenv s=>(a.p env s).bl.bind λx s=>.ok (.bl (!x)) s
 fz:=I
 fr:=I
 ok {q h L B O Z env s} c:=by
  have k:=a.ok c;show Ok q h ((a.m Z h).bind _) _ _
  cases e:a.p env s with
  |bad=>trivial
  |exc x y =>
   rw[e]at k;obtain⟨j,e1,f,i⟩:=k;rw[e1];exact⟨j,rfl,f,i⟩
  |ok d y =>
   rw[e]at k;obtain⟨v,j,e1,f,i,w,_,_⟩:=k
   cases d with
   |bl x =>
    rw[w.bl]at e1;rw[e1];obtain⟨F,r,E,C,u,z⟩:=II (L:=L) (l:=h.length) (O:=O) (b:=!x) i;exact⟨F,r,E,f.trans C,u,z⟩
   |_=>trivial
def qK(f g:zo)(a b e:Xe ws):Xe ws where
 m:=qX f.m g.m a.m b.m e.m
 p:=λenv s=>(a.p env s).bind λx P=>(b.p env P).bind λy E=>match f.p x y with
  |some (.bl t)=>if t=I then(e.p env E).bind λz G=>.of (g.p y z) G else .ok (.bl T) E
  |_=>.bad
 fz:=I
 fr:=T
 ok {q h L B O Z env s} c:=by
  refine(a.ok c).bind λx v h1 P M R ⟨w1,_,_⟩=>?_;refine(b.ok (c.kb M R)).bind λy w l E H C ⟨W,_,_⟩=>?_;have X:=(c.kb M R).kb H C
  cases e1:f.p x y with
  |none=>trivial
  |some d =>
   cases d with
   |bl t =>
    obtain⟨u,i,e2,r,_⟩:=f.ok X.bd (w1.kb H c.pO c.pL) W e1;have hu:u=.bl t:=r;subst hu;rw[e2];have j:=KB.app q l i;have F:=X.kb j C.app
    cases t with
    |true =>
     refine Ok.after j ?_;show Ok q (l++i) ((e.m Z (l++i)).bind _) _ _;refine(e.ok F).bind λz u h3 G S U ⟨w3,_,_⟩=>?_
     cases e4:g.p y z with
     |none=>trivial
     |some d =>
      obtain⟨u2,g2,e5,Q,_⟩:=g.ok (F.kb S U).bd ((W.kb j c.pO c.pL).kb S c.pO c.pL) w3 e4;refine⟨u2,h3++g2,by rw[e5];rfl,KB.app _ _ _,U.app,.inl Q,λ_=>Q,λf=>by simp at f⟩
    |false=>exact⟨.bl T,l++i,rfl,j,C.app,.inl rfl,λ_=>rfl,λf=>by simp at f⟩
   |_=>trivial
end
structure Xi(ws:WQ) where
 m:Mx MIt
 p:az->g_->PR (WR)
 fz:Bool
 ok:∀{q h L B O Z env s},Cx q h L B O ws Z env s->Ok q h (m Z h) (p env s) (λh' ds it=>Rps q h' O ds it.xs/\(∀g∈it.gd,h'[g.1]?=J (.lst g.2)/\g.1≠q)/\(fz=I->∀g∈it.gd,g.1∉O))
inductive GI(q:Nat)(h:MH)(O:WQ)(ds as:WR)(xs:WL)(o:Out MIt):Prop
 |mk(it:MIt)(e:o=.ok it h)(r:Rps q h O ds it.xs)(g:∀g∈it.gd,h[g.1]?=J (.lst g.2)/\g.1≠q)(z:Rps q h O as xs->∀g∈it.gd,g.1∉O):GI q h O ds as xs o
structure M7 where
 k:WL->MH->Out MIt
 p:WR->Option (WR)
 ok:∀{q h L O as xs ds},q<L->q∈O->Bd h O->Vws q h L O as xs->p as=J ds->GI q h O ds as xs (k xs h)
def D.items:D->Option (WR)
 |.lst a=>J a
 |.tup a=>J a
 |_=>Y
@[simp]theorem dX:(D.lst ds).items=J ds:=rfl
@[simp]theorem M8:(D.tup ds).items=J ds:=rfl
noncomputable section
variable{ws:WQ}
def bO(o:M7)(a:Xs ws):Xi ws where
 m:=λZ h=>(a.m Z h).bind o.k
 p:=λenv s=>(a.p env s).bind λx i=>.of (o.p x) i
 fz:=a.fz
 ok {q h L B O Z env s} c:=by
  refine(a.ok c).bind λx v C i u j ⟨w,z⟩=>?_
  cases e:o.p x with
  |none=>trivial
  |some F =>
   obtain⟨E,e1,r,l,y⟩:=o.ok c.pL c.pO (c.kb u j).bd w e;exact⟨E,C,e1,KB.refl _ _,j,r,l,λf=>y (z f)⟩
def Vw.seq(E:q<L)(B:q∈O)(w:Vw q h L O d v)(e:d.items=J ds):∃xs gd,p_ v h=.ok ⟨xs,gd⟩ h/\Rps q h O ds xs/\(∀g∈gd,h[g.1]?=J (.lst g.2)/\g.1≠q)/\(Rp q h O d v->∀g∈gd,g.1∉O):=by
 have one:∀n xs,h[n]?=J (MO.lst xs)->n≠q->(∀g∈[(n,xs)],h[g.1]?=J (MO.lst g.2)/\g.1≠q):=λn xs g l y a=>by
  have:y=(n,xs):=by simpa using a
  subst this;exact⟨g,l⟩
 cases d with
 |lst i =>
  have:i=ds:=by simpa using e
  subst this;rcases w with⟨n,xs,e1,no,g,r⟩|⟨n,xs,f,j,e1,_,l,g,r⟩
  .subst e1;refine⟨xs,[(n,xs)],by simp only[p_,g],r,one n xs g (λz=>no (z▸B)),λ_ y a=>?_⟩
   have:y=(n,xs):=by simpa using a
   subst this;exact no
  .cases j;subst e1;refine⟨xs,[(n,xs)],by simp only[p_,g],r,one n xs g ⋯,λ⟨C,u,e1,no,_,_⟩ y a=>?_⟩
   grind
 |tup i =>
  have:i=ds:=by simpa using e
  subst this;rcases w with⟨xs,e1,r⟩|⟨n,xs,f,j,_⟩
  .subst e1;exact⟨xs,[],rfl,r,(λ_ a=>nomatch a),λ_ _ a=>nomatch a⟩
  .cases j
 |_=>simp[D.items]at e
def aL(a:Xe ws):Xi ws where
 m:=kI a.m
 p:=λenv s=>(a.p env s).bind λx i=>.of x.items i
 fz:=a.fz
 ok {q h L B O Z env s} c:=by
  refine(a.ok c).bind λx v u i E y ⟨w,z,_⟩=>?_
  cases e:x.items with
  |none=>trivial
  |some C =>
   obtain⟨xs,gd,e1,r,j,l⟩:=w.seq c.pL c.pO e;exact⟨⟨xs,gd⟩,u,e1,KB.refl _ _,y,r,j,λf=>l (z f)⟩
structure Xg(ws:WQ) where
 m:Mg
 p:D->az->Option az
 ok:∀{q h L O Z env d v env'},SR q h L O ws Z env->Rp q h O d v->p d env=J env'->∃Z',m v Z h=.nx Z' h/\SR q h L O ws Z' env'/\∀i∈ws,Z'[i]?=Z[i]?/\env'[i]?=env[i]?
structure IJ(ws:WQ) where
 m:F4
 p:WR->az->Option az
 ok:∀{q h L O Z env ds vs env'},SR q h L O ws Z env->Rps q h O ds vs->p ds env=J env'->∃Z',m vs Z h=.nx Z' h/\SR q h L O ws Z' env'/\∀i∈ws,Z'[i]?=Z[i]?/\env'[i]?=env[i]?
def SR.set(r:SR q h L O ws Z env)(C:i∉ws)(w:Rp q h O d v):SR q h L O ws (Z.set i (J v)) (env.set i (J d))/\∀j∈ws,(Z.set i (J v))[j]?=Z[j]?/\(env.set i (J d))[j]?=env[j]?:=by
 have ne:∀j∈ws,i≠j:=λj a z=>C (z▸a);refine⟨⟨by simp[r.len],λj e a f=>?_,λj e a f=>?_⟩,λj a=>⟨n9 (ne j a),n9 (ne j a)⟩⟩
 .by_cases z:i=j
  .subst z;have y:i<env.length:=by
    have:=(kx.mp a).1;simpa using this
   rw[y4 y]at a;cases a;exact⟨v,y4 (by rw[r.len];exact y),w⟩
  .rw[n9 z]at a;obtain⟨u,e1,E⟩:=r.fz j e a f
   simp_all
 .rw[n9 (ne j f)]at a;obtain⟨n,xs,B,e1,e2,l⟩:=r.ow j e a f;exact⟨n,xs,B,e1,by rw[n9 (ne j f)];exact e2,l⟩
def iw(i:Nat)(j:ws.contains i=T:=by exact ys rfl):Xg ws where
 m:=CL i
 p:=λd env=>J (env.set i (J d))
 ok {q h L O Z env d v env'} r w e:=by
  cases e;have f:i∉ws:=λz=>by simp[z]at j
  obtain⟨a,b⟩:=r.set f w;exact⟨_,rfl,a,b⟩
def u_:IJ ws where
 m:=Oc
 p:=λa env=>match a with
  |[]=>J env
  |_=>Y
 ok {q h L O Z env a vs env'} r w e:=by
  cases a with
  |nil =>
   cases e
   have:vs=[]:=w
   subst this;exact⟨Z,rfl,r,λ_ _=>⟨rfl,rfl⟩⟩
  |cons _ _=>cases e
def mq(a:Xg ws)(t:IJ ws):IJ ws where
 m:=Im a.m t.m
 p:=λj env=>match j with
  |d::j=>(a.p d env).bind λf=>t.p j f
  |[]=>Y
 ok {q h L O Z env j vs env'} r w e:=by
  cases j with
  |nil=>cases e
  |cons d j =>
   obtain⟨x,y,rfl,H,F⟩:=w;dsimp only at e
   cases e1:a.p d env with
   |none=>rw[e1]at e;cases e
   |some f =>
    rw[e1]at e;obtain⟨P,M,C,z⟩:=a.ok r H e1;obtain⟨E,B,G,u⟩:=t.ok C F e;exact⟨E,by show(a.m x Z h).then (t.m y)=_;rw[M];exact B,G,λi l=>⟨(u i l).1.trans (z i l).1,(u i l).2.trans (z i l).2⟩⟩
def vf(t:IJ ws)(n:Nat):Xg ws where
 m:=MX t.m n
 p:=λd env=>match d with
  |.tup f=>if f.length=n then t.p f env else Y
  |_=>Y
 ok {q h L O Z env d v env'} r w e:=by
  cases d with
  |tup f =>
   obtain⟨xs,rfl,w⟩:=w;dsimp only at e;by_cases z:f.length=n
   .rw[c_ z]at e;obtain⟨i,a,b⟩:=t.ok r w e;exact⟨i,by show(if xs.length=n then t.m xs Z h else .bad)=_;rw[c_ (by rw[w.length];exact z)];exact a,b⟩
   .rw[f_ z]at e;cases e
  |_=>cases e
def E_(a:Nat)(fm ws:WQ):WQ:=((List.range fm.length).filter λj=>ws.contains (fm.getD j 0)).map (a+·)
def w_(a:Nat)(fm:WQ)(env:az):az:=List.replicate a Y++fm.map λi=>(env[i]?).getD Y
def PR.ne{α:Type}(r:PR α):PR α:=match r with
 |.exc _ _=>.bad
 |r=>r
@[simp]theorem PR.ne_ok(a:α)(s:g_):(PR.ok a s).ne=.ok a s:=rfl
def fT(g:D->az->Option az)(t:az->g_->PR Bool)(e:az->g_->PR D):WR->az->g_->PR (WR)
 |[],_,s=>.ok [] s
 |d::i,env,s=>match g d env with
  |none=>.bad
  |some a=>(t a s).bind λb f=>if b=I then(e a f).bind λx l=>(fT g t e i a l).bind λr j=>.ok (x::r) j else fT g t e i a f
def OV{a:Nat}{fm:WQ}{α:Type}{env:List (Option α)}{i:Nat}{d:α}(e:(List.replicate a Y++fm.map λi=>(env[i]?).getD Y)[i]?=J (J d)):∃j k,i=a+j/\fm[j]?=J k/\env[k]?=J (J d):=by
 by_cases z:i<a
 .rw[q7 (by simpa using z)]at e;simp[z]at e
 .rw[Eb (by simp;lia)]at e;simp only[Nj,oe]at e
  cases f:fm[i-a]? with
  |none=>rw[f]at e;cases e
  |some k =>
   rw[f]at e;simp only[Jo]at e;refine⟨i-a,k,⋯,f,?_⟩
   cases l:env[k]? with
   |none=>rw[l]at e;cases e
   |some o=>rw[l]at e;simp at e;rw[e]
def OW{a:Nat}{fm:WQ}{α:Type}{Z:List (Option α)}{j k:Nat}{v:α}(e1:fm[j]?=J k)(e2:Z[k]?=J (J v)):(List.replicate a Y++fm.map λi=>(Z[i]?).getD Y)[a+j]?=J (J v):=by rw[Eb (by simp)];simp[e1,e2]
def yp(e:fm[j]?=J k):nv+j∈E_ nv fm ws↔k∈ws:=by
 have a:=(kx.mp e).1;delta E_
 simp_all
def SR.comp{q:Nat}{h:MH}{L:Nat}{O:WQ}{Z:ly}{env:az}(a:Nat)(fm:WQ)(r:SR q h L O ws Z env):SR q h L O (E_ a fm ws) (EK a fm Z) (w_ a fm env):=by
 refine⟨by simp[EK,w_],λi d e f=>?_,λi d e f=>?_⟩
 .obtain⟨j,k,rfl,e1,e2⟩:=OV e;obtain⟨v,e3,w⟩:=r.fz k d e2 λz=>f ((yp e1).mpr z);exact⟨v,OW e1 e3,w⟩
 .obtain⟨j,k,rfl,e1,e2⟩:=OV e;obtain⟨n,xs,l,u,e3,w⟩:=r.ow k d e2 ((yp e1).mp f);exact⟨n,xs,l,u,OW e1 e3,w⟩
def Lh(gt:Xg u)(t:Xt u)(e:Xe u)(hz:e.fz=I)(hq:q<h1.length)(gd:∀g∈it.gd,h1[g.1]?=J (.lst g.2)/\g.1≠q):
  ∀(R:WR)(xs:WL)(env:az)(Z:ly)(h:MH)(l:WR)(f:WL)(s:g_)(r:WR)(W:g_),(∀i∈u,∀d,env[i]?=J (J d)->∀n,Z[i]?=J (J (.loc n))->n<h1.length)->KB q h1 h->Cx q h L B (h1.length::O) u Z env s->Rps q h (h1.length::O) R xs->h[h1.length]?=J (.lst f)->Rps q h (h1.length::O) l f->l.length+R.length<=100000 ->
  fT gt.p t.p e.p R env s=.ok r W->∃E U,A_ it h1.length gt.m t.m e.m xs Z h=.ok () E/\KB q h1 E/\cP E q W/\E[h1.length]?=J (.lst U)/\Rps q E (h1.length::O) (l++r) U:=by
 intro R
 induction R with
 |nil =>
  intro xs env Z h l f s r W on kb c rx ga ra hl a
  have:xs=[]:=rx
  subst this;cases a;have ok:it.ok h:=λg Q=>(kb.keep _ (bj (gd g Q).1) (gd g Q).2).trans (gd g Q).1;exact⟨h,f,by rw[A_,c_ ok],kb,c.pen,ga,by simpa using ra⟩
 |cons d R ih =>
  intro xs env Z h l f s r W on kb c rx ga ra hl a;obtain⟨x,xr,rfl,r1,r2⟩:=rx;have ok:it.ok h:=λg Q=>(kb.keep _ (bj (gd g Q).1) (gd g Q).2).trans (gd g Q).1;rw[fT]at a
  cases eg:gt.p d env with
  |none=>rw[eg]at a;cases a
  |some j =>
   rw[eg]at a;dsimp only at a;obtain⟨X,f1,as,k1⟩:=gt.ok c.sr r1 eg;have P:∀i∈u,∀d,j[i]?=J (J d)->∀n,X[i]?=J (J (.loc n))->n<h1.length:=λi G d e n z=>on i G d ((k1 i G).2▸e) n ((k1 i G).1▸z);have c1:Cx q h L B (h1.length::O) u X j s:=⟨c.bd,c.sub,c.bb,c.pb,c.hL,c.pen,as⟩;have kt:=t.ok c1
   cases et:t.p j s with
   |bad=>rw[et]at a;cases a
   |exc _ _=>rw[et]at a;cases a
   |ok b s1 =>
    rw[et]at a kt;obtain⟨b',h2,f2,k2,p2,eb⟩:=kt;subst eb;have c2:=c1.kb k2 p2;have C:Mv (h1.length::O) h (h1.length::O) h2:=k2.mv c.pO;have hn:h1.length<h.length:=bj ga;have S:h2[h1.length]?=J (.lst f):=(k2.keep _ hn ⋯).trans ga;rw[Pb]at a
    cases b with
    |false =>
     rw[f_ (by simp)]at a;obtain⟨E,U,a1,a2⟩:=ih xr j X h2 l f s1 r W P (kb.trans k2) c2 (r2.mv C) S (ra.mv C) (by simp at hl;lia) a;refine⟨E,U,?_,a2⟩;rw[A_,c_ ok,f1];simp only[f2,Out.ne_ok,Out.bind_ok,nw,if_false];exact a1
    |true =>
     rw[c_ rfl]at a;have ke:=e.ok c2
     cases ee:e.p j s1 with
     |bad=>rw[ee]at a;cases a
     |exc _ _=>rw[ee]at a;cases a
     |ok y s2 =>
      rw[ee]at a ke;obtain⟨v,M,f3,k3,p3,_,rv,_⟩:=ke;have rv:=rv hz;have H:=c2.kb k3 p3;have al:Mv (h1.length::O) h2 (h1.length::O) M:=k3.mv c.pO;have an:M[h1.length]?=J (.lst f):=(k3.keep _ (bj S) ⋯).trans S;have F:Mv (h1.length::O) M (h1.length::O) (M.set h1.length (.lst (f++[v]))) :=
       ⟨λn hn no=>n9 (λz=>no (by simp[z])),λo ho=>.inl ho⟩
      have ax:Rps q M (h1.length::O) (l++[y]) (f++[v]):=((ra.mv C).mv al).app ⟨v,[],rfl,rv,rfl⟩;rw[Pb]at a
      cases er:fT gt.p t.p e.p R j s2 with
      |bad=>rw[er]at a;cases a
      |exc _ _=>rw[er]at a;cases a
      |ok r' s3 =>
       rw[er]at a;cases a;have ap:KB q h1 M:=(kb.trans k2).trans k3;have c4:Cx q (M.set h1.length (.lst (f++[v]))) L B (h1.length::O) u X j s2:=by
        refine⟨λo ho=>by simpa using H.bd o ho,H.sub,H.bb,H.pb,by simpa using H.hL,?_,?_⟩
        .delta cP;rw[n9 ⋯];exact p3
        .refine⟨H.sr.len,λi d e G=>let⟨v,e1,q1⟩:=H.sr.fz i d e G;⟨v,e1,q1.mv F⟩,λi d e G=>?_⟩;obtain⟨n,ys,es,b1,b2,b3,b4,b5,b6⟩:=H.sr.ow i d e G;have z:=P i G d e n b2;exact⟨n,ys,es,b1,b2,b3,b4,by rw[n9 ⋯];exact b5,b6.mv F⟩
       obtain⟨E,U,a1,a2,a3,a4,a5⟩:=ih xr j X (M.set h1.length (.lst (f++[v]))) (l++[y]) (f++[v]) s2 r' _ P ⟨by simpa using ap.len,λn hn hp=>by rw[n9 ⋯];exact ap.keep n hn hp⟩ c4 (((r2.mv C).mv al).mv F) (y4 (bj an)) (ax.mv F) (by simp at hl ⊢;lia) er;refine⟨E,U,?_,a2,a3,a4,by simpa using a5⟩;rw[A_,c_ ok,f1];simp only[f2,Out.ne_ok,Out.bind_ok,if_true,f3,an];rw[c_ (by have:=f9;have:=ra.length;simp at hl;lia)];exact a1
def aJ(a:Nat)(fm:WQ)(i:Xi ws){ws':WQ}(g:Xg ws')(t:Xt ws')(e:Xe ws')(S:E_ a fm ws=ws':=by exact ys rfl)(hz:e.fz=I:=by exact ys rfl):Xe ws where
 m:=fH a fm i.m g.m t.m e.m
 p:=λenv s=>(i.p env s).bind λl y=>if l.length<=100000 then (match fT g.p t.p e.p l (w_ a fm env) y with
  |.ok r G=>.ok (.lst r) G
  |_=>.bad)else .bad
 fz:=I
 fr:=I
 ok {q h L B O Z env s} c:=by
  subst S;refine(i.ok c).bind λl it j y M E ⟨U,gd,_⟩=>?_;have C:=c.kb M E;by_cases H:l.length<=100000
  .rw[c_ H]
   cases er:fT g.p t.p e.p l (w_ a fm env) y with
   |bad=>trivial
   |exc _ _=>trivial
   |ok r G =>
    have mv:Mv O j (j.length::O) (j++[MO.lst []]):=⟨λn F _=>q7 F,λo u=>by
     rcases lb.mp u with z|z
     .exact .inr ⋯
     .exact .inl z⟩
    have sr:=(C.sr.comp a fm).mv mv (λo u=>mw _ u) λn F _ _=>q7 F;have c2:Cx q (j++[MO.lst []]) L B (j.length::O) (E_ a fm ws) (EK a fm Z) (w_ a fm env) y:=by
     refine⟨λo u=>?_,λo u=>mw _ (c.sub o u),c.bb,c.pb,by have:=C.hL;simp;lia,E.app,sr⟩;rcases lb.mp u with z|z
     .subst z;simp
     .have:=C.bd o z;simp;lia
    have hq:q<j.length:=bj E
    obtain⟨Q,zs,a1,a2,W,a4,X⟩:=Lh g t e hz (L:=L) (B:=B) (O:=O) hq gd l it.xs (w_ a fm env) (EK a fm Z) (j++[MO.lst []]) [] [] y r G (λi hi d ed n R=>by
     obtain⟨n',_,_,_,b2,_,_,b5,_⟩:=(C.sr.comp a fm).ow i d ed hi;rw[b2]at R;cases R
     exact bj b5) (KB.app _ _ _) c2 (U.mv mv) (by simp) rfl (by simpa using H) er
    have f:Frs q h.length O Q (.lst r) (.loc j.length):=λl e=>by
     cases e;exact⟨_,zs,rfl,M.len,a4,by simpa using X⟩
    have P:=f.rp c.bd rfl;exact⟨.loc j.length,Q,by show(A_ _ _ _ _ _ _ _ _).bind _=_;rw[a1];rfl,a2,W,.inl P,λ_=>P,λ_=>f⟩
  .rw[f_ H];trivial
end
inductive PS where
 |nx(e:az)(s:g_)
 |rt(d:D)(s:g_)
 |bk(e:az)(s:g_)
 |ct(e:az)(s:g_)
 |exc(c:Str)(e:az)(s:g_)
 |rse(c:Str)(e:az)(s:g_)
 |bad
structure Stp(q L:Nat)(h:MH)(O:WQ)(h':MH)(O':WQ):Prop where
 len:h.length<=h'.length
 mv:Mv O h O' h'
 sub:∀o∈O,o∈O'
 base:∀n:Nat,n<L->n≠q->h'[n]?=h[n]?
def Stp.refl(q L:Nat)(h:MH)(O:WQ):Stp q L h O h O:=⟨i4 _,⟨λ_ _ _=>rfl,λ_ h=>.inl h⟩,λ_ h=>h,λ_ _ _=>rfl⟩
def Stp.trans(a:Stp q L h O h1 O1)(b:Stp q L h1 O1 h2 O2):Stp q L h O h2 O2:=by
 refine⟨ny a.len b.len,⟨λn f no=>?_,λo i=>?_⟩,λo i=>b.sub o (a.sub o i),λn f j=>(b.base n f j).trans (a.base n f j)⟩
 .have l:n∉O1:=λz=>by
   rcases a.mv.new n z with q|q
   .exact no q
   .lia
  exact(b.mv.keep n (oy f a.len) l).trans (a.mv.keep n f no)
 .rcases b.mv.new o i with z|z
  .exact a.mv.new o z
  .exact .inr (ny a.len z)
def Dis(a:WQ)(Z:ly)(env:az):Prop:=∀i j,i∈a->j∈a->i≠j->∀d f n,env[i]?=J (J d)->env[j]?=J (J f)->Z[i]?=J (J (.loc n))->Z[j]?≠J (J (.loc n))
inductive Nxt(q L:Nat)(h:MH)(B O ws:WQ)(Z':ly)(h':MH)(env:az)(s:g_):Prop
 |mk(O':WQ)(a:Stp q L h O h' O')(c:Cx q h' L B O' ws Z' env s)(d:Dis ws Z' env):Nxt q L h B O ws Z' h' env s
inductive M9(q L:Nat)(h:MH)(B O ws:WQ)(f:ly->MH->SOut)(o:SOut)(env:az)(s:g_):Prop
 |mk(Z':ly)(h':MH)(e:o=f Z' h')(n:Nxt q L h B O ws Z' h' env s):M9 q L h B O ws f o env s
inductive Vt(q L:Nat)(h:MH)(B:WQ)(fr:Bool)(o:SOut)(d:D)(s:g_):Prop
 |mk(v:PV)(h':MH)(e:o=.rt v h')(l:h.length<=h'.length)(b:∀n:Nat,n<L->n≠q->h'[n]?=h[n]?)(p:cP h' q s)(r:Rp q h' B d v)(f:fr=I->Frs q L B h' d v):Vt q L h B fr o d s
def SOk(q L:Nat)(h:MH)(B O a:WQ)(fr:Bool)(o:SOut)(r:PS):Prop:=match r with
 |.nx env s=>M9 q L h B O a .nx o env s
 |.bk env s=>M9 q L h B O a .bk o env s
 |.ct env s=>M9 q L h B O a .ct o env s
 |.exc c env s=>M9 q L h B O a (.exc ⟨c,[]⟩) o env s
 |.rse c env s=>M9 q L h B O a (.rse ⟨c,[]⟩) o env s
 |.rt d s=>Vt q L h B fr o d s
 |.bad=>True
structure Xd(ws:WQ) where
 m:mh
 p:az->g_->PS
 fr:Bool
 ok:∀{q h L B O Z env s},Cx q h L B O ws Z env s->Dis ws Z env->SOk q L h B O ws fr (m Z h) (p env s)
def Nxt.after(a:Stp q L h O h1 O1)(n:Nxt q L h1 B O1 ws Z' h' env s):Nxt q L h B O ws Z' h' env s :=
 let⟨f,b,c,d⟩:=n;⟨f,a.trans b,c,d⟩
def SOk.after(a:Stp q L h O h1 O1)(k:SOk q L h1 B O1 ws fr o r):SOk q L h B O ws fr o r:=by
 cases r with
 |nx env s=>obtain⟨i,f,e,n⟩:=k;exact⟨i,f,e,n.after a⟩
 |bk env s=>obtain⟨i,f,e,n⟩:=k;exact⟨i,f,e,n.after a⟩
 |ct env s=>obtain⟨i,f,e,n⟩:=k;exact⟨i,f,e,n.after a⟩
 |exc c env s=>obtain⟨i,f,e,n⟩:=k;exact⟨i,f,e,n.after a⟩
 |rse c env s=>obtain⟨i,f,e,n⟩:=k;exact⟨i,f,e,n.after a⟩
 |rt d s=>obtain⟨v,f,e,l,b,C,y,z⟩:=k;exact⟨v,f,e,ny a.len l,λn u j=>(b n u j).trans (a.base n u j),C,y,z⟩
 |bad=>trivial
def SOk.fr(hf:f'=I->f=I)(k:SOk q L h B O ws f o r):SOk q L h B O ws f' o r:=by
 cases r with
 |rt d s=>obtain⟨v,a,e,l,b,p,r,z⟩:=k;exact⟨v,a,e,l,b,p,r,λy=>z (hf y)⟩
 |nx env s=>exact k
 |bk env s=>exact k
 |ct env s=>exact k
 |exc c env s=>exact k
 |rse c env s=>exact k
 |bad=>trivial
def KB.stp(c:Cx q h L B O ws Z env s)(k:KB q h h'):Stp q L h O h' O :=
 ⟨k.len,k.mv c.pO,λ_ h=>h,λn f a=>k.keep n (oy f c.hL) a⟩
def PR.go{α:Type}(r:PR α)(env:az)(k:α->az->g_->PS):PS:=match r with
 |.ok a s=>k a env s
 |.exc c s=>.exc c env s
 |.bad=>.bad
@[simp]theorem Pg(a:α)(s:g_)(env:az)(k:α->az->g_->PS):(PR.ok a s).go env k=k a env s:=rfl
@[simp]theorem PR.go_exc(c:Str)(s:g_)(env:az)(k:α->az->g_->PS):(PR.exc c s:PR α).go env k=.exc c env s:=rfl
@[simp]theorem PR.go_bad(env:az)(k:α->az->g_->PS):(PR.bad:PR α).go env k=.bad:=rfl
theorem SOk.ex{α β:Type}{q L:Nat}{h:MH}{B O j:WQ}{fr:Bool}{Z:ly}{env:az}{s:g_}{o:Out β}{r:PR α}{R:MH->α->β->Prop}{f:β->mh}{g:α->az->g_->PS}(c:Cx q h L B O j Z env s)(d:Dis j Z env)(k:Ok q h o r R)(n:∀a b i l,KB q h i->Cx q i L B O j Z env l->R i a b->SOk q L i B O j fr (f b Z i) (g a env l)):
  SOk q L h B O j fr (o.go Z f) (r.go env g):=by
 cases r with
 |ok a l =>
  obtain⟨b,i,rfl,kb,pn,u⟩:=k;exact(n a b i l kb (c.kb kb pn) u).after (kb.stp c)
 |exc x l =>
  obtain⟨i,rfl,kb,pn⟩:=k;exact⟨Z,i,rfl,O,kb.stp c,c.kb kb pn,d⟩
 |bad=>trivial
noncomputable section
variable{ws:WQ}
def PS.then(r:PS)(k:az->g_->PS):PS:=match r with
 |.nx env s=>k env s
 |r=>r
@[simp]theorem af:(PS.nx env s).then k=k env s:=rfl
@[simp]theorem g7:(PS.rt d s).then k=.rt d s:=rfl
@[simp]theorem then_bk:(PS.bk env s).then k=.bk env s:=rfl
@[simp]theorem then_ct:(PS.ct env s).then k=.ct env s:=rfl
@[simp]theorem Ck:(PS.exc c env s).then k=.exc c env s:=rfl
@[simp]theorem Dn:(PS.rse c env s).then k=.rse c env s:=rfl
@[simp]theorem Du:PS.bad.then k=.bad:=rfl
def au(a b:Xd ws):Xd ws where
 m:=bJ a.m b.m
 p:=λenv s=>(a.p env s).then b.p
 fr:=a.fr&&b.fr
 ok {q h L B O Z env s} c d:=by
  have k:=a.ok c d;show SOk q L h B O ws _ ((a.m Z h).then b.m) _
  cases e:a.p env s with
  |nx i u =>
   rw[e]at k;obtain⟨Q,P,e1,M,st,y,G⟩:=k;rw[e1];exact((b.ok y G).fr (by simp)).after st
  |rt x u=>rw[e]at k;obtain⟨v,j,e1,H,C,F,E,z⟩:=k;rw[e1];exact SOk.fr (f:=a.fr) (by simp;exact λh _=>h) (show SOk q L h B O ws a.fr (.rt v j) (.rt x u) from⟨v,j,rfl,H,C,F,E,z⟩)
  |bk i u=>rw[e]at k;obtain⟨l,j,e1,r⟩:=k;rw[e1];exact⟨l,j,rfl,r⟩
  |ct i u=>rw[e]at k;obtain⟨l,j,e1,r⟩:=k;rw[e1];exact⟨l,j,rfl,r⟩
  |exc x i u=>rw[e]at k;obtain⟨l,j,e1,r⟩:=k;rw[e1];exact⟨l,j,rfl,r⟩
  |rse x i u=>rw[e]at k;obtain⟨l,j,e1,r⟩:=k;rw[e1];exact⟨l,j,rfl,r⟩
  |bad=>trivial
def im:Xd ws where
 m:=l7
 p:=.nx
 fr:=I
 ok {q h L B O Z env s} c d:=⟨Z,h,rfl,O,Stp.refl _ _ _ _,c,d⟩
def Li{m:Mx PV}{Z:ly}{h:MH}:cr m Z h=(m Z h).go Z λv _ a=>.rt v a:=by delta cr;cases m Z h<;>rfl
def aO(e:Xe ws):Xd ws where
 m:=cr e.m
 p:=λenv s=>(e.p env s).go env λd _ s=>.rt d s
 fr:=e.fr
 ok {q h L B O Z env s} c d:=by
  rw[Li];refine SOk.ex (f:=λv _ u=>.rt v u) (g:=λd _ s=>.rt d s) c d (e.ok c) λx v j G kb a ⟨w,z,f⟩=>?_;refine⟨v,j,rfl,i4 _,λ_ _ _=>rfl,a.pen,w.base a.sub a.bb,λy=>?_⟩;intro i C;obtain⟨n,xs,F,H,l,E⟩:=f y i C
  have:=c.hL
  exact⟨n,xs,F,⋯,l,E.mv ⟨λ_ _ _=>rfl,λo r=>.inl (by
   rcases lb.mp r with z|z
   .subst z;simp
   .exact mw _ (c.sub o z))⟩⟩
def jh(i:Nat)(y:ws.contains i=I:=by exact ys rfl):Xd ws where
 m:=cr (ar i)
 p:=λenv s=>match env[i]? with
  |some (J d)=>.rt d s
  |_=>.bad
 fr:=I
 ok {q h L B O Z env s} c d:=by
  show SOk q L h B O ws _ _ (match env[i]? with|some (J d)=>PS.rt d s|_=>.bad)
  cases e:env[i]? with
  |none=>trivial
  |some o =>
   cases o with
   |none=>trivial
   |some x =>
    obtain⟨n,xs,l,e1,e2,a,b,g,r⟩:=c.sr.ow i x e (by simpa using y);subst e1
    have C:Mv O h (n::B) h:=⟨λ_ _ _=>rfl,λo u=>.inl (by
     rcases lb.mp u with z|z
     .subst z;exact a
     .exact c.sub o z)⟩
    have f:Frs q L B h (.lst l) (.loc n):=λj e=>by cases e;exact⟨n,xs,rfl,b,g,r.mv C⟩
    refine⟨.loc n,h,by simp[cr,ar,e2],i4 _,λ_ _ _=>rfl,c.pen,f.rp c.bb rfl,λ_=>f⟩
def eP(e:Xe ws):Xd ws where
 m:=fD e.m
 p:=λenv s=>(e.p env s).go env λ_=>.nx
 fr:=I
 ok {q h L B O Z env s} c d:=SOk.ex (f:=λ_=>l7) (g:=λ_=>.nx) c d (e.ok c) λx v a j kb i _=>⟨Z,a,rfl,O,Stp.refl _ _ _ _,i,d⟩
def n7(t:Xt ws)(a b:Xd ws):Xd ws where
 m:=Ec t.m a.m b.m
 p:=λenv s=>(t.p env s).go env λx env s=>if x=I then a.p env s else b.p env s
 fr:=a.fr&&b.fr
 ok {q h L B O Z env s} c d:=SOk.ex (f:=λx=>if x=I then a.m else b.m) (g:=λx env s=>if x=I then a.p env s else b.p env s) c d (t.ok c) λx v j l kb i e=>by
  subst e
  cases x with
  |true=>exact(a.ok i d).fr (by simp;exact λh _=>h)
  |false=>exact(b.ok i d).fr (by simp)
def Dis.keep(d:Dis ws Z env)(k:∀i∈ws,Z'[i]?=Z[i]?/\env'[i]?=env[i]?):Dis ws Z' env':=λi j f l ne x y n a b e=>by
 rw[(k i f).1]at e;rw[(k i f).2]at a;rw[(k j l).2]at b;rw[(k j l).1];exact d i j f l ne x y n a b e
def aG(i:Nat)(e:Xe ws)(u:ws.contains i=T:=by exact ys rfl)(r:e.fz=I:=by exact ys rfl):Xd ws where
 m:=bN i e.m
 p:=λenv s=>(e.p env s).go env λd env s=>.nx (env.set i (J d)) s
 fr:=I
 ok {q h L B O Z env s} c d:=by refine SOk.ex (f:=λv Z h=>.nx (Z.set i (J v)) h) (g:=λd env s=>.nx (env.set i (J d)) s) c d (e.ok c) λx v l y kb j ⟨_,z,_⟩=>?_;obtain⟨a,b⟩:=j.sr.set (i:=i) (λz=>by simp[z]at u) (z r);exact⟨_,l,rfl,O,Stp.refl _ _ _ _,⟨j.bd,j.sub,j.bb,j.pb,j.hL,j.pen,a⟩,d.keep b⟩
def cI(i:Nat)(e:Xe ws)(hi:ws.contains i=I:=by exact ys rfl)(hz:e.fr=I:=by exact ys rfl):Xd ws where
 m:=bN i e.m
 p:=λenv s=>(e.p env s).go env λd env s=>match d with
  |.lst H=>.nx (env.set i (J (.lst H))) s
  |_=>.bad
 fr:=I
 ok {q h L B O Z env s} c d:=by
  show SOk q L h B O ws _ _ _;have k:=e.ok c;show SOk q L h B O ws _ ((e.m Z h).go Z λv Z h=>.nx (Z.set i (J v)) h) _
  cases W:e.p env s with
  |bad=>trivial
  |exc x s1 =>
   rw[W]at k;obtain⟨M,e1,kb,pn⟩:=k;rw[e1];exact⟨Z,M,rfl,O,kb.stp c,c.kb kb pn,d⟩
  |ok x s1 =>
   rw[W]at k;obtain⟨v,M,e1,kb,pn,_,_,f⟩:=k;rw[e1]
   cases x with
   |lst H =>
    obtain⟨n,xs,rfl,hn,g,r⟩:=f hz H rfl;have X:=c.kb kb pn;have U:i∈ws:=by simpa using hi
    have mv:Mv O h (n::O) M:=⟨λm G no=>kb.keep m G λz=>no (z▸c.pO),λo u=>by
     rcases lb.mp u with z|z
     .exact .inr ⋯
     .exact .inl z⟩
    have P:n∉O:=λz=>by have:=c.bd n z;lia
    refine⟨Z.set i (J (.loc n)),M,rfl,n::O,⟨kb.len,mv,λo u=>mw _ u,λm G hq=>kb.keep m (oy G c.hL) hq⟩,⟨λo u=>?_,λo u=>mw _ (c.sub o u),c.bb,c.pb,X.hL,pn,?_⟩,?_⟩
    .rcases lb.mp u with z|z
     .subst z;exact bj g
     .exact X.bd o z
    .have sr:=c.sr.mv mv (λo u=>mw _ u) λm G C _=>kb.keep m G (by have:=c.pL;lia);refine⟨by simp[sr.len],λj x l F=>?_,λj x l F=>?_⟩
     .have ne:i≠j:=λz=>F (z▸U);rw[n9 ne]at l;rw[n9 ne];exact sr.fz j x l F
     .by_cases z:i=j
      .subst z;have C:i<env.length:=by have:=(kx.mp l).1;simpa using this
       rw[y4 C]at l;cases l;exact⟨n,xs,H,rfl,y4 (by rw[sr.len];exact C),by simp,by have:=c.hL;lia,g,r⟩
      .rw[n9 z]at l;rw[n9 z];exact sr.ow j x l F
    .have old:∀j d,j∈ws->i≠j->(env.set i (J (.lst H)))[j]?=J (J d)->(Z.set i (J (.loc n)))[j]?≠J (J (.loc n)):=λj d F ne l z=>by
      rw[n9 ne]at l z;obtain⟨n',_,_,_,b2,b3,_⟩:=c.sr.ow j d l F;rw[z]at b2;cases b2;exact P b3
     intro a b ha hb ne x y m R Q E;by_cases S:i=a
     .subst S;have C:i<Z.length:=by have:=(kx.mp E).1;simpa using this
      rw[y4 C]at E;cases E;exact old b y hb ne Q
     .by_cases z2:i=b
      .subst z2;intro z;have C:i<Z.length:=by have:=(kx.mp z).1;simpa using this
       rw[y4 C]at z;cases z;exact old a x ha S R E
      .rw[n9 S]at R E;rw[n9 z2]at Q ⊢;exact d a b ha hb ne x y m R Q E
   |_=>trivial
def sP(e:Xe ws)(g:Xg ws)(y:e.fz=I:=by exact ys rfl):Xd ws where
 m:=pT e.m g.m
 p:=λenv s=>(e.p env s).go env λd env s=>match g.p d env with
  |some a=>.nx a s
  |none=>.bad
 fr:=I
 ok {q h L B O Z env s} c d:=by
  refine SOk.ex (f:=λv Z h=>match g.m v Z h with|.nx l j=>.nx l j|.exc x l j=>.exc x l j|_=>.bad) (g:=λd env s=>match g.p d env with|some a=>.nx a s|none=>.bad) c d (e.ok c) λx v r F kb i ⟨_,z,_⟩=>?_
  cases u:g.p x env with
  |none=>trivial
  |some a =>
   obtain⟨E,C,sr,k⟩:=g.ok i.sr (z y) u;rw[C];exact⟨E,r,rfl,O,Stp.refl _ _ _ _,⟨i.bd,i.sub,i.bb,i.pb,i.hL,i.pen,sr⟩,d.keep k⟩
end
end PU
namespace PU
open MM
open L2 (qp)
noncomputable section
variable{ws:WQ}
def PS.turn(r:PS)(k:az->g_->PS):PS:=match r with
 |.nx e s=>k e s
 |.ct e s=>k e s
 |.bk e s=>.nx e s
 |r=>r
@[simp]theorem turn_nx:(PS.nx e s).turn k=k e s:=rfl
@[simp]theorem turn_ct:(PS.ct e s).turn k=k e s:=rfl
@[simp]theorem turn_bk:(PS.bk e s).turn k=.nx e s:=rfl
@[simp]theorem turn_rt:(PS.rt d s).turn k=.rt d s:=rfl
@[simp]theorem Cr:(PS.exc c e s).turn k=.exc c e s:=rfl
@[simp]theorem Dx:(PS.rse c e s).turn k=.rse c e s:=rfl
@[simp]theorem OX:PS.bad.turn k=.bad:=rfl
def D_(g:D->az->Option az)(b:az->g_->PS):WR->az->g_->PS
 |[],env,s=>.nx env s
 |d::f,env,s=>match g d env with
  |none=>.bad
  |some a=>(b a s).turn (D_ g b f)
def Lj(g:Xg ws)(b:Xd ws):∀(E:WR)(xs:WL)(env:az)(Z:ly)(h:MH)(O:WQ)(s:g_),Cx q h L B O ws Z env s->Dis ws Z env->Rps q h O E xs->(∀y∈it.gd,h[y.1]?=J (.lst y.2)/\y.1∉O) ->
  SOk q L h B O ws b.fr (xT it g.m b.m xs Z h) (D_ g.p b.p E env s):=by
 intro E
 induction E with
 |nil =>
  intro xs env Z h O s c d r gd
  have:=r
  subst this;have ok:it.ok h:=λy C=>(gd y C).1;refine⟨Z,h,by rw[xT];dsimp only;rw[c_ ok],O,Stp.refl _ _ _ _,c,d⟩
 |cons x E R =>
  intro xs env Z h O s c d r gd;obtain⟨v,G,rfl,Q,H⟩:=r;have ok:it.ok h:=λy C=>(gd y C).1;rw[D_]
  cases W:g.p x env with
  |none=>trivial
  |some j =>
   obtain⟨S,f1,sr,k⟩:=g.ok c.sr Q W;have U:Cx q h L B O ws S j s:=⟨c.bd,c.sub,c.bb,c.pb,c.hL,c.pen,sr⟩;have kb:=b.ok U (d.keep k)
   have em:xT it g.m b.m (v::G) Z h=(match b.m S h with
    |.nx i f=>xT it g.m b.m G i f
    |.ct i f=>xT it g.m b.m G i f
    |.bk i f=>.nx i f
    |.rt v f=>.rt v f
    |.exc e i f=>.exc e i f
    |.rse e i f=>.rse e i f
    |.bad=>.bad):=by rw[xT];dsimp only;(rw[c_ ok,f1])<;>rfl
   rw[em];have F:∀{f:MH}{z:WQ},Stp q L h O f z->∀y∈it.gd,f[y.1]?=J (.lst y.2)/\y.1∉z:=λst y C=>by
    obtain⟨a,b⟩:=st.mv.get (gd y C).1 (gd y C).2;exact⟨b,a⟩
   dsimp only
   cases u:b.p j s with
   |bad=>trivial
   |nx e2 l =>
    rw[u]at kb;obtain⟨i,f,e1,z,st,P,M⟩:=kb;rw[e1];exact(R G e2 i f z l P M (H.mv st.mv) (F st)).after st
   |ct e2 l =>
    rw[u]at kb;obtain⟨i,f,e1,z,st,P,M⟩:=kb;rw[e1];exact(R G e2 i f z l P M (H.mv st.mv) (F st)).after st
   |bk e2 l=>rw[u]at kb;obtain⟨i,f,e1,r⟩:=kb;rw[e1];exact⟨i,f,rfl,r⟩
   |exc x e2 l=>rw[u]at kb;obtain⟨i,f,e1,r⟩:=kb;rw[e1];exact⟨i,f,rfl,r⟩
   |rse x e2 l=>rw[u]at kb;obtain⟨i,f,e1,r⟩:=kb;rw[e1];exact⟨i,f,rfl,r⟩
   |rt x l=>rw[u]at kb;obtain⟨v,f,e1,Q,H,r3,r4,X⟩:=kb;rw[e1];exact⟨v,f,rfl,Q,H,r3,r4,X⟩
def dy(i:Xi ws)(g:Xg ws)(b:Xd ws)(E:i.fz=I:=by exact ys rfl):Xd ws where
 m:=nN i.m g.m b.m
 p:=λenv s=>(i.p env s).go env λa env s=>D_ g.p b.p a env s
 fr:=b.fr
 ok {q h L B O Z env s} c d:=SOk.ex (f:=λj=>xT j g.m b.m j.xs) (g:=λa env s=>D_ g.p b.p a env s) c d (i.ok c) λa j z C kb u r =>
  Lj g b a j.xs env Z z O C u d r.1 λy l=>⟨(r.2.1 y l).1,r.2.2 E y l⟩
def cR(t:az->g_->PR Bool)(b:az->g_->PS):Nat->az->g_->PS
 |0,_,_=>.bad
 |n+1,env,s=>(t env s).go env λx env s=>if x=I then(b env s).turn (cR t b n)else .nx env s
def sK(t:Xt ws)(b:Xd ws):∀(n:Nat)(env:az)(Z:ly)(h:MH)(O:WQ)(s:g_),Cx q h L B O ws Z env s->Dis ws Z env->SOk q L h B O ws b.fr (dh t.m b.m n Z h) (cR t.p b.p n env s)
 |0,env,Z,h,O,s,c,d=>trivial
 |n+1,env,Z,h,O,s,c,d=>by
  refine SOk.ex c d (t.ok c) λx v C E kb z e=>?_;subst e
  cases x with
  |false=>exact⟨Z,C,rfl,O,Stp.refl _ _ _ _,z,d⟩
  |true =>
   have k:=b.ok z d;rw[c_ rfl]
   cases j:b.p env E with
   |bad=>trivial
   |nx e2 i =>
    rw[j]at k;obtain⟨f,a,e1,u,st,y,l⟩:=k;rw[e1];exact(sK t b n e2 f a u i y l).after st
   |ct e2 i =>
    rw[j]at k;obtain⟨f,a,e1,u,st,y,l⟩:=k;rw[e1];exact(sK t b n e2 f a u i y l).after st
   |bk e2 i=>rw[j]at k;obtain⟨f,a,e1,r⟩:=k;rw[e1];exact⟨f,a,rfl,r⟩
   |exc x e2 i=>rw[j]at k;obtain⟨f,a,e1,r⟩:=k;rw[e1];exact⟨f,a,rfl,r⟩
   |rse x e2 i=>rw[j]at k;obtain⟨f,a,e1,r⟩:=k;rw[e1];exact⟨f,a,rfl,r⟩
   |rt x i=>rw[j]at k;obtain⟨v,a,e1,P,G,M,H,F⟩:=k;rw[e1];exact⟨v,a,rfl,P,G,M,H,F⟩
def Lk(N:Nat)(t:Xt ws)(b:Xd ws)(f:∀{Z h n},dh t.m b.m n Z h≠.bad->MY t.m b.m Z h=dh t.m b.m n Z h):Xd ws where
 m:=MY t.m b.m
 p:=cR t.p b.p N
 fr:=b.fr
 ok {q h L B O Z env s} c d:=by
  have k:=sK t b N env Z h O s c d;by_cases z:dh t.m b.m N Z h=.bad
  .rw[z]at k
   cases e:cR t.p b.p N env s with
   |bad=>trivial
   |nx e2 a=>rw[e]at k;obtain⟨_,_,e1,_⟩:=k;cases e1
   |ct e2 a=>rw[e]at k;obtain⟨_,_,e1,_⟩:=k;cases e1
   |bk e2 a=>rw[e]at k;obtain⟨_,_,e1,_⟩:=k;cases e1
   |exc x e2 a=>rw[e]at k;obtain⟨_,_,e1,_⟩:=k;cases e1
   |rse x e2 a=>rw[e]at k;obtain⟨_,_,e1,_⟩:=k;cases e1
   |rt x a=>rw[e]at k;obtain⟨_,_,e1,_⟩:=k;cases e1
  .rw[f z];exact k
structure EO where
 m:Nat->WL->MH->WZ
 p:WR->WR->Option (D×WR)
 ok:∀{q:Nat}{h:MH}{O:WQ}{n:Nat}{xs:WL}{ds as:WR}{vs:WL}{d:D}{ds':WR},h[n]?=J (.lst xs)->Rps q h O ds xs->Rps q h O as vs->p ds as=J (d,ds')->∃v xs',m n vs h=.ok v (h.set n (.lst xs'))/\Rps q h O ds' xs'/\Rp q h O d v
def nV{q h L B O Z env s n xs' ds' i ds}(c:Cx q h L B O ws Z env s)(d:Dis ws Z env)(H:i∈ws)(e:env[i]?=J (J (D.lst ds)))(M:Z[i]?=J (J (.loc n)))(r:Rps q h O ds' xs'):
  Nxt q L h B O ws Z (h.set n (.lst xs')) (env.set i (J (.lst ds'))) s:=by
 obtain⟨n',xs,al,e0,e2,a,b,g,r0⟩:=c.sr.ow i _ e H;rw[M]at e2;cases e2;have mv:Mv O h O (h.set n (.lst xs')):=⟨λm U no=>n9 (λ(z:n=m)=>no (z▸a)),λo u=>.inl u⟩;have hp:=c.pL;have R:=(kx.mp e).1;refine⟨O,⟨by simp,mv,λ_ h=>h,λm U _=>n9 ⋯⟩,⟨λo u=>by simpa using c.bd o u,c.sub,c.bb,c.pb,by simpa using c.hL,?_,⟨by simp[c.sr.len],λj x f l=>?_,λj x f l=>?_⟩⟩,?_⟩
 .delta cP;rw[n9 ⋯];exact c.pen
 .have ne:i≠j:=λz=>l (z▸H);rw[n9 ne]at f;obtain⟨v,e1,w⟩:=c.sr.fz j x f l;exact⟨v,e1,w.mv mv⟩
 .by_cases z:i=j
  .subst z;rw[y4 R]at f;cases f;exact⟨n,xs',ds',rfl,M,a,b,y4 (bj g),r.mv mv⟩
  .rw[n9 z]at f;obtain⟨m,ys,F,e1,e3,S,b4,b5,X⟩:=c.sr.ow j x f l
   have:n≠m:=λy=>d i j H l z _ _ n e f M (y▸e3)
   exact⟨m,ys,F,e1,e3,S,b4,by rw[n9 this];exact b5,X.mv mv⟩
 .intro j k l hk ne x y m f Q e1;have P:∀j x,(env.set i (J (D.lst ds')))[j]?=J (J x)->∃E,env[j]?=J (J E):=λj x f=>by
   by_cases z:i=j
   .subst z;exact⟨_,e⟩
   .rw[n9 z]at f;exact⟨x,f⟩
  obtain⟨E,G⟩:=P j x f;obtain⟨W,C⟩:=P k y Q;exact d j k l hk ne E W m G C e1
def IK(o:EO)(i:Nat)(a:Xs ws)(M:i∈ws)(H:a.fz=I){q h L B O Z env s}(c:Cx q h L B O ws Z env s)(d:Dis ws Z env)(F:a.p env s=.ok as s1)(E:env[i]?=J (J (.lst ds)))(G:o.p ds as=J (r,ds')):∃v j n f,KB q h j/\Cx q j L B O ws Z env s1/\Z[i]?=J (J (.loc n))/\Ed o.m (ar i) a.m Z h=.ok v (j.set n (.lst f))/\Rps q j O ds' f/\Rp q j O r v:=by
 obtain⟨n,xs,S,R,e2,U,X,g,P⟩:=c.sr.ow i _ E M;cases R;have l:=a.ok c;rw[F]at l;obtain⟨W,j,e3,kb,pn,_,u⟩:=l;have y:=c.kb kb pn;have z:=(kb.keep n (bj g) (by have:=c.pL;lia)).trans g;obtain⟨v,f,e4,Q,C⟩:=o.ok z (P.mv (kb.mv c.pO)) (u H) G;refine⟨v,j,n,f,kb,y,e2,?_,Q,C⟩;have em:ar i Z h=.ok (.loc n) h:=by simp[ar,e2]
 simp_all
def Ey(o:EO)(i:Nat)(a:az->g_->PR (WR))(env:az)(s:g_)(k:D->az->g_->PS):PS:=match a env s with
 |.ok l j=>(match env[i]? with
  |some (J (.lst u))=>(match o.p u l with
   |some (r,f)=>k r (env.set i (J (.lst f))) j
   |none=>.bad)
  |_=>.bad)
 |_=>.bad
def AG(e1:a env s=.ok as s1)(e2:env[i]?=J (J (.lst ds)))(e3:o.p ds as=J (r,ds')):Ey o i a env s k=k r (env.set i (J (.lst ds'))) s1:=by simp only[Ey,e1,e2,e3]
def xG:Ey o i a env s k=.bad\/∃j u l r f,a env s=.ok j u/\env[i]?=J (J (.lst l))/\o.p l j=J (r,f)/\Ey o i a env s k=k r (env.set i (J (.lst f))) u:=by
 cases e1:a env s with
 |bad=>left;simp only[Ey,e1]
 |exc _ _=>left;simp only[Ey,e1]
 |ok j u =>
  cases e2:env[i]? with
  |none=>left;simp only[Ey,e1,e2]
  |some x =>
   cases x with
   |none=>left;simp only[Ey,e1,e2]
   |some d =>
    cases d with
    |lst l =>
     cases e3:o.p l j with
     |none=>left;simp only[Ey,e1,e2,e3]
     |some y=>exact .inr ⟨j,u,l,y.1,y.2,rfl,rfl,e3,AG e1 e2 e3⟩
    |_=>left;simp only[Ey,e1,e2]
def vu(o:EO)(i:Nat)(a:Xs ws)(E:ws.contains i=I:=by exact ys rfl)(C:a.fz=I:=by exact ys rfl):Xd ws where
 m:=fD (Ed o.m (ar i) a.m)
 p:=λenv s=>Ey o i a.p env s λ_=>.nx
 fr:=I
 ok {q h L B O Z env s} c d:=by
  rcases xG (o:=o) (i:=i) (a:=a.p) (env:=env) (s:=s) (k:=λ_=>.nx)with z|⟨H,P,M,r,l,e1,e2,e3,z⟩
  .rw[z];trivial
  .rw[z];have f:i∈ws:=by simpa using E
   obtain⟨v,y,n,j,kb,u,F,em,G,Q⟩:=IK o i a f C c d e1 e2 e3;refine⟨Z,y.set n (.lst j),?_,(nV u d f e2 F G).after (kb.stp c)⟩;delta fD zi;rw[em];rfl
def wg(j:Nat)(o:EO)(i:Nat)(a:Xs ws)(S:ws.contains i=I:=by exact ys rfl)(U:ws.contains j=T:=by exact ys rfl)(R:a.fz=I:=by exact ys rfl):Xd ws where
 m:=bN j (Ed o.m (ar i) a.m)
 p:=λenv s=>Ey o i a.p env s λr env s=>.nx (env.set j (J r)) s
 fr:=I
 ok {q h L B O Z env s} c d:=by
  rcases xG (o:=o) (i:=i) (a:=a.p) (env:=env) (s:=s) (k:=λr env s=>.nx (env.set j (J r)) s)with z|⟨W,s1,ds,r,M,e1,e2,e3,z⟩
  .rw[z];trivial
  .rw[z];have l:i∈ws:=by simpa using S
   obtain⟨v,P,n,C,kb,F,G,em,H,Q⟩:=IK o i a l R c d e1 e2 e3;obtain⟨X,st,c2,d2⟩:=(nV F d l e2 G H).after (kb.stp c);obtain⟨E,u,f,y⟩:=nV F d l e2 G H;obtain⟨A,b⟩:=f.sr.set (i:=j) (λz=>by simp[z]at U) (Q.mv u.mv);refine⟨Z.set j (J v),P.set n (.lst C),?_,E,(kb.stp c).trans u,⟨f.bd,f.sub,f.bb,f.pb,f.hL,f.pen,A⟩,y.keep b⟩;delta bN zi;rw[em]
def gh(i:Nat)(e ix:az->g_->PR D)(env:az)(s:g_):PS:=match e env s with
 |.ok v f=>(match ix env f with
  |.ok (.int j) l=>(match env[i]? with
   |some (J (.lst a))=>(match qp a.length j with
    |some n=>.nx (env.set i (J (.lst (a.set n v)))) l
    |none=>.bad)
   |_=>.bad)
  |_=>.bad)
 |_=>.bad
def rA(e1:e env s=.ok v s1)(e2:ix env s1=.ok (.int j) s2)(e3:env[i]?=J (J (.lst ds)))(e4:qp ds.length j=J n):gh i e ix env s=.nx (env.set i (J (.lst (ds.set n v)))) s2:=by simp only[gh,e1,e2,e3,e4]
def CY:gh i e ix env s=.bad\/∃v f j l a n,e env s=.ok v f/\ix env f=.ok (.int j) l/\env[i]?=J (J (.lst a))/\qp a.length j=J n/\gh i e ix env s=.nx (env.set i (J (.lst (a.set n v)))) l:=by
 cases e1:e env s with
 |bad=>left;simp only[gh,e1]
 |exc _ _=>left;simp only[gh,e1]
 |ok v f =>
  cases e2:ix env f with
  |bad=>left;simp only[gh,e1,e2]
  |exc _ _=>left;simp only[gh,e1,e2]
  |ok k l =>
   cases k with
   |int j =>
    cases e3:env[i]? with
    |none=>left;simp only[gh,e1,e2,e3]
    |some x =>
     cases x with
     |none=>left;simp only[gh,e1,e2,e3]
     |some d =>
      cases d with
      |lst a =>
       cases e4:qp a.length j with
       |none=>left;simp only[gh,e1,e2,e3,e4]
       |some n=>exact .inr ⟨v,f,j,l,a,n,rfl,e2,rfl,e4,rA e1 e2 e3 e4⟩
      |_=>left;simp only[gh,e1,e2,e3]
   |_=>left;simp only[gh,e1,e2]
def Vw.int(w:Vw q h L O (.int b) v):v=.int b:=by
 rcases w with r|⟨n,xs,a,e,_⟩
 .exact r
 .cases e
def pV(i:Nat)(e ix:Xe ws)(hi:ws.contains i=I:=by exact ys rfl)(X:e.fz=I:=by exact ys rfl):Xd ws where
 m:=pT e.m (Io (ar i) ix.m)
 p:=gh i e.p ix.p
 fr:=I
 ok {q h L B O Z env s} c d:=by
  rcases CY (i:=i) (e:=e.p) (ix:=ix.p) (env:=env) (s:=s)with z|⟨v,s1,j,s2,U,n,e1,e2,e3,e4,z⟩
  .rw[z];trivial
  .rw[z];have l:i∈ws:=by simpa using hi
   have M:=e.ok c;rw[e1]at M;obtain⟨x,E,f1,r,C,_,W,_⟩:=M;have H:=c.kb r C;have G:=ix.ok H;rw[e2]at G;obtain⟨y,u,S,a,F,w,_,_⟩:=G;have R:=H.kb a F;obtain⟨f,xs,al,e0,Q,b1,b2,g,P⟩:=R.sr.ow i _ e3 l;cases e0;have hy:=w.int;subst hy;have em:ar i Z E=.ok (.loc f) E:=by simp[ar,Q]
   have nx:=nV R d l e3 Q (xs':=xs.set n x) (ds':=U.set n v) (P.set n ((W X).mv (a.mv c.pO)));refine⟨Z,u.set f (.lst (xs.set n x)),?_,nx.after ((r.trans a).stp c)⟩;have e5:pS (.loc f) (.int j) x u=J (u.set f (.lst (xs.set n x))):=by simp only[pS,g];rw[P.length,e4];rfl
   have e6:Io (ar i) ix.m x Z E=.nx Z (u.set f (.lst (xs.set n x))):=by simp only[Io,zi,em,S,e5]
   delta pT zi;rw[f1];dsimp only;rw[e6]
def PS.fin(r:PS):PR D:=match r with
 |.nx _ s=>.ok .non s
 |.rt d s=>.ok d s
 |.exc c _ s=>.exc c s
 |.rse c _ s=>.exc c s
 |_=>.bad
@[simp]theorem fin_nx:(PS.nx e s).fin=.ok .non s:=rfl
@[simp]theorem bY:(PS.rt d s).fin=.ok d s:=rfl
@[simp]theorem fin_exc:(PS.exc c e s).fin=.exc c s:=rfl
@[simp]theorem fin_rse:(PS.rse c e s).fin=.exc c s:=rfl
@[simp]theorem Rj:PS.bad.fin=.bad:=rfl
def i_(n:Nat)(a:WR):az:=a.map J++List.replicate (n-a.length) Y
def bB(n B:Nat)(b:Xd ws)(P:ws.all (λi=>decide (B<=i))=I:=by exact ys rfl):Fn where
 m:=d3 n B b.m
 p:=λu s=>if u.length=B then(b.p (i_ n u) s).fin else .bad
 fr:=b.fr
 ok {q h O vs u s} bd H pn r:=by
  by_cases L:u.length=B
  .rw[c_ L];have hv:vs.length=B:=by rw[r.length];exact L
   have low:∀i d,(i_ n u)[i]?=J (J d)->i<B/\u[i]?=J d:=λi d e=>by
    by_cases z:i<u.length
    .refine⟨⋯,?_⟩;unfold i_ at e;rw[q7 (by simpa using z)]at e;simp at e;simpa using e
    .unfold i_ at e;rw[Eb (by simpa using z)]at e;by_cases y:i-(u.map J).length<n-u.length
     .simp[Mz,y]at e
     .simp at y e;exact absurd e (by simp[Mz])
   have Q:∀i d,(i_ n u)[i]?=J (J d)->i∉ws:=λi d e F=>by
    have:=(low i d e).1
    rw[QO]at P
    have:=P i F
    simp at this;lia
   have c:Cx q h h.length O O ws (bZ n vs) (i_ n u) s:=by refine⟨bd,λ_ h=>h,bd,H,i4 _,pn,⟨by simp[bZ,i_,r.length],λi d e _=>?_,λi d e F=>absurd F (Q i d e)⟩⟩;obtain⟨v,R,S⟩:=r.get (low i d e).2;refine⟨v,?_,S⟩;delta bZ;rw[q7 (by simpa using(kx.mp R).1)];simp[R]
   have k:=b.ok c λi j F _ _ d _ _ e=>absurd F (Q i d e)
   have em:d3 n B b.m vs h=(match b.m (bZ n vs) h with
    |.nx _ a=>.ok .non a
    |.rt v a=>.ok v a
    |.exc x _ a=>.exc x a
    |.rse x _ a=>.exc x a
    |_=>.bad):=by delta d3;(rw[c_ hv])<;>(cases b.m (bZ n vs) h<;>rfl)
   rw[em];have kb:∀{a G},Stp q h.length h O a G->KB q h a:=λst=>⟨st.len,λm U H=>st.base m U H⟩
   cases e:b.p (i_ n u) s with
   |nx e1 C=>rw[e]at k;obtain⟨M,a,f,G,st,E,_⟩:=k;rw[f];exact⟨.non,a,rfl,kb st,E.pen,rfl,λ_ u e=>by cases e⟩
   |exc x e1 C=>rw[e]at k;obtain⟨M,a,f,G,st,E,_⟩:=k;rw[f];exact⟨a,rfl,kb st,E.pen⟩
   |rse x e1 C=>rw[e]at k;obtain⟨M,a,f,G,st,E,_⟩:=k;rw[f];exact⟨a,rfl,kb st,E.pen⟩
   |rt x C=>rw[e]at k;obtain⟨v,a,f,l,b,p,W,X⟩:=k;rw[f];exact⟨v,a,rfl,⟨l,b⟩,p,W,X⟩
   |bk e1 C=>trivial
   |ct e1 C=>trivial
   |bad=>trivial
  .rw[f_ L];trivial
def IL(m:WL->MH->WZ):Fn where
 m:=m
 p:=λ_ _=>.bad
 fr:=I
 ok _ _ _ _:=trivial
end
end PU
namespace PU
open MM SetT SortT
open L2 (qp l0 jE)
noncomputable section
section
variable{q:Nat}{h:MH}{L:Nat}{O:WQ}{v:PV}
def Vw.non(w:Vw q h L O .non v):v=.non:=by
 rcases w with r|⟨n,xs,a,e,_⟩
 .exact r
 .cases e
def Vw.str(w:Vw q h L O (.str x) v):v=.str x:=by
 rcases w with r|⟨n,xs,a,e,_⟩
 .exact r
 .cases e
inductive Vu(h:MH)(P:WL->Prop)(v:PV):Prop
 |mk(n:Nat)(xs:WL)(e:v=.loc n)(g:h[n]?=J (.lst xs))(r:P xs):Vu h P v
def Vw.lst(w:Vw q h L O (.lst ds) v):Vu h (Rps q h O ds) v:=by
 rcases w with⟨n,xs,e,_,g,r⟩|⟨n,xs,a,e,e1,_,_,g,r⟩
 .exact⟨n,xs,e,g,r⟩
 .cases e;exact⟨n,xs,e1,g,r⟩
def Vw.tup(w:Vw q h L O (.tup ds) v):To (Rps q h O ds) v:=by
 rcases w with r|⟨n,xs,a,e,_⟩
 .exact r
 .cases e
def M_(r:Rp q h O d v)(hf:fr=I->∀a,d≠.lst a):Gv q h O fr (.ok v h) d :=
 ⟨v,[],by simp,by simpa using r,λz a e=>absurd e (hf z a)⟩
def Ez:Gv q h O fr (.ok (.int i) h) (.int i):=M_ rfl λ_ _ e=>by cases e
def x_:Gv q h O fr (.ok (.bl i) h) (.bl i):=M_ rfl λ_ _ e=>by cases e
def e9(w:Vws q h L O [d] vs):∃x,vs=[x]/\Vw q h L O d x:=by
 obtain⟨x,r,e,a,b⟩:=w
 have:r=[]:=b
 subst this;exact⟨x,e,a⟩
def G3(w:Vws q h L O [d,d'] vs):∃x y,vs=[x,y]/\Vw q h L O d x/\Vw q h L O d' y:=by obtain⟨x,r,e,a,b⟩:=w;obtain⟨y,rfl,c⟩:=e9 b;exact⟨x,y,e,a,c⟩
end
def vS(m:PV->PV->MH->WZ)(f:Int->Int->D)(g:Int->Int->PV)(r:∀i j h,m (.int i) (.int j) h=.ok (g i j) h)(l:∀i j q h O fr,Gv q h O fr (.ok (g i j) h) (f i j)):zo where
 m:=m
 p:=λa b=>match a,b with
  |.int i,.int j=>J (f i j)
  |_,_=>Y
 fr:=I
 ok {q h L O a x b y d} bd wa wb e:=by
  cases a with
  |int i =>
   cases b with
   |int j=>cases e;rw[wa.int,wb.int,r];exact l i j q h O I
   |_=>cases e
  |_=>cases e
def eL:zo:=vS E1 (λi j=>.int (i-j)) (λi j=>.int (i-j)) (λ_ _ _=>rfl) λ_ _ _ _ _ _=>Ez
def B_:zo:=vS EZ (λi j=>.bl (decide (i<j))) (λi j=>.bl (decide (i<j))) (λ_ _ _=>rfl) λ_ _ _ _ _ _=>x_
def Tr:zo:=vS Ki (λi j=>.bl (decide (i<=j))) (λi j=>.bl (decide (i<=j))) (λ_ _ _=>rfl) λ_ _ _ _ _ _=>x_
def G4:zo:=vS E0 (λi j=>.bl (decide (j<i))) (λi j=>.bl (decide (j<i))) (λ_ _ _=>rfl) λ_ _ _ _ _ _=>x_
def Tt:zo:=vS EI (λi j=>.bl (decide (j<=i))) (λi j=>.bl (decide (j<=i))) (λ_ _ _=>rfl) λ_ _ _ _ _ _=>x_
def aQ:zo where
 m:=k4
 p:=λa b=>match a,b with
  |.int i,.int j=>J (.int (i+j))
  |.lst x,.lst y=>if x.length+y.length<=100000 then J (.lst (x++y))else Y
  |.tup (a::x),.tup y=>if x.length+1+y.length<=100000 then J (.tup (a::x++y))else Y
  |_,_=>Y
 fr:=I
 ok {q h L O a x b y d} bd wa wb e:=by
  cases a with
  |int i =>
   cases b with
   |int j=>cases e;rw[wa.int,wb.int];exact Ez
   |_=>cases e
  |lst x =>
   cases b with
   |lst y =>
    dsimp only at e;by_cases z:x.length+y.length<=100000
    .rw[c_ z]at e;cases e;obtain⟨n,xs,rfl,g,r⟩:=wa.lst;obtain⟨l,ys,rfl,u,f⟩:=wb.lst;show Gv q h O I (match h[n]?,h[l]? with|some (.lst xs),J (.lst ys)=>pq (xs++ys) h|_,_=>.bad) _;rw[g,u];exact oH bd (r.app f) (by simpa using z)
    .rw[f_ z]at e;cases e
   |_=>cases e
  |tup x =>
   cases x with
   |nil=>cases b<;>cases e
   |cons a x =>
    cases b with
    |tup y =>
     dsimp only at e;by_cases z:x.length+1+y.length<=100000
     .rw[c_ z]at e;cases e;obtain⟨xs,rfl,r⟩:=wa.tup;obtain⟨ys,rfl,f⟩:=wb.tup;have ne:xs≠[]:=λz=>by have:=r.length;simp[z]at this
      show Gv q h O I (if xs≠[]then wx (xs++ys) h else .bad) _;rw[c_ ne];exact xz (r.app f) (by simp;lia)
     .rw[f_ z]at e;cases e
    |_=>cases e
  |_=>cases e
def Rps.rep(r:Rps q h O ds xs):∀n,Rps q h O (List.replicate n ds).flatten (List.replicate n xs).flatten
 |0=>rfl
 |n+1=>by
  exact r.app (Rps.rep r n)
def pH:zo where
 m:=j3
 p:=λa b=>match a,b with
  |.int i,.int j=>if IntMulOk i j then J (.int (i*j))else Y
  |.lst x,.int j=>if(0<=j/\j<=1000)/\((List.replicate j.toNat x).flatten).length<=100000 then J (.lst (List.replicate j.toNat x).flatten)else Y
  |_,_=>Y
 fr:=I
 ok {q h L O a x b y d} bd wa wb e:=by
  cases a with
  |int i =>
   cases b with
   |int j =>
    dsimp only at e;by_cases z:IntMulOk i j
    .rw[c_ z]at e;cases e;rw[wa.int,wb.int];show Gv q h O I (if IntMulOk i j then .ok (.int (i*j)) h else .bad) _;rw[c_ z];exact Ez
    .rw[f_ z]at e;cases e
   |_=>cases e
  |lst x =>
   cases b with
   |int j =>
    dsimp only at e;by_cases z:(0<=j/\j<=1000)/\((List.replicate j.toNat x).flatten).length<=100000
    .rw[c_ z]at e;cases e;obtain⟨n,xs,rfl,g,r⟩:=wa.lst;rw[wb.int];show Gv q h O I (match h[n]? with|some (.lst xs)=>if -(2^63)<=j/\j<2^63 then pq (List.flatten (List.replicate j.toNat xs)) h else .bad|_=>.bad) _;rw[g];dsimp only;rw[c_ ⋯];exact oH bd (r.rep _) z.2
    .rw[f_ z]at e;cases e
   |_=>cases e
  |_=>cases e
def vd:zo where
 m:=lf
 p:=λa b=>match a,b with
  |.int i,.int j=>if j≠0 then J (.int (i.fmod j))else Y
  |_,_=>Y
 fr:=I
 ok {q h L O a x b y d} bd wa wb e:=by
  cases a with
  |int i =>
   cases b with
   |int j =>
    dsimp only at e;by_cases z:j≠0
    .rw[c_ z]at e;cases e;rw[wa.int,wb.int];show Gv q h O I (if j≠0 then .ok (.int (i.fmod j)) h else .bad) _;rw[c_ z];exact Ez
    .rw[f_ z]at e;cases e
   |_=>cases e
  |_=>cases e
def il:zo where
 m:=bG
 p:=λa b=>match a,b with
  |.lst x,.int j=>l0 x j
  |.tup x,.int j=>l0 x j
  |_,_=>Y
 fr:=T
 ok {q h L O a x b y d} bd wa wb e:=by
  have at':∀{f:WR}{xs:WL}{j:Int},Rps q h O f xs->l0 f j=J d->∃v,l0 xs j=J v/\Rp q h O d v:=λ{f xs j} r e=>by
   unfold l0 at e ⊢;rw[r.length]
   cases e1:qp f.length j with
   |none=>rw[e1]at e;cases e
   |some k=>rw[e1]at e;exact r.get e
  cases b with
  |int j =>
   rw[wb.int]
   cases a with
   |lst f =>
    obtain⟨n,xs,rfl,g,r⟩:=wa.lst;obtain⟨v,e1,i⟩:=at' r e;show Gv q h O T (match h[n]? with|some (.lst xs)=>(match l0 xs j with|some v=>.ok v h|none=>.bad)|_=>.bad) _;rw[g];dsimp only;rw[e1];exact M_ i λz=>by cases z
   |tup f =>
    obtain⟨xs,rfl,r⟩:=wa.tup;obtain⟨v,e1,i⟩:=at' r e;show Gv q h O T (match l0 xs j with|some v=>.ok v h|none=>.bad) _;rw[e1];exact M_ i λz=>by cases z
   |_=>cases e
  |_=>cases a<;>cases e
def z9(f:Bool):zo where
 m:=Kj f
 p:=λa b=>match b with
  |.non=>(match a with
   |.non=>J (.bl (!f))
   |_=>J (.bl f))
  |.bl b=>(match a with
   |.bl c=>J (.bl (if f then !(c==b)else c==b))
   |.non=>J (.bl f)
   |.int _=>J (.bl f)
   |.str _=>J (.bl f)
   |.tup _=>J (.bl f)
   |_=>Y)
  |_=>Y
 fr:=I
 ok {q h L O a x b y d} bd wa wb e:=by
  have loc:∀{a:D}{x:PV},Vw q h L O a x->(∃i,a=.lst i)\/a=.dic\/(∃c,a=.exc c)\/a=.pen->∃n,x=.loc n:=λ{a x} w z=>by
   rcases w with r|⟨n,xs,i,e,e1,_⟩
   .rcases z with⟨i,rfl⟩|rfl|⟨c,rfl⟩|rfl
    .obtain⟨n,_,e,_⟩:=r;exact⟨n,e⟩
    .obtain⟨n,e,_⟩:=r;exact⟨n,e⟩
    .obtain⟨n,e,_⟩:=r;exact⟨n,e⟩
    .exact⟨q,r⟩
   .exact⟨n,e1⟩
  cases b with
  |non =>
   rw[wb.non]
   cases a with
   |non=>cases e;rw[wa.non];exact x_
   |bl c=>cases e;rw[wa.bl];exact x_
   |int c=>cases e;rw[wa.int];exact x_
   |str c=>cases e;rw[wa.str];exact x_
   |tup c=>cases e;obtain⟨xs,rfl,_⟩:=wa.tup;exact x_
   |lst c=>cases e;obtain⟨n,rfl⟩:=loc wa (.inl ⟨_,rfl⟩);exact x_
   |dic=>cases e;obtain⟨n,rfl⟩:=loc wa (.inr (.inl rfl));exact x_
   |exc c=>cases e;obtain⟨n,rfl⟩:=loc wa (.inr (.inr (.inl ⟨_,rfl⟩)));exact x_
   |pen=>cases e;obtain⟨n,rfl⟩:=loc wa (.inr (.inr (.inr rfl)));exact x_
  |bl b =>
   rw[wb.bl]
   cases a with
   |non=>cases e;rw[wa.non];exact x_
   |bl c=>cases e;rw[wa.bl];exact x_
   |int c=>cases e;rw[wa.int];exact x_
   |str c=>cases e;rw[wa.str];exact x_
   |tup c=>cases e;obtain⟨xs,rfl,_⟩:=wa.tup;exact x_
   |_=>cases e
  |_=>cases e
mutual
def py:D->Option PyData
 |.non=>J .none
 |.bl b=>J (.bool b)
 |.int i=>J (.int i)
 |.str x=>J (.str x)
 |.tup a=>(EA a).map .tuple
 |.lst a=>(EA a).map .list
 |_=>Y
def EA:WR->Option (List PyData)
 |[]=>J []
 |d::a=>match py d,EA a with
  |some x,J xs=>J (x::xs)
  |_,_=>Y
end
mutual
def zI:D->Nat
 |.tup a=>1+se a
 |.lst a=>1+se a
 |_=>0
def se:WR->Nat
 |[]=>0
 |d::a=>max (zI d) (se a)
end
def xX(d:D):(∀(v:PV)(e:PyData)(n:Nat),Rp q h O d v->py d=J e->zI d<=n->rd n h v=J e):=by
 refine D.rec (motive_1:=λd=>∀(v:PV)(e:PyData)(n:Nat),Rp q h O d v->py d=J e->zI d<=n->rd n h v=J e)
  (motive_2:=λf=>∀(l:WL)(i:List PyData)(n:Nat),Rps q h O f l->EA f=J i->se f<=n->de (rd n h) l=J i)
  (λv _ n r e _=>?_) (λb v _ n r e _=>?_) (λb v _ n r e _=>?_) (λb v _ n r e _=>?_) (λf u v e n r j hd=>?_) (λf u v e n r j hd=>?_) (λ_ _ _ _ e _=>?_) (λ_ _ _ _ _ e _=>?_) (λ_ _ _ _ e _=>?_)
  (λl i n r e _=>?_) (λd f C z l i n r e hd=>?_) d
 .rw[show v=PV.non from r];cases e;cases n<;>rfl
 .rw[show v=PV.bl b from r];cases e;cases n<;>rfl
 .rw[show v=PV.int b from r];cases e;cases n<;>rfl
 .rw[show v=PV.str b from r];cases e;cases n<;>rfl
 .obtain⟨xs,ex,r⟩:=r;subst ex;rw[py,tr]at j;obtain⟨i,e1,rfl⟩:=j;rw[zI]at hd
  cases n with
  |zero=>lia
  |succ n=>simp only[rd];rw[u _ _ n r e1 ⋯];rfl
 .obtain⟨m,xs,ex,_,g,r⟩:=r;subst ex;rw[py,tr]at j;obtain⟨i,e1,rfl⟩:=j;rw[zI]at hd
  cases n with
  |zero=>lia
  |succ n=>simp only[rd,g];rw[u _ _ n r e1 ⋯];rfl
 .simp[py]at e
 .simp[py]at e
 .simp[py]at e
 .rw[show l=[]from r];rw[EA]at e;cases e;rfl
 .obtain⟨x,t,ex,a,b⟩:=r;subst ex;rw[se]at hd;rw[EA]at e
  cases e1:py d with
  |none=>rw[e1]at e;cases e
  |some y =>
   cases e2:EA f with
   |none=>rw[e1,e2]at e;cases e
   |some ys =>
    rw[e1,e2]at e;cases e;have E:=C _ _ n a e1 ⋯;have B:=z _ _ n b e2 ⋯;simp only[de,E,B]
def OY(r:Rp q h O d v)(a:py d=J e)(hd:zI d<=n):rd n h v=J e:=xX d v e n r a hd
def BR(r:Rps q h O ds vs)(a:EA ds=J es)(hd:se ds<=n):de (rd n h) vs=J es:=by
 have:=xX (.tup ds) (.tup vs) (.tuple es) (n+1) (⟨vs,rfl,r⟩) (by rw[py,a];rfl) (by rw[zI];lia)
 simp only[rd]at this
 simp_all
def qj(w:Vw q h L O d v)(a:py d=J e)(hd:zI d<=60):rd 60 h v=J e:=by
 rcases w with r|⟨n,xs,j,rfl,rfl,_,_,g,r⟩
 .exact OY r a hd
 .rw[py,tr]at a;obtain⟨i,e1,rfl⟩:=a;rw[zI]at hd;have f:=BR (n:=59) r e1 ⋯;show(match h[n]? with|some (.lst xs)=>(de (rd 59 h) xs).map PyData.list|_=>Y)=_;rw[g];dsimp only;rw[f];rfl
def Cv(f:Bool)(a b:D):WC:=match py a,py b with
 |some x,J y=>if(zI a<=60/\zI b<=60)/\SeqAt.shaped x=I/\SeqAt.shaped y=I then J (.bl (if f then !PyData.eqv x y else PyData.eqv x y))else Y
 |_,_=>Y
def oO(e:Cv neg a b=J d):∃x y,py a=J x/\py b=J y/\(zI a<=60/\zI b<=60)/\(SeqAt.shaped x=I/\SeqAt.shaped y=I)/\d=.bl (if neg then !PyData.eqv x y else PyData.eqv x y):=by
 unfold Cv at e
 cases e1:py a with
 |none=>rw[e1]at e;cases e
 |some x =>
  cases e2:py b with
  |none=>rw[e1,e2]at e;cases e
  |some y =>
   simp_all
def o_:zo where
 m:=r_
 p:=Cv T
 fr:=I
 ok {q h L O a x b y d} bd wa wb e:=by obtain⟨u,w,e1,e2,hd,f,rfl⟩:=oO e;delta r_;rw[qj wa e1 hd.1,qj wb e2 hd.2];dsimp only;rw[c_ f];exact x_
def EV:zo where
 m:=Ei
 p:=Cv I
 fr:=I
 ok {q h L O a x b y d} bd wa wb e:=by obtain⟨u,w,e1,e2,hd,f,rfl⟩:=oO e;delta Ei;rw[qj wa e1 hd.1,qj wb e2 hd.2];dsimp only;rw[c_ f];exact x_
def Vw.seqOf(w:Vw q h L O d v)(e:d.items=J ds):∃xs,MM.bX h v=J xs/\Rps q h O ds xs:=by
 cases d with
 |lst a=>cases e;obtain⟨n,xs,rfl,g,r⟩:=w.lst;exact⟨xs,by simp[MM.bX,g],r⟩
 |tup a=>cases e;obtain⟨xs,rfl,r⟩:=w.tup;exact⟨xs,rfl,r⟩
 |_=>cases e
def Ll(f:Bool)(a b:D):WC:=match b.items with
 |some i=>(match py a,EA i with
  |some x,J ys=>if(zI a<=60/\se i<=60)/\x.canLay0=I/\PyData.canLayAll0 ys=I then J (.bl (if f then !ys.any (λe=>PyData.eqv e x)else ys.any (λe=>PyData.eqv e x)))else Y
  |_,_=>Y)
 |none=>Y
def n3(f:Bool):zo where
 m:=Gm f
 p:=Ll f
 fr:=I
 ok {q h L O a x b y d} bd wa wb e:=by
  unfold Ll at e
  cases i:b.items with
  |none=>rw[i]at e;cases e
  |some j =>
   rw[i]at e;dsimp only at e
   cases e1:py a with
   |none=>rw[e1]at e;cases e
   |some u =>
    cases e2:EA j with
    |none=>rw[e1,e2]at e;cases e
    |some l =>
     rw[e1,e2]at e;dsimp only at e;by_cases z:(zI a<=60/\se j<=60)/\u.canLay0=I/\PyData.canLayAll0 l=I
     .rw[c_ z]at e;cases e;obtain⟨xs,B,r⟩:=wb.seqOf i;delta Gm;rw[B,qj wa e1 z.1.1];dsimp only;rw[BR r e2 z.1.2];dsimp only;rw[c_ z.2];exact x_
     .rw[f_ z]at e;cases e
end
noncomputable section
def nj:Ri where
 m:=E2
 p:=λa=>match a with
  |.int i=>J (.int (-i))
  |_=>Y
 fr:=I
 ok {q h L O a x d} bd w e:=by
  cases a with
  |int i=>cases e;rw[w.int];exact Ez
  |_=>cases e
def Fo:D->Option String
 |.non=>J "NoneType"
 |.bl _=>J "bool"
 |.int _=>J "int"
 |.str _=>J "str"
 |.tup _=>J "tuple"
 |.lst _=>J "list"
 |.dic=>J "dict"
 |_=>Y
def OZ(w:Vw q h L O d v)(e:Fo d=J t):Iz h v=J t:=by
 cases d with
 |non=>cases e;rw[w.non];rfl
 |bl b=>cases e;rw[w.bl];rfl
 |int b=>cases e;rw[w.int];rfl
 |str b=>cases e;rw[w.str];rfl
 |tup b=>cases e;obtain⟨xs,rfl,_⟩:=w.tup;rfl
 |lst b=>cases e;obtain⟨n,xs,rfl,g,_⟩:=w.lst;simp[Iz,g]
 |dic =>
  cases e;rcases w with⟨n,rfl,_,g⟩|⟨n,xs,a,e,_⟩
  .simp[Iz,g]
  .cases e
 |_=>cases e
def cu(f:List String):Ri where
 m:=nR f
 p:=λa=>(Fo a).map λt=>.bl (f.any (c7 t))
 fr:=I
 ok {q h L O a x d} bd w e:=by rw[tr]at e;obtain⟨t,e1,rfl⟩:=e;delta nR;rw[OZ w e1];exact x_
def Vv(f:WL->MH->WZ)(g:Int->Int->Int)(hf:∀i j h,f [.int i,.int j] h=.ok (.int (g i j)) h):C_ where
 k:=λxs h=>(f xs h).ne
 p:=λl=>match l with
  |[.int i,.int j]=>J (.int (g i j))
  |_=>Y
 fr:=I
 ok {q h L O l xs d} bd w e:=by
  match l,e with
  |[.int i,.int j],e =>
   cases e;obtain⟨x,y,rfl,a,b⟩:=G3 w;rw[a.int,b.int,hf];exact Ez
def jf:C_:=Vv CO (λi j=>if j<i then j else i) λ_ _ _=>rfl
def nS:C_:=Vv E3 (λi j=>if j>i then j else i) λ_ _ _=>rfl
def pJ:C_ where
 k:=λxs h=>(F6 xs h).ne
 p:=λf=>match f with
  |[.int i]=>J (.int i)
  |[.bl b]=>J (.int (if b then 1 else 0))
  |_=>Y
 fr:=I
 ok {q h L O f xs d} bd w e:=by
  match f,e with
  |[.int i],e=>cases e;obtain⟨x,rfl,a⟩:=e9 w;rw[a.int];exact Ez
  |[.bl i],e=>cases e;obtain⟨x,rfl,a⟩:=e9 w;rw[a.bl];exact Ez
def bV:C_ where
 k:=λxs h=>(p6 xs h).ne
 p:=λi=>match i with
  |[.lst f]=>J (.int f.length)
  |[.tup f]=>J (.int f.length)
  |[.str x]=>if x.length<=sizeLine then J (.int x.length)else Y
  |_=>Y
 fr:=I
 ok {q h L O i xs d} bd w e:=by
  match i,e with
  |[.lst f],e =>
   cases e;obtain⟨x,rfl,a⟩:=e9 w;obtain⟨n,ys,rfl,g,r⟩:=a.lst;simp only[p6,g];rw[r.length];exact Ez
  |[.tup f],e =>
   cases e;obtain⟨x,rfl,a⟩:=e9 w;obtain⟨ys,rfl,r⟩:=a.tup;simp only[p6];rw[r.length];exact Ez
  |[.str x],e =>
   dsimp only at e;by_cases z:x.length<=sizeLine
   .rw[c_ z]at e;cases e;obtain⟨x,rfl,a⟩:=e9 w;rw[a.str];simp only[p6];rw[c_ z];exact Ez
   .rw[f_ z]at e;cases e
def zy:C_ where
 k:=λxs h=>(Es xs h).ne
 p:=λi=>match i with
  |[d]=>d.items.bind λf=>if f.length<=100000 then J (.lst f)else Y
  |_=>Y
 fr:=I
 ok {q h L O i xs d} bd w e:=by
  match i,e with
  |[a],e =>
   obtain⟨x,rfl,j⟩:=e9 w;rw[ED]at e;obtain⟨f,e1,e2⟩:=e;obtain⟨xs,e3,r⟩:=j.seqOf e1;by_cases z:f.length<=100000
   .rw[c_ z]at e2;cases e2;obtain⟨v,g,e4,u,l⟩:=oH bd r z;exact⟨v,g,by simp only[Es,e3];rw[e4];rfl,u,l⟩
   .rw[f_ z]at e2;cases e2
def kY:C_ where
 k:=λxs h=>(CT xs h).ne
 p:=λf=>match f with
  |[d]=>d.items.map .tup
  |_=>Y
 fr:=I
 ok {q h L O f xs d} bd w e:=by
  match f,e with
  |[a],e =>
   obtain⟨x,rfl,i⟩:=e9 w;rw[tr]at e;obtain⟨j,e1,rfl⟩:=e;obtain⟨xs,e3,r⟩:=i.seqOf e1;simp only[CT,e3];exact M_ ⟨xs,rfl,r⟩ λ_ _ e=>by cases e
def gZ:WR->Option (List Bool)
 |[]=>J []
 |.bl b::r=>(gZ r).map (b::·)
 |_=>Y
def BJ:∀{f:WR}{xs:WL}{bs:List Bool},Rps q h O f xs->gZ f=J bs->o9 xs=J bs
 |[],_,_,r,e=>by rw[show _=[]from r];cases e;rfl
 |d::f,_,bs,⟨x,t,ex,a,b⟩,e=>by
  subst ex
  cases d with
  |bl c =>
   rw[show x=PV.bl c from a];rw[gZ,tr]at e;obtain⟨i,e1,rfl⟩:=e;rw[o9,BJ b e1];rfl
  |_=>cases e
def kM:C_ where
 k:=λxs h=>(Gr xs h).ne
 p:=λf=>match f with
  |[d]=>(d.items.bind gZ).map λbs=>.bl (bs.all id)
  |_=>Y
 fr:=I
 ok {q h L O f xs d} bd w e:=by
  match f,e with
  |[a],e =>
   obtain⟨x,rfl,i⟩:=e9 w;rw[tr]at e;obtain⟨bs,e1,rfl⟩:=e;rw[ED]at e1;obtain⟨j,e1,e2⟩:=e1;obtain⟨xs,e3,r⟩:=i.seqOf e1;simp only[Gr,e3,Aa,BJ r e2];exact x_
def bR:WR->Option (WN)
 |[]=>J []
 |.int b::r=>(bR r).map (b::·)
 |_=>Y
def gc:∀{f:WR}{xs:WL}{bs:WN},Rps q h O f xs->bR f=J bs->xs=bs.map .int
 |[],_,_,r,e=>by rw[show _=[]from r];cases e;rfl
 |d::f,_,bs,⟨x,t,ex,a,b⟩,e=>by
  subst ex
  cases d with
  |int c =>
   rw[show x=PV.int c from a];rw[bR,tr]at e;obtain⟨i,e1,rfl⟩:=e;rw[gc b e1];rfl
  |_=>cases e
def sX:∀(bs:WN),iC (bs.map .int)=J bs
 |[]=>rfl
 |b::bs=>by rw[oI,iC,sX bs];rfl
def tz:∀(bs:WN),kF (bs.map .int)=J bs
 |[]=>rfl
 |b::bs=>by rw[oI,kF,tz bs];rfl
def iF:∀(bs:WN),dP (bs.map .int)=J bs
 |[]=>rfl
 |b::bs=>by rw[oI,dP,iF bs];rfl
def uG(f:WL->MH->WZ)(c:WN->Nat->Nat->Bool)(g:Int->Int->Int)(hf:∀l x h,(bX h x).bind iC=J l->0<l.length->f [x] h=.ok (.int (oi (c l) l)) h)(B:∀i j h,f [.int i,.int j] h=.ok (.int (g i j)) h):C_ where
 k:=λxs h=>(f xs h).ne
 p:=λu=>match u with
  |[d]=>(d.items.bind bR).bind λl=>if 0<l.length then J (.int (oi (c l) l))else Y
  |[.int i,.int j]=>J (.int (g i j))
  |_=>Y
 fr:=I
 ok {q h L O u xs d} bd w e:=by
  match u,e with
  |[a],e =>
   obtain⟨x,rfl,C⟩:=e9 w;rw[ED]at e;obtain⟨l,e1,e2⟩:=e;rw[ED]at e1;obtain⟨E,e1,e3⟩:=e1;obtain⟨xs,e4,r⟩:=C.seqOf e1;by_cases z:0<l.length
   .rw[c_ z]at e2;cases e2;show Gv q h O I (f [x] h).ne _;rw[hf l x h (by rw[e4,Aa,gc r e3];exact sX l) z];exact Ez
   .rw[f_ z]at e2;cases e2
  |[.int i,.int j],e =>
   cases e;obtain⟨x,y,rfl,a,b⟩:=G3 w;rw[a.int,b.int,B];exact Ez
def pZ:C_:=uG Et (λa i j=>decide (a.getD i 0>a.getD j 0)) (λi j=>if j>i then j else i) (λa x h e z=>by simp only[Et,e];rw[c_ z]) λi j h=>rfl
def re:C_:=uG Eu (λa i j=>decide (a.getD i 0<a.getD j 0)) (λi j=>if j<i then j else i) (λa x h e z=>by simp only[Eu,e];rw[c_ z]) λi j h=>rfl
def kD(k:WN):D:=.tup (k.map .int)
def gK:D->Option (WN)
 |.tup a=>bR a
 |_=>Y
def gQ:WR->Option (WP)
 |[]=>J []
 |d::f=>match gK d,gQ f with
  |some k,J a=>J (k::a)
  |_,_=>Y
def Lm(r:Rp q h O d v)(e:gK d=J k):v=kP k:=by
 cases d with
 |tup a=>obtain⟨xs,rfl,r⟩:=r;rw[gc r e];rfl
 |_=>cases e
def pR:∀{f:WR}{xs:WL}{i:WP},Rps q h O f xs->gQ f=J i->xs=i.map kP
 |[],_,_,r,e=>by rw[show _=[]from r];cases e;rfl
 |d::f,_,i,⟨x,t,ex,a,b⟩,e=>by
  subst ex;rw[gQ]at e
  cases e1:gK d with
  |none=>rw[e1]at e;cases e
  |some k =>
   cases e2:gQ f with
   |none=>rw[e1,e2]at e;cases e
   |some j =>
    rw[e1,e2]at e;cases e;rw[Lm a e1,pR b e2];rfl
def Ln(k:WN):Rh (kP k)=J k:=tz k
def m8:∀(a:WP),jW (a.map kP)=J a
 |[]=>rfl
 |k::a=>by rw[oI,jW,Ln,m8 a]
def ik:∀(bs:WN),Rps q h O (bs.map .int) (bs.map .int)
 |[]=>rfl
 |b::bs=>⟨_,_,rfl,rfl,ik bs⟩
def pr:∀(a:WP),Rps q h O (a.map kD) (a.map kP)
 |[]=>rfl
 |b::bs=>⟨_,_,rfl,⟨_,rfl,ik b⟩,pr bs⟩
def Vw.lstOf(w:Vw q h L O (.lst ds) v):∃xs,MM.df h v=J xs/\Rps q h O ds xs:=by obtain⟨n,xs,rfl,g,r⟩:=w.lst;exact⟨xs,by simp[MM.df,g],r⟩
def Rk(bd:Bd h O)(r:∀h O,Rps q h O ds xs):Gv q h O I (.ok (.loc h.length) (h++[.lst xs])) (.lst ds):=by
 have g:(h++[MO.lst xs])[h.length]?=J (.lst xs):=by simp
 exact⟨_,_,rfl,⟨_,_,rfl,λz=>by have:=bd _ z;ext,g,r _ _⟩,λ_ a e=>by cases e;exact⟨_,_,rfl,i4 _,g,r _ _⟩⟩
def uC(f:WR):Option (WR):=match bR f with
 |some ns=>if ns.length<64 then J ((fg ns).map .int)else Y
 |none=>(match gQ f with
  |some a=>if(∀k∈a,k≠[])/\a.length<=66 then J ((cE a).map kD)else Y
  |none=>Y)
def nW:C_ where
 k:=λxs h=>(j_ xs h).ne
 p:=λi=>match i with
  |[.lst f]=>(uC f).map .lst
  |_=>Y
 fr:=I
 ok {q h L O i xs d} bd w e:=by
  match i,e with
  |[.lst f],e =>
   obtain⟨x,rfl,u⟩:=e9 w;obtain⟨ys,l,r⟩:=u.lstOf;rw[tr]at e;obtain⟨B,e1,rfl⟩:=e;unfold uC at e1
   cases e2:bR f with
   |some ns =>
    rw[e2]at e1;dsimp only at e1;by_cases z:ns.length<64
    .rw[c_ z]at e1;cases e1
     have:j_ [x] h=.ok (.loc h.length) (h++[.lst ((fg ns).map .int)]):=by simp only[j_,l,gc r e2,iF];rw[c_ z]
     show Gv q h O I (j_ [x] h).ne _;rw[this];exact Rk bd λ_ _=>ik _
    .rw[f_ z]at e1;cases e1
   |none =>
    rw[e2]at e1;dsimp only at e1
    cases e3:gQ f with
    |none=>rw[e3]at e1;cases e1
    |some a =>
     rw[e3]at e1;dsimp only at e1;by_cases z:(∀k∈a,k≠[])/\a.length<=66
     .rw[c_ z]at e1;cases e1;have j:=pR r e3
      cases a with
      |nil =>
       have:f=[]:=by have:=r.length;rw[j]at this;simpa using this.symm
       subst this;cases e2
      |cons k a =>
       have:j_ [x] h=.ok (.loc h.length) (h++[.lst ((cE (k::a)).map kP)]):=by have y:dP ((k::a).map kP)=Y:=rfl;simp only[j_,l,j,y,m8];rw[c_ z]
       show Gv q h O I (j_ [x] h).ne _;rw[this];exact Rk bd λ_ _=>pr _
     .rw[f_ z]at e1;cases e1
def Rm:C_ where
 k:=λu i=>match u with
  |[x]=>(match (df i x).bind jW with
   |some a=>if(∀k∈a,k≠[])/\(m_ a).length<=66 then .ok (.loc i.length) (i++[.lst ((cE (m_ a)).map kP)])else .bad
   |none=>.bad)
  |_=>.bad
 p:=λf=>match f with
  |[.lst j]=>(gQ j).bind λa=>if(∀k∈a,k≠[])/\(m_ a).length<=66 then J (.lst ((cE (m_ a)).map kD))else Y
  |_=>Y
 fr:=I
 ok {q h L O f xs d} bd w e:=by
  match f,e with
  |[.lst j],e =>
   obtain⟨x,rfl,l⟩:=e9 w;obtain⟨ys,y,r⟩:=l.lstOf;rw[ED]at e;obtain⟨a,e1,e2⟩:=e;by_cases z:(∀k∈a,k≠[])/\(m_ a).length<=66
   .rw[c_ z]at e2;cases e2;simp only[y,Aa,pR r e1,m8];rw[c_ z];exact Rk bd λ_ _=>pr _
   .rw[f_ z]at e2;cases e2
def dg(lo:Int)(n:Nat):WR:=(List.range n).map λ(i:Nat)=>D.int (lo+(i:Int))
def rZ:Rps q h O (dg lo n) (bI lo n):=by
 have:=ik (q:=q) (h:=h) (O:=O) ((List.range n).map λ(i:Nat)=>lo+(i:Int))
 rw[CA,CA]at this;exact this
def Fp:C_ where
 k:=λl f=>match l with
  |[.int j]=>if -(2^62)<=j/\j<2^62/\j.toNat<=sizeLine then .ok (.loc f.length) (f++[.lst (bI 0 j.toNat)])else .bad
  |_=>.bad
 p:=λa=>match a with
  |[.int j]=>if -100000<=j/\j<=100000 then J (.lst (dg 0 j.toNat))else Y
  |_=>Y
 fr:=I
 ok {q h L O a xs d} bd w e:=by
  match a,e with
  |[.int j],e =>
   obtain⟨x,rfl,i⟩:=e9 w;rw[i.int];dsimp only at e;by_cases z:-100000<=j/\j<=100000
   .rw[c_ z]at e;cases e;dsimp only
    have:=f9
    rw[c_ ⟨by ext,by ext,by ext⟩];exact Rk bd λ_ _=>rZ
   .rw[f_ z]at e;cases e
def Fa:M7 where
 k:=λr i=>match r with
  |[.int j]=>if -(2^62)<=j/\j<2^62 then .ok ⟨bI 0 j.toNat,[]⟩ i else .bad
  |_=>.bad
 p:=λf=>match f with
  |[.int j]=>if -100000<=j/\j<=100000 then J (dg 0 j.toNat)else Y
  |_=>Y
 ok {q h L O f xs d} hq hO bd w e:=by
  match f,e with
  |[.int j],e =>
   obtain⟨x,rfl,l⟩:=e9 w;rw[l.int];dsimp only at e;by_cases z:-100000<=j/\j<=100000
   .rw[c_ z]at e;cases e;dsimp only;rw[c_ ⟨by ext,by ext⟩];exact⟨_,rfl,rZ,(λ_ a=>nomatch a),λ_ _ a=>nomatch a⟩
   .rw[f_ z]at e;cases e
def Fq:M7 where
 k:=λB l=>match B with
  |[.int i,.int j]=>if -(2^62)<=i/\i<2^62 /\ -(2^62)<=j/\j<2^62 then .ok ⟨bI i (j-i).toNat,[]⟩ l else .bad
  |_=>.bad
 p:=λf=>match f with
  |[.int i,.int j]=>if(-100000<=i/\i<=100000) /\ -100000<=j/\j<=100000 then J (dg i (j-i).toNat)else Y
  |_=>Y
 ok {q h L O f xs d} hq hO bd w e:=by
  match f,e with
  |[.int i,.int j],e =>
   obtain⟨x,y,rfl,r,u⟩:=G3 w;rw[r.int,u.int];dsimp only at e;by_cases z:(-100000<=i/\i<=100000) /\ -100000<=j/\j<=100000
   .rw[c_ z]at e;cases e;dsimp only;rw[c_ ⟨by ext,by ext,by ext,by ext⟩];exact⟨_,rfl,rZ,(λ_ a=>nomatch a),λ_ _ a=>nomatch a⟩
   .rw[f_ z]at e;cases e
def Vw.sqAny(j:q<L)(l:q∈O)(w:Vw q h L O d v)(e:d.items=J ds):∃t xs gd,MM.cF v h=J (t,xs,gd)/\Rps q h O ds xs/\(∀g∈gd,h[g.1]?=J (.lst g.2)/\g.1≠q)/\(Rp q h O d v->∀g∈gd,g.1∉O):=by
 obtain⟨xs,gd,e1,r,f,i⟩:=w.seq j l e
 cases d with
 |lst u =>
  cases e;obtain⟨n,ys,rfl,g,a⟩:=w.lst;simp only[p_,g]at e1;cases e1;exact⟨T,xs,[(n,xs)],by simp[MM.cF,g],a,f,i⟩
 |tup u =>
  cases e;obtain⟨ys,rfl,a⟩:=w.tup;cases e1;exact⟨I,_,[],rfl,a,f,i⟩
 |_=>cases e
def eR(a:WR):WR:=a.zipIdx.map λp=>.tup [.int (p.2:Int),p.1]
def rq(xs ys:WR):WR:=(xs.zip ys).map λp=>.tup [p.1,p.2]
def vk:∀{f:WR}{xs:WL}(n:Nat),Rps q h O f xs->Rps q h O ((f.zipIdx n).map λp=>.tup [.int (p.2:Int),p.1]) ((xs.zipIdx n).map λp=>.tup [.int (p.2:Int),p.1])
 |[],_,_,r=>by rw[show _=[]from r];rfl
 |d::f,_,n,⟨x,t,e,a,b⟩=>by
  subst e;exact⟨_,_,rfl,⟨_,rfl,⟨_,_,rfl,rfl,⟨_,_,rfl,a,rfl⟩⟩⟩,vk (n+1) b⟩
def xL:∀{f j:WR}{xs ys:WL},Rps q h O f xs->Rps q h O j ys->Rps q h O (rq f j) (kR xs ys)
 |[],_,_,_,r,_=>by rw[show _=[]from r];rfl
 |_::_,[],_,_,r,l=>by rw[show _=[]from l];simp[kR];rfl
 |d::f,e::j,_,_,⟨x,t,e1,a,b⟩,⟨z,B,i,u,y⟩=>by
  subst e1 i;exact⟨_,_,rfl,⟨_,rfl,⟨_,_,rfl,a,⟨_,_,rfl,u,rfl⟩⟩⟩,xL b y⟩
def iE:M7 where
 k:=λy i=>match y with
  |[x]=>(match cF x i with
   |some (_,xs,gd)=>.ok ⟨j8 xs,gd⟩ i
   |none=>.bad)
  |_=>.bad
 p:=λf=>match f with
  |[d]=>d.items.map eR
  |_=>Y
 ok {q h L O f xs d} hq hO bd w e:=by
  match f,e with
  |[a],e =>
   obtain⟨x,rfl,u⟩:=e9 w;rw[tr]at e;obtain⟨C,e1,rfl⟩:=e;obtain⟨t,ys,gd,e2,r,j,l⟩:=u.sqAny hq hO e1;refine⟨⟨j8 ys,gd⟩,by simp only[e2],vk 0 r,j,λz=>l ?_⟩;obtain⟨E,B,e3,a,_⟩:=z;cases e3;exact a
def iZ:M7 where
 k:=λR B=>match R with
  |[x,y]=>(match cF x B,cF y B with
   |some (_,xs,l),J (_,ys,u)=>.ok ⟨kR xs ys,l++u⟩ B
   |_,_=>.bad)
  |_=>.bad
 p:=λf=>match f with
  |[d,e]=>d.items.bind λxs=>e.items.map λys=>rq xs ys
  |_=>Y
 ok {q h L O f xs d} hq hO bd w e:=by
  match f,e with
  |[a,b],e =>
   obtain⟨x,y,rfl,Q,P⟩:=G3 w;rw[ED]at e;obtain⟨W,e1,e⟩:=e;rw[tr]at e;obtain⟨es,e2,rfl⟩:=e;obtain⟨t,ys,gd,M,r,l,u⟩:=Q.sqAny hq hO e1;obtain⟨t',E,F,j,H,i,G⟩:=P.sqAny hq hO e2;refine⟨⟨kR ys E,gd++F⟩,by simp only[M,j],xL r H,λg C=>?_,λz g C=>?_⟩
   .rcases ml.mp C with z|z
    .exact l g z
    .exact i g z
   .obtain⟨Z,H,e3,U,x2,X,e4,S,_⟩:=z;cases e3;cases e4;rcases ml.mp C with z|z
    .exact u U g z
    .exact G S g z
def kQ(xs:WR)(lo a:WW):WR:=(xs.drop (HT.k0 xs.length 0 lo)).take (HT.k0 xs.length xs.length a-HT.k0 xs.length 0 lo)
def xH(lo a:WW)(r:Rps q h O ds xs):Rps q h O (kQ ds lo a) (ic xs lo a):=by delta kQ ic;rw[r.length];exact(r.drop _).take _
structure Xo(ws:WQ) where
 m:Mx (WW)
 p:az->g_->PR (WW)
 ok:∀{q h L B O Z env s},Cx q h L B O ws Z env s->Ok q h (m Z h) (p env s) (λ_ a b=>a=b)
section
variable{ws:WQ}
def yv:Xo ws where
 m:=UZ
 p:=λ_ s=>.ok Y s
 ok {q h L B O Z env s} c:=⟨Y,h,rfl,KB.refl _ _,c.pen,rfl⟩
def yI(e:Xe ws):Xo ws where
 m:=U3 e.m
 p:=λenv s=>(e.p env s).bind λd s=>match d with
  |.int i=>.ok (J i) s
  |_=>.bad
 ok {q h L B O Z env s} c:=by
  refine(e.ok c).bind λx v a j l f ⟨w,_,_⟩=>?_
  cases x with
  |int i=>rw[w.int];exact⟨J i,a,rfl,KB.refl _ _,f,rfl⟩
  |_=>trivial
def Na(d:D)(lo f:WW):WC:=match d with
 |.lst a=>J (.lst (kQ a lo f))
 |.tup a=>if HT.k0 a.length 0 lo=0/\HT.k0 a.length a.length f=a.length then Y else J (.tup (kQ a lo f))
 |_=>Y
def O0(bd:Bd h O)(w:Vw q h L O a x)(e:Na a lo hi=J d):Gv q h O I (Kt x lo hi h) d:=by
 cases a with
 |lst f =>
  cases e;obtain⟨n,xs,rfl,g,r⟩:=w.lst;simp only[Kt,g];have r:=xH lo hi r;have m:Mv O h O (h++[MO.lst (ic xs lo hi)]):=⟨λn j _=>q7 j,λo i=>.inl i⟩
  have u:Mv O h (h.length::O) (h++[MO.lst (ic xs lo hi)]):=⟨λn j _=>q7 j,λo i=>by
   rcases lb.mp i with z|z
   .exact .inr (by ext)
   .exact .inl z⟩
  have g:(h++[MO.lst (ic xs lo hi)])[h.length]?=J (.lst (ic xs lo hi)):=by simp
  exact⟨_,_,rfl,⟨_,_,rfl,λz=>by have:=bd _ z;ext,g,r.mv m⟩,λ_ l e=>by cases e;exact⟨_,_,rfl,i4 _,g,r.mv u⟩⟩
 |tup f =>
  unfold Na at e;dsimp only at e;by_cases z:HT.k0 f.length 0 lo=0/\HT.k0 f.length f.length hi=f.length
  .rw[c_ z]at e;cases e
  .rw[f_ z]at e;cases e;obtain⟨xs,rfl,r⟩:=w.tup;simp only[Kt];rw[r.length,f_ z];exact M_ ⟨_,rfl,xH lo hi r⟩ λ_ _ e=>by cases e
 |_=>cases e
def yP(a:Xe ws)(lo j:Xo ws):Xe ws where
 m:=U_ a.m lo.m j.m
 p:=λenv s=>(a.p env s).bind λx s=>(lo.p env s).bind λl s=>(j.p env s).bind λu s=>.of (Na x l u) s
 fz:=I
 fr:=I
 ok {q h L B O Z env s} c:=by
  refine(a.ok c).bind λx v S U C P ⟨w,_,_⟩=>?_;have z:=c.kb C P;refine(lo.ok z).bind λl l' R s2 i M e=>?_;subst e;have F:=z.kb i M;refine(j.ok F).bind λu W X Q f E e=>?_;subst e;have G:=F.kb f E
  cases e:Na x l u with
  |none=>trivial
  |some d =>
   obtain⟨y,g,e1,r,H⟩:=O0 G.bd ((w.kb i c.pO c.pL).kb f c.pO c.pL) e;exact EM (ny (ny C.len i.len) f.len) E ⟨y,g,by rw[e1];rfl,r,H⟩
end
def kv:EO where
 m:=dE
 p:=λf i=>match i with
  |[a]=>if f.length<100000 then J (.non,f++[a])else Y
  |_=>Y
 ok {q h O n xs f i vs d ds'} g r ra e:=by
  match i,e with
  |[a],e =>
   obtain⟨x,t,rfl,a,b⟩:=ra
   have:t=[]:=b
   subst this;dsimp only at e;by_cases z:f.length<100000
   .rw[c_ z]at e;cases e;refine⟨.non,xs++[x],?_,r.app ⟨x,[],rfl,a,rfl⟩,rfl⟩;simp only[dE,g];rw[c_ (by have:=f9;rw[r.length];ext)]
   .rw[f_ z]at e;cases e
def li:EO where
 m:=kU
 p:=λi l=>match l with
  |[a]=>a.items.bind λj=>if i.length+j.length<=100000 then J (.non,i++j)else Y
  |_=>Y
 ok {q h O n xs i l vs d ds'} g r ra e:=by
  match l,e with
  |[a],e =>
   obtain⟨x,t,rfl,w,b⟩:=ra
   have:t=[]:=b
   subst this;rw[ED]at e;obtain⟨j,e1,e2⟩:=e;by_cases z:i.length+j.length<=100000
   .rw[c_ z]at e2;cases e2;have B:=f9
    cases a with
    |lst u =>
     cases e1;obtain⟨m,ys,rfl,_,y,f⟩:=w;refine⟨.non,xs++ys,?_,r.app f,rfl⟩;simp only[kU,g,y];rw[c_ (by rw[r.length,f.length];ext)]
    |tup u =>
     cases e1;obtain⟨ys,rfl,f⟩:=w;refine⟨.non,xs++ys,?_,r.app f,rfl⟩;simp only[kU,g];rw[c_ (by rw[r.length,f.length];ext)]
    |_=>cases e1
   .rw[f_ z]at e2;cases e2
def yU:EO where
 m:=nZ
 p:=λf j=>match j with
  |[.int i,a]=>if(0<=i/\i<=100000)/\f.length<100000 then J (.non,f.take (min i.toNat f.length)++a::f.drop (min i.toNat f.length))else Y
  |_=>Y
 ok {q h O n xs f j vs d ds'} g r ra e:=by
  match j,e with
  |[.int i,a],e =>
   obtain⟨x,t,rfl,l,y,u,rfl,w,b⟩:=ra
   have:u=[]:=b
   subst this;rw[show x=PV.int i from l];dsimp only at e;by_cases z:(0<=i/\i<=100000)/\f.length<100000
   .rw[c_ z]at e;cases e;refine⟨.non,nK xs i y,?_,?_,rfl⟩
    .simp only[nZ,g];rw[c_ ⟨by ext,by have:=f9;rw[r.length];ext⟩]
    .delta nK;rw[f_ (by ext),r.length];exact(r.take _).app ⟨y,_,rfl,w,r.drop _⟩
   .rw[f_ z]at e;cases e
end
section
variable{ws:WQ}{env:az}{s:g_}
@[simp]theorem am{d:D}{r:az}:(aa 0:Xe ws).p (J d::r) s=.ok d s:=rfl
@[simp]theorem av{i:Nat}{o:WC}{r:az}:(aa (i+1):Xe ws).p (o::r) s=(aa i:Xe ws).p r s:=by simp[aa]
theorem oJ(e:env[i]?=J (J d)):(aa i:Xe ws).p env s=.ok d s:=by show(match env[i]? with|some (J d)=>PR.ok d s|_=>.bad)=_;rw[e]
@[simp]theorem bz:(xC k:Xe ws).p env s=.ok k.d s:=rfl
@[simp]theorem lz:Cn.non.d=.non:=rfl
@[simp]theorem IM:(Cn.bl b).d=.bl b:=rfl
@[simp]theorem aS:(Cn.int b).d=.int b:=rfl
@[simp]theorem nk:(Cn.str b).d=.str b:=rfl
@[simp]theorem aE:(ac o a b).p env s=(a.p env s).bind λx s1=>(b.p env s1).bind λy s2=>.of (o.p x y) s2:=rfl
@[simp]theorem mH:(p8 o a).p env s=(a.p env s).bind λx s1=>.of (o.p x) s1:=rfl
@[simp]theorem ao:(a_:Xs ws).p env s=.ok [] s:=rfl
@[simp]theorem ah:(ab a r).p env s=(a.p env s).bind λx s1=>(r.p env s1).bind λy s2=>.ok (x::y) s2:=rfl
@[simp]theorem bS:(jj o a).p env s=(a.p env s).bind λx s1=>.of (o.p x) s1:=rfl
@[simp]theorem aI:(aj f a h).p env s=(a.p env s).bind f.p:=rfl
@[simp]theorem yz:(lU f a h).p env s=((a.p env s).bind f.p).bind λd s=>if EN d=I then .ok d s else .bad:=rfl
@[simp]theorem cD:(br a h).p env s=(a.p env s).bind λx s1=>if x.length<=100000 then .ok (.lst x) s1 else .bad:=rfl
@[simp]theorem jT:(bw a h).p env s=(a.p env s).bind λx s1=>if x.length<=100000 then .ok (.tup x) s1 else .bad:=rfl
@[simp]theorem dA:(xB a).p env s=(a.p env s).bl:=rfl
@[simp]theorem jU:(eM a).p env s=(a.p env s).bind λb s=>.ok (!b) s:=rfl
@[simp]theorem Lo:(eU a b).p env s=(a.p env s).bind λx s=>if x=I then b.p env s else .ok T s:=rfl
@[simp]theorem IN:(E9 a b).p env s=(a.p env s).bind λx s=>if x=I then .ok I s else b.p env s:=rfl
@[simp]theorem Rn:(i3:Xt ws).p env s=.ok I s:=rfl
@[simp]theorem k9:(dY a b).p env s=(a.p env s).bl.bind λx s=>if x=I then(b.p env s).bl.bind λy s=>.ok (.bl y) s else .ok (.bl T) s:=rfl
@[simp]theorem Ro:(uB a).p env s=(a.p env s).bl.bind λx s=>.ok (.bl (!x)) s:=rfl
@[simp]theorem O3:(qK f g a b e).p env s=(a.p env s).bind λx s1=>(b.p env s1).bind λy s2=>match f.p x y with
  |some (.bl t)=>if t=I then(e.p env s2).bind λz s3=>.of (g.p y z) s3 else .ok (.bl T) s2
  |_=>.bad:=rfl
@[simp]theorem fh:(bO o a).p env s=(a.p env s).bind λx s1=>.of (o.p x) s1:=rfl
@[simp]theorem dq:(aL a).p env s=(a.p env s).bind λx s1=>.of x.items s1:=rfl
@[simp]theorem yS{i:Nat}{h:ws.contains i=T}{d:D}:(iw i h).p d env=J (env.set i (J d)):=rfl
@[simp]theorem zd:(u_:IJ ws).p [] env=J env:=rfl
@[simp]theorem zM:(mq a t).p (d::ds) env=(a.p d env).bind λenv1=>t.p ds env1:=rfl
@[simp]theorem Ab:(vf t n).p (.tup ds) env=if ds.length=n then t.p ds env else Y:=rfl
@[simp]theorem yk{nv:Nat}{fm:WQ}{i:Xi ws}{ws':WQ}{g:Xg ws'}{t:Xt ws'}{e:Xe ws'}{hw:E_ nv fm ws=ws'}{hz:e.fz=I}:(aJ nv fm i g t e hw hz).p env s=(i.p env s).bind λds s1=>if ds.length<=100000 then (match fT g.p t.p e.p ds (w_ nv fm env) s1 with
  |.ok r s2=>.ok (.lst r) s2
  |_=>.bad)else .bad:=rfl
@[simp]theorem zw:(yv:Xo ws).p env s=.ok Y s:=rfl
@[simp]theorem zr:(yI e).p env s=(e.p env s).bind λd s=>match d with
  |.int i=>.ok (J i) s
  |_=>.bad:=rfl
@[simp]theorem zO:(yP a lo hi).p env s=(a.p env s).bind λx s=>(lo.p env s).bind λl s=>(hi.p env s).bind λu s=>.of (Na x l u) s:=rfl
@[simp]theorem ai:(au a b).p env s=(a.p env s).then b.p:=rfl
@[simp]theorem bM:(im:Xd ws).p env s=.nx env s:=rfl
@[simp]theorem bf:(aO e).p env s=(e.p env s).go env λd _ s=>.rt d s:=rfl
theorem kW{i:Nat}{h:ws.contains i=I}{d:D}(e:env[i]?=J (J d)):(jh i h).p env s=.rt d s:=by show(match env[i]? with|some (J d)=>PS.rt d s|_=>.bad)=_;rw[e]
@[simp]theorem G5:(eP e).p env s=(e.p env s).go env λ_=>.nx:=rfl
@[simp]theorem bp:(n7 t a b).p env s=(t.p env s).go env λx env s=>if x=I then a.p env s else b.p env s:=rfl
@[simp]theorem aR:(aG i e hi hz).p env s=(e.p env s).go env λd env s=>.nx (env.set i (J d)) s:=rfl
@[simp]theorem gC:(cI i e hi hz).p env s=(e.p env s).go env λd env s=>match d with
  |.lst ds=>.nx (env.set i (J (.lst ds))) s
  |_=>.bad:=rfl
@[simp]theorem wt:(sP e g hz).p env s=(e.p env s).go env λd env s=>match g.p d env with
  |some env1=>.nx env1 s
  |none=>.bad:=rfl
@[simp]theorem dL:(dy i g b hz).p env s=(i.p env s).go env λds env s=>D_ g.p b.p ds env s:=rfl
@[simp]theorem O4:(vu o i a hi hz).p env s=Ey o i a.p env s λ_=>.nx:=rfl
@[simp]theorem B0:(pV i e ix hi hz).p env s=gh i e.p ix.p env s:=rfl
theorem aT{hw}(a:ds.length=np):(bB n np b hw).p ds s=(b.p (i_ n ds) s).fin:=by show(if ds.length=np then _ else _)=_;rw[c_ a]
variable{i j:Int}{b:Bool}{x y:WR}
@[simp]theorem sU:aQ.p (.int i) (.int j)=J (.int (i+j)):=rfl
theorem cW(h:x.length+y.length<=100000):aQ.p (.lst x) (.lst y)=J (.lst (x++y)):=by show(if x.length+y.length<=100000 then _ else _)=_;rw[c_ h]
@[simp]theorem r9:eL.p (.int i) (.int j)=J (.int (i-j)):=rfl
@[simp]theorem Lp:B_.p (.int i) (.int j)=J (.bl (decide (i<j))):=rfl
@[simp]theorem Tu:Tr.p (.int i) (.int j)=J (.bl (decide (i<=j))):=rfl
@[simp]theorem By:G4.p (.int i) (.int j)=J (.bl (decide (j<i))):=rfl
@[simp]theorem Tv:Tt.p (.int i) (.int j)=J (.bl (decide (j<=i))):=rfl
@[simp]theorem fU:il.p (.lst x) (.int j)=l0 x j:=rfl
@[simp]theorem uE:il.p (.tup x) (.int j)=l0 x j:=rfl
theorem xf(h:j≠0):vd.p (.int i) (.int j)=J (.int (i.fmod j)):=by show(if j≠0 then _ else _)=_;rw[c_ h]
@[simp]theorem Bh:(cu Ts).p d=(Fo d).map λt=>.bl (Ts.any (c7 t)):=rfl
@[simp]theorem Tw:Fo .non=J "NoneType":=rfl
@[simp]theorem Vx:Fo (.bl b)=J "bool":=rfl
@[simp]theorem Tx:Fo (.int i)=J "int":=rfl
@[simp]theorem Tz:Fo (.str z)=J "str":=rfl
@[simp]theorem Lq:Fo (.tup x)=J "tuple":=rfl
@[simp]theorem Lr:Fo (.lst x)=J "list":=rfl
@[simp]theorem TB:Fo .dic=J "dict":=rfl
@[simp]theorem xY:jf.p [.int i,.int j]=J (.int (if j<i then j else i)):=rfl
@[simp]theorem Rq:nS.p [.int i,.int j]=J (.int (if j>i then j else i)):=rfl
@[simp]theorem Ls:pJ.p [.bl b]=J (.int (if b then 1 else 0)):=rfl
@[simp]theorem TC:pJ.p [.int i]=J (.int i):=rfl
@[simp]theorem lc:bV.p [.lst x]=J (.int x.length):=rfl
@[simp]theorem wD:bV.p [.tup x]=J (.int x.length):=rfl
theorem G6(h:x.length<=100000):zy.p [.tup x]=J (.lst x):=by show(if x.length<=100000 then _ else _)=_;rw[c_ h]
@[simp]theorem vz:kY.p [.lst x]=J (.tup x):=rfl
@[simp]theorem O5:kY.p [.tup x]=J (.tup x):=rfl
theorem oo(h:-100000<=i/\i<=100000):Fp.p [.int i]=J (.lst (dg 0 i.toNat)):=by show(if _ then _ else _)=_;rw[c_ h]
def qg(h:-100000<=i/\i<=100000):Fa.p [.int i]=J (dg 0 i.toNat):=by show(if _ then _ else _)=_;rw[c_ h]
def IQ(h:(-100000<=i/\i<=100000) /\ -100000<=j/\j<=100000):Fq.p [.int i,.int j]=J (dg i (j-i).toNat):=by show(if _ then _ else _)=_;rw[c_ h]
@[simp]theorem G7:iE.p [.lst x]=J (eR x):=rfl
@[simp]theorem Vy:iZ.p [.lst x,.lst y]=J (rq x y):=rfl
@[simp]theorem Vz:iZ.p [.tup x,.tup y]=J (rq x y):=rfl
@[simp]theorem Am:Na (.lst x) lo hi=J (.lst (kQ x lo hi)):=rfl
theorem iV(h:x.length<100000):kv.p x [a]=J (.non,x++[a]):=by show(if _ then _ else _)=_;rw[c_ h]
def tf(h:x.length+y.length<=100000):li.p x [.lst y]=J (.non,x++y):=by show(if _ then _ else _)=_;rw[c_ h]
def AI(h:x.length+y.length<=100000):li.p x [.tup y]=J (.non,x++y):=by show(if _ then _ else _)=_;rw[c_ h]
def AE{a:D}{i:Nat}(h:i<=x.length)(f:x.length<100000):yU.p x [.int i,a]=J (.non,x.take i++a::x.drop i):=by show(if _ then _ else _)=_;rw[c_ ⟨by ext,f⟩,z_,MU h]
end
section
variable{i j:Int}{b c:Bool}
def tQ(f:x.canLay0=I)(a:x.depth<=64):SeqAt.shaped x=I:=by simp[SeqAt.shaped,f,a]
@[simp]theorem m4:Cv neg (.int i) (.int j)=J (.bl (if neg then !decide (i=j)else decide (i=j))):=rfl
@[simp]theorem TD:Cv neg (.bl b) (.bl c)=J (.bl (if neg then !(b==c)else b==c)):=rfl
@[simp]theorem qS:o_.p a d=Cv T a d:=rfl
@[simp]theorem O6:EV.p a d=Cv I a d:=rfl
@[simp]theorem IR:(n3 neg).p a d=Ll neg a d:=rfl
theorem hG:∀(k:WN),EA (k.map .int)=J (k.map .int)/\se (k.map .int)=0
 |[]=>⟨rfl,rfl⟩
 |i::k=>by
  obtain⟨a,b⟩:=hG k;simp[EA,py,a,se,zI,b]
def v8:∀(f:WP),EA (f.map kD)=J (f.map λk=>.tuple (k.map .int))/\se (f.map kD)<=1
 |[]=>⟨rfl,by simp[se]⟩
 |k::f=>by
  obtain⟨a,b⟩:=v8 f;obtain⟨c,d⟩:=hG k;constructor
  .simp[EA,kD,py,a,c]
  .simp only[oI,se,kD,zI,d];lia
def tO:∀(xs:WN),(xs.map PyData.int).any (λe=>PyData.eqv e (.int x))=decide (x∈xs)
 |[]=>by simp
 |y::ys=>by
  rw[oI,QP,tO ys]
  have:PyData.eqv (.int y) (.int x)=decide (x=y):=by simp[PyData.eqv,UQ,eq_comm]
  grind
def kN:∀(k f:WN),PyData.eqvAll (k.map .int) (f.map .int)=decide (k=f)
 |[],[]=>by simp[PyData.eqvAll]
 |[],_::_=>by simp[PyData.eqvAll]
 |_::_,[]=>by simp[PyData.eqvAll]
 |a::k,b::f=>by
  simp only[oI,PyData.eqvAll,PyData.eqv,kN k f];by_cases z:a=b<;>simp[z]
def tT:∀(a:WP),(a.map λk=>PyData.tuple (k.map .int)).any (λe=>PyData.eqv e (.tuple (k.map .int)))=decide (k∈a)
 |[]=>by simp
 |y::ys=>by
  rw[oI,QP,tT ys]
  have:PyData.eqv (.tuple (y.map .int)) (.tuple (k.map .int))=decide (y=k):=by simp only[PyData.eqv,kN]
  grind
def fO{neg:Bool}{x:Int}{d:D}{xs:WN}(e:d.items=J (xs.map .int)):Ll neg (.int x) d=J (.bl (if neg then !decide (x∈xs)else decide (x∈xs))):=by obtain⟨a,b⟩:=hG xs;simp only[Ll,e,py,a];rw[c_ ⟨⟨by simp[zI],⋯⟩,rfl,(hX xs).1⟩,tO]
def kT{neg:Bool}{k:WN}{d:D}{l:WP}(e:d.items=J (l.map kD)):Ll neg (kD k) d=J (.bl (if neg then !decide (k∈l)else decide (k∈l))):=by
 obtain⟨a,b⟩:=v8 l;obtain⟨c,f⟩:=hG k;have u:py (kD k)=J (.tuple (k.map .int)):=by simp[kD,py,c]
 have r:(zI (kD k)<=60/\se (l.map kD)<=60)/\(PyData.tuple (k.map .int)).canLay0=I/\PyData.canLayAll0 (l.map λk=>.tuple (k.map .int))=I:=⟨⟨by simp[kD,zI,f],⋯⟩,by simpa [PyData.canLay0]using(hX k).1,(vt l).1⟩;delta Ll;rw[e];dsimp only;rw[u,a];dsimp only;rw[c_ r,tT]
def wJ{neg:Bool}{xs ys:WN}:Cv neg (.lst (xs.map .int)) (.lst (ys.map .int))=J (.bl (if neg then !decide (xs=ys)else decide (xs=ys))):=by obtain⟨a,b⟩:=hG xs;obtain⟨c,d⟩:=hG ys;obtain⟨f,l⟩:=hX xs;obtain⟨l3,l4⟩:=hX ys;simp only[Cv,py,a,c,Jo];rw[c_ ⟨⟨by simp[zI,b],by simp[zI,d]⟩,tQ (by simpa [PyData.canLay0]using f) (by simp only[PyData.depth];lia),tQ (by simpa [PyData.canLay0]using l3) (by simp only[PyData.depth];lia)⟩];simp only[PyData.eqv,kN]
end
@[simp]theorem Rr:D_ g b [] env s=.nx env s:=rfl
theorem lL(e:g d env=J env1):D_ g b (d::ds) env s=(b env1 s).turn (D_ g b ds):=by rw[D_,e]
def di(f:Nat->az->g_->Prop):∀(l:WR)(j:Nat)(env:az)(s:g_),f j env s ->
  (∀m env s d,f (j+m) env s->l[m]?=J d->∃i a r,g d env=J i/\b i s=.nx a r/\f (j+m+1) a r)->∃a r,D_ g b l env s=.nx a r/\f (j+l.length) a r
 |[],j,env,s,B,_=>⟨env,s,rfl,B⟩
 |d::l,j,env,s,B,st=>by
  obtain⟨i,y,G,e1,e2,E⟩:=st 0 env s d B rfl;obtain⟨u,C,e3,F⟩:=di f l (j+1) y G E λm a r x q z=>by
   have:=st (m+1) a r x (by rw[show j+(m+1)=j+1+m by lia];exact q) (by simpa using z)
   rw[show j+(m+1)+1=j+1+m+1 by lia]at this;exact this
  refine⟨u,C,?_,by rw[pk,show j+(l.length+1)=j+1+l.length by lia];exact F⟩;rw[lL e1,e2];exact e3
def qD(p:D->Bool)(f:D->D):∀(l:WR)(j:az),j.length=nv ->
  (∀x∈l,∀j:az,j.length=nv->∃a:az,a.length=nv/\g x (j++fr)=J (a++fr)/\t (a++fr) s=.ok (p x) s/\(p x=I->e (a++fr) s=.ok (f x) s))->fT g t e l (j++fr) s=.ok ((l.filter p).map f) s
 |[],j,hv,i=>rfl
 |x::l,j,hv,i=>by
  obtain⟨a,r,e1,e2,e3⟩:=i x (by simp) j hv;have z:=qD p f l a r λy B=>i y (mw _ B);rw[fT,e1];dsimp only;rw[e2]
  cases u:p x with
  |true=>simp only[Pb,if_true,e3 u,z,List.filter_cons_of_pos u,oI]
  |false=>simp only[Pb,nw,if_false,z,List.filter_cons_of_neg (show ¬p x=I by simp[u])]
def qG{y j:WQ}{env:az}{s:g_}{u:Nat}{fm:WQ}{i:Xi y}{g:Xg j}{t:Xt j}{e:Xe j}{B:E_ u fm y=j}{E:e.fz=I}{l:WR}(p:D->Bool)(f:D->D)(C:i.p env s=.ok l s)(F:l.length<=100000)(r:∀x∈l,∀z:az,z.length=u->∃a:az,a.length=u/\g.p x (z++fm.map λi=>(env[i]?).getD Y)=J (a++fm.map λi=>(env[i]?).getD Y)/\t.p (a++fm.map λi=>(env[i]?).getD Y) s=.ok (p x) s/\(p x=I->e.p (a++fm.map λi=>(env[i]?).getD Y) s=.ok (f x) s)):
  (aJ u fm i g t e B E).p env s=.ok (.lst ((l.filter p).map f)) s:=by
 rw[yk,C,Pb,c_ F];delta w_;rw[qD p f l _ (by simp) r]
def cH{ws ws':WQ}{env:az}{s:g_}{fm:WQ}{i:Xi ws}{t:Xt ws'}{e:Xe ws'}{ds:WR}(p:D->Bool)(f:D->D)(l:i.p env s=.ok ds s)(B:ds.length<=100000)(a:∀x∈ds,t.p (J x::fm.map λi=>(env[i]?).getD Y) s=.ok (p x) s/\(p x=I->e.p (J x::fm.map λi=>(env[i]?).getD Y) s=.ok (f x) s))(y:ws'.contains 0=T:=by exact ys rfl)(j:E_ 1 fm ws=ws':=by exact ys rfl)(r:e.fz=I:=by exact ys rfl):
  (aJ 1 fm i (iw 0 y) t e j r).p env s=.ok (.lst ((ds.filter p).map f)) s :=
 qG p f l B λx z u hv=>match u,hv with
  |[_],_=>⟨[J x],rfl,rfl,a x z⟩
def oU{ws ws':WQ}{env:az}{s:g_}{fm:WQ}{i:Xi ws}{t:Xt ws'}{e:Xe ws'}{ds:WR}(p:D->Bool)(f:D->D)(u:i.p env s=.ok ds s)(E:ds.length<=100000)(j:∀x∈ds,∃a b,x=.tup [a,b]/\t.p (J a::J b::fm.map λi=>(env[i]?).getD Y) s=.ok (p x) s/\(p x=I->e.p (J a::J b::fm.map λi=>(env[i]?).getD Y) s=.ok (f x) s))(B:ws'.contains 0=T:=by exact ys rfl)(r:ws'.contains 1=T:=by exact ys rfl)(l:E_ 2 fm ws=ws':=by exact ys rfl)(y:e.fz=I:=by exact ys rfl):
  (aJ 2 fm i (vf (mq (iw 0 B) (mq (iw 1 r) u_)) 2) t e l y).p env s=.ok (.lst ((ds.filter p).map f)) s :=
 qG p f u E λx C z hv=>match z,hv with
  |[_,_],_=>let⟨a,b,e,q⟩:=j x C;⟨[J a,J b],rfl,by subst e;rfl,q⟩
def cA{α:Type}(l:List α):(l.filter λ_=>I)=l:=List.filter_eq_self.mpr (by simp)
def IsT(n:Int)(k:WN):Prop:=∃a b:Int,k=[a,b]/\0<=a/\a<n/\0<=b/\b<n/\a≠b
def zL:WN->WN
 |[a,b]=>[if b<a then b else a,if b>a then b else a]
 |k=>k
structure h8(n:Int)(ks:WP):Prop where
 n0:0<=n
 n12:n<=12
 tie:∀k∈ks,∃a b:Int,k=[a,b]/\0<=a/\a<b/\b<n
 ris:SortT.GP ks
 nd:ks.Nodup
def Lu:WP:=(List.range 12).flatMap λb=>(List.range b).map λ(a:Nat)=>[(a:Int),(b:Int)]
def Dz:Lu.length=66:=by decide
def Ce(l:n<=12)(f:0<=a)(j:a<b)(i:b<n):[a,b]∈Lu:=by
 delta Lu;rw[Ic];refine⟨b.toNat,by simp;lia,?_⟩;rw[mm];refine⟨a.toNat,by simp;lia,?_⟩;congr 1
 .lia
 .lia
def fA{n:Int}{f:WP}(r:n<=12)(y:∀k∈f,∃a b:Int,k=[a,b]/\0<=a/\a<b/\b<n)(nd:f.Nodup):f.length<=66:=by rw[<-Dz];refine List.Nodup.length_le_of_subset nd λk i=>?_;obtain⟨a,b,rfl,j,u,l⟩:=y k i;exact Ce r j u l
def nB(h:a<b):zL [a,b]=[a,b]:=by simp[zL,show ¬b<a by lia,show b>a from h]
def pY(h:b<a):zL [a,b]=[b,a]:=by simp[zL,h,show ¬b>a by lia]
def below(v:Int)(f:WP):WN:=f.filterMap λk=>match k with|[a,b]=>if b=v then J a else Y|_=>Y
def above(v:Int)(f:WP):WN:=f.filterMap λk=>match k with|[a,b]=>if a=v then J b else Y|_=>Y
def d_(n:Nat):WN:=(List.range n).map λ(i:Nat)=>(i:Int)
def aH:i∈d_ n↔0<=i/\i<n:=by
 delta d_;rw[mm];constructor
 .rintro⟨k,f,rfl⟩;rw[EG]at f;lia
 .intro ⟨a,b⟩;exact⟨i.toNat,by rw[EG];lia,⋯⟩
def cZ(n:Nat):(d_ n).Nodup:=by exact List.Pairwise.map _ (λa b h=>by lia) RY
def dG(h:0<=i):∃n:Nat,i=(n:Int):=⟨i.toNat,⋯⟩
def O7(h:SortT.ce [c,d] [a,b]=T):a<c\/(a=c/\b<=d):=by
 simp only[SortT.ce]at h;by_cases z:c=a
 .rw[c_ z]at h
  grind
 .rw[f_ z]at h;simp at h;lia
def yA(w:h8 n f):(below v f++above v f).Pairwise (·<=·):=by
 have tie:=w.tie;have ris:=w.ris;clear w;rw[QF];have C:∀(f:WP)(x:Int),x∈below v f->(∀k∈f,∃a b:Int,k=[a,b]/\0<=a/\a<b/\b<n)->[x,v]∈f/\x<v:=λf x u tie=>by
  obtain⟨k,r,e⟩:=Fh.mp u;obtain⟨a,b,rfl,_,lt,_⟩:=tie k r;by_cases z:b=v
  .simp[z]at e;subst e;subst z;exact⟨r,lt⟩
  .simp[z]at e
 have E:∀(f:WP)(x:Int),x∈above v f->(∀k∈f,∃a b:Int,k=[a,b]/\0<=a/\a<b/\b<n)->[v,x]∈f/\v<x:=λf x u tie=>by
  obtain⟨k,r,e⟩:=Fh.mp u;obtain⟨a,b,rfl,_,lt,_⟩:=tie k r;by_cases z:a=v
  .simp[z]at e;subst e;subst z;exact⟨r,lt⟩
  .simp[z]at e
 refine⟨?_,?_,λx u y F=>?_⟩
 .induction f with
  |nil=>exact .nil
  |cons k f B =>
   obtain⟨a,b,rfl,_⟩:=tie k (by simp);have i:=λk r=>tie k (mw _ r);have j:=(Jj.mp ris);have l:=B i j.2;have e1:below v ([a,b]::f)=(if b=v then [a]else [])++below v f:=by delta below;by_cases z:b=v<;>simp[z]
   rw[e1];by_cases z:b=v
   .rw[c_ z];refine Jj.mpr ⟨λx u=>?_,l⟩
    have:=O7 (j.1 _ (C f x u i).1)
    lia
   .rw[f_ z];exact l
 .induction f with
  |nil=>exact .nil
  |cons k f B =>
   obtain⟨a,b,rfl,_⟩:=tie k (by simp);have i:=λk r=>tie k (mw _ r);have j:=(Jj.mp ris);have l:=B i j.2;have e1:above v ([a,b]::f)=(if a=v then [b]else [])++above v f:=by delta above;by_cases z:a=v<;>simp[z]
   rw[e1];by_cases z:a=v
   .rw[c_ z];refine Jj.mpr ⟨λx u=>?_,l⟩
    have:=O7 (j.1 _ (E f x u i).1)
    lia
   .rw[f_ z];exact l
 .have:=(C f x u tie).2
  have:=(E f y F tie).2
  lia
def ld(w:h8 n C):(below v C++above v C).Nodup/\∀x∈below v C++above v C,0<=x/\x<n:=by
 have F:∀x,x∈below v C->0<=x/\x<v/\x<n:=λx f=>by
  obtain⟨k,B,e⟩:=Fh.mp f;obtain⟨a,b,rfl,_,lt,_⟩:=w.tie k B;by_cases z:b=v
  .simp[z]at e;subst e;lia
  .simp[z]at e
 have G:∀x,x∈above v C->0<=x/\v<x/\x<n:=λx f=>by
  obtain⟨k,B,e⟩:=Fh.mp f;obtain⟨a,b,rfl,_,lt,_⟩:=w.tie k B;by_cases z:a=v
  .simp[z]at e;subst e;lia
  .simp[z]at e
 refine⟨?_,λx f=>?_⟩
 .rw[Fi];refine⟨?_,?_,λx f y i=>?_⟩
  .unfold below List.Nodup;rw[RJ];refine List.Pairwise.imp_of_mem (λ{k E} B l j x f y i=>?_) w.nd;obtain⟨a,b,rfl,_⟩:=w.tie k B;obtain⟨c,d,rfl,_⟩:=w.tie E l;by_cases u:b=v
   .by_cases r:d=v
    .simp[u]at f;simp[r]at i;subst f i;rintro rfl;exact j (by rw[u,r])
    .simp[r]at i
   .simp[u]at f
  .unfold above List.Nodup;rw[RJ];refine List.Pairwise.imp_of_mem (λ{k E} B l j x f y i=>?_) w.nd;obtain⟨a,b,rfl,_⟩:=w.tie k B;obtain⟨c,d,rfl,_⟩:=w.tie E l;by_cases u:a=v
   .by_cases r:c=v
    .simp[u]at f;simp[r]at i;subst f i;rintro rfl;exact j (by rw[u,r])
    .simp[r]at i
   .simp[u]at f
  .have:=F x f
   have:=G y i
   lia
 .rcases ml.mp f with q|q
  .have:=F x q;lia
  .have:=G x q;lia
def aM(ns:WN)(j:Nat):WP:=(List.range j).flatMap λi=>(ns.drop (i+1)).map λb=>[ns.getD i 0,b]
def pG:aM ns (j+1)=aM ns j++(ns.drop (j+1)).map λb=>[ns.getD j 0,b]:=by simp[aM,Nw]
def d5(a:ns.length<=12):∀(j:Nat),(aM ns j).length<=12*j
 |0=>by simp[aM]
 |j+1=>by
  have:=d5 a j
  rw[pG,Em,oF,Eo];lia
def gT(B:ns.Pairwise (·<·))(y:∀x∈ns,0<=x/\x<n):∀k∈aM ns ns.length,∃a b:Int,k=[a,b]/\0<=a/\a<b/\b<n:=λk r=>by
 obtain⟨i,l,r⟩:=Ic.mp r;rw[EG]at l;obtain⟨b,f,rfl⟩:=mm.mp r;obtain⟨j,z,u⟩:=Jh f;rw[Eo]at z;rw[EX]at u;have e1:ns.getD i 0=ns[i]:=by simp[l]
 rw[e1];have lt:=HR.mp B i (i+1+j) l ⋯ ⋯;rw[u]at lt;exact⟨_,_,rfl,(y _ (Ee l)).1,lt,(y _ (Jf f)).2⟩
noncomputable section
def gf:D->Option Bool
 |.non=>J T
 |.bl b=>J b
 |.int i=>J (i != 0)
 |.tup xs=>J (!xs.isEmpty)
 |.lst xs=>J (!xs.isEmpty)
 |_=>Y
def Rps.empty(r:Rps p h O a vs):vs.isEmpty=a.isEmpty:=by
 cases a with
 |nil=>rw[show vs=[]from r];rfl
 |cons d a=>obtain⟨x,t,e,_⟩:=r;rw[e];rfl
def mR(w:Vw q h L O d v)(e:gf d=J b):jN h v=J b:=by
 cases d with
 |non=>cases e;rw[w.non];rfl
 |bl c=>cases e;rw[w.bl];rfl
 |int c=>cases e;rw[w.int];rfl
 |tup c=>cases e;obtain⟨xs,rfl,r⟩:=w.tup;rw[jN,r.empty]
 |lst c=>cases e;obtain⟨n,xs,rfl,g,r⟩:=w.lst;simp only[jN,g];rw[r.empty]
 |_=>cases e
section
variable{ws:WQ}
def EQ(a:Xe ws):Xt ws where
 m:=Vn a.m
 p:=λenv s=>(a.p env s).bind λd s=>.of (gf d) s
 ok {q h L B O Z env s} c:=by
  refine(a.ok c).bind λx v f j l i ⟨w,_,_⟩=>?_
  cases e:gf x with
  |none=>trivial
  |some b=>rw[mR w e];exact⟨b,f,rfl,KB.refl _ _,i,rfl⟩
structure OpR where
 m:Nat->WL->MH->WZ
 p:WR->WR->WC
 ok:∀{q:Nat}{h:MH}{L:Nat}{O:WQ}{n:Nat}{xs:WL}{ds as:WR}{vs:WL}{d:D},h[n]?=J (.lst xs)->Rps q h O ds xs->Vws q h L O as vs->p ds as=J d->∃v,m n vs h=.ok v h/\Rp q h O d v/\∀es,d≠.lst es
def Nb(o:OpR)(a:Xe ws)(f:Xs ws):Xe ws where
 m:=Ed o.m a.m f.m
 p:=λenv s=>(a.p env s).bind λx E=>match x with
  |.lst i=>(f.p env E).bind λy G=>.of (o.p i y) G
  |_=>.bad
 fz:=I
 fr:=I
 ok {q h L B O Z env s} c:=by
  refine(a.ok c).bind λx v h1 E S X ⟨w,_,_⟩=>?_
  cases x with
  |lst i =>
   have Q:=c.kb S X;obtain⟨n,xs,rfl,g,r⟩:=w.lst;dsimp only;rw[g];refine(f.ok Q).bind λy vs l G C P ⟨w2,_⟩=>?_;have nq:n≠q:=by
    rcases w with⟨W,j,e,no,_⟩|⟨W,j,H,_,e,_,hn,_⟩
    .cases e;exact λz=>no (z▸c.pO)
    .cases e;have:=c.pL;lia
   have U:l[n]?=J (.lst xs):=(C.keep n (bj g) nq).trans g
   cases e:o.p i y with
   |none=>trivial
   |some d =>
    obtain⟨u,e1,F,M⟩:=o.ok U (r.mv (C.mv c.pO)) w2 e;exact⟨u,l,by rw[e1];rfl,KB.refl _ _,P,.inl F,λ_=>F,λ_ es R=>absurd R (M es)⟩
  |_=>trivial
end
def zV:OpR where
 m:=qH
 p:=λf a=>match a with
  |[.int k]=>(bR f).bind λns=>(eZ k ns).map λ(j:Nat)=>.int (j:Int)
  |_=>Y
 ok {q h L O n xs f a vs d} g r w e:=by
  match a,e with
  |[.int k],e =>
   obtain⟨x,rfl,i⟩:=e9 w;rw[i.int];rw[ED]at e;obtain⟨ns,e1,e2⟩:=e;rw[tr]at e2;obtain⟨j,e3,rfl⟩:=e2;refine⟨.int j,?_,rfl,λ_ z=>by cases z⟩;simp only[qH,g,gc r e1,iF,e3]
def Dg:EO where
 m:=oE
 p:=λf a=>match a with
  |[.int k]=>(bR f).bind λns=>(eZ k ns).map λj=>(.non,(ns.eraseIdx j).map .int)
  |_=>Y
 ok {q h O n xs f a vs d ds'} g r ra e:=by
  match a,e with
  |[.int k],e =>
   obtain⟨x,t,rfl,i,b⟩:=ra
   have:t=[]:=b
   subst this;rw[show x=PV.int k from i];rw[ED]at e;obtain⟨ns,e1,e2⟩:=e;rw[tr]at e2;obtain⟨j,e3,e4⟩:=e2;cases e4;refine⟨.non,(ns.eraseIdx j).map .int,?_,ik _,rfl⟩;simp only[oE,g,gc r e1,iF,e3]
section
variable{ws:WQ}{env:az}{s:g_}
@[simp]theorem O8:(EQ a).p env s=(a.p env s).bind λd s=>.of (gf d) s:=rfl
@[simp]theorem VA:(Nb o a as).p env s=(a.p env s).bind λx s1=>match x with
  |.lst ds=>(as.p env s1).bind λy s2=>.of (o.p ds y) s2
  |_=>.bad:=rfl
end
end
noncomputable section
section
variable{ws:WQ}{env:az}{s:g_}
end
end
noncomputable section
section
variable{ws:WQ}
end
end
noncomputable section
variable{ws:WQ}
end
end PU
namespace MM
open PySem.Spec PyProof.Rows L2
def O9:mh:=λ_ _=>.bad
def Lv{X:Cx}{st:Stmt}:MS X st O9:=λj s Z H D f ⟨U,a,h,i,l,q⟩=>q.elim
end MM
namespace PU
open MM
def G8{ws:WQ}:Xd ws where
 m:=O9
 p:=λ_ _=>.bad
 fr:=I
 ok _ _:=trivial
end PU
namespace MM
open PySem.Spec PyProof.Rows L2
abbrev Rs(scope sc:Scope)(vars frees:WM):Prop:=(∀y∈scope.names,y.2=.cell->scope.names.lookup y.1=J .cell)/\(∀y∈scope.names,y.2=.local->scope.names.lookup y.1=J .local)/\(∀x∈vars,scope.names.lookup x=J .local\/scope.names.lookup x=J .cell)/\(∀x∈frees,scope.names.lookup x=J .free)/\(∀y∈scope.names,y.2=.free->y.1∈frees)/\(∀x∈frees,sc.names.lookup x=J .cell)
def O_(a f:Scope):Scope:={ a with names:=a.names.map λ(n,k)=>if(k == .free&&f.kind == .function&&f.names.lookup n==J .cell)then(n,.cell)else(n,k)}
def BV{a f:Scope}{env:Env}(h:env.scope=f):relabel a env=O_ a f:=by subst h;rfl
def oR{X:Cx}{N:WM}{a j:Scope}{f frees:WM}{fm:WQ}(CU:X.env.scope=j)(l:a.kind=.function)(r:fm.map (λi=>N[i]?)=frees.map J)(h:Rs a j f frees):zk X N a f frees fm :=
 Ks CU l h.1 h.2.1 h.2.2.1 h.2.2.2.1 h.2.2.2.2.1 r h.2.2.2.2.2
def Rt{Q:WT->Prop}(h:∀f,Q [f]):∀a,a.length=1->Q a
 |[_],_=>h _
def TF{Q:WT->Prop}(h:∀f i,Q [f,i]):∀a,a.length=2->Q a
 |[_,_],_=>h _ _
def TJ{Q:WT->Prop}(h:∀f j i,Q [f,j,i]):∀a,a.length=3->Q a
 |[_,_,_],_=>h _ _ _
def TL{Q:WT->Prop}(h:∀f l j i,Q [f,l,j,i]):∀a,a.length=4->Q a
 |[_,_,_,_],_=>h _ _ _ _
abbrev Zn(K:h_)(x:Str):Prop:=PySem.W.nsIn K mainGlobals x=J Y
abbrev Nn(X:Cx)(x:Str):Prop:=X.mg x=Y
abbrev Sc(X:Cx)(s:Stmt):Prop:=X.env.scope=ag s
abbrev Gd(X:Cx)(N G:WM)(k:Nat):Prop:=Good X N N G k
structure Ba(P:Program)(w:World)(K:h_)(mg:WB)(base:Heap):Prop where
 kin:K.In base
 ns:base.Ns mainGlobals mg
structure EE(X:Cx)(P:Program)(w:World)(K:h_)(mg:WB)(base:Heap):Prop where
 e1:X.prog=P
 e2:X.w=w
 e3:X.K=K
 e4:X.mg=mg
 e5:X.base=base
 b:Ba P w K mg base
section
variable{P:Program}{w:World}{K:h_}{mg:WB}{base:Heap}{X:Cx}
def EE.n(e:EE X P w K mg base){x:Str}(z:Zn K x):Nn X x:=by show X.mg x=Y;rw[e.e4];exact PySem.W.mg_none_of e.b.kin e.b.ns z
def FnAt.c{x:Str}{f:WM}{F:WL->MH->WZ}{i j:Nat}(a:FnAt P w K mg base x f F i)(e:EE X P w K mg base)(h:i<=j:=by decide):E4 X x f F j :=
 (a.mono h).cal e.e1 e.e2 e.e3 e.e4 e.e5
def Pa{x:Str}{st:Stmt}{N G ps:WM}{m:mh}{k:Nat}(b:Ba P w K mg base)(D:b_ K x st)(i:∀X:Cx,EE X P w K mg base->Sc X st->Gd X N G k->ia X->Dr X (aB st) m)(B:js x st ps:=by ac_rfl)(S:n_ N ps (ag st):=by nofun)(l:∀y∈N,(ag st).names.lookup y=J .local\/(ag st).names.lookup y=J .cell:=by decide +kernel)(a:∀y∈G,(ag st).names.lookup y=J .globalImplicit:=by decide +kernel)(dbg:∀x∈N++G,(x==("__debug__":Str))=T/\(x==("__classdict__":Str))=T/\x≠"__name__":=by decide +kernel):
  FnAt P w K mg base x ps (d3 N.length ps.length m) (k+1) :=
 wu b.kin b.ns D S B l a dbg λX e1 e2 e3 e4 e5 j g f=>i X ⟨e1,e2,e3,e4,e5,b⟩ j g f
end
structure YE(Y X:Cx):Prop where
 e1:Y.prog=X.prog
 e2:Y.w=X.w
 e3:Y.K=X.K
 e4:Y.mg=X.mg
 e5:Y.base=X.base
section
variable{X Y:Cx}{N W G:WM}{k:Nat}{x:Str}{p pos:Pos}{e:Expr}{es:WX}{m:Mx (WL)}{f:WL->MH->WZ}
def YE.n(y:YE Y X)(h:X.mg x=none):Y.mg x=none:=y.e4.symm▸h
def kV(g:Good X N W G k)(i:Nat)(a:N[i]?=J x:=by rfl):ME X (.Name x pos) (ar i):=BL g i a
def Pc(g:Good X N W G k)(i:Nat)(j:N[i]?=J x:=by rfl)(a:W[i]?=J x:=by rfl):MG X (.Name x pos) (CL i):=yx g i j a
def EB{a b:Expr}{j i:Mx PV}(l:ME X a j)(r:ME X b i)(u:oG b:=by exact λ_ _=>rfl):ME X (.Subscript a b pos) (aC bG j i):=Ix l r u
def Ru{i:CmpOp}{f:PV->PV->MH->WZ}{a b:Expr}{l j:Mx PV}(r:xy X (compareOp i) f)(y:ME X a l)(z:ME X b j)(u:behindInMarks i b=T:=by first | exact EY _ | rfl):MT X (.Compare a [i] [b] pos) (mB (aC f l j)):=A9 r y z u
def IS(g:Good X N W G k)(j:Nat){u:WM}{F:WL->MH->WZ}(C:E4 X x u F k)(i:MA X (e::es) m)(l:G[j]?=J x:=by rfl)(r:starEach (e::es) X.env=(T,eval e X.env)::starEach es X.env:=by rfl)(a:(backTo pos (starEach es X.env)).any (·.1)=T:=by rfl):ME X (.Call (.Name x p) (e::es) [] pos) (cj F m):=sj g l C i r a
def Fb{id:String}(g:Good X N W G k)(j:Nat)(l:dv X (.builtin id) f)(r:X.mg x=none)(hv:bootBuiltins x=J (.builtin id))(i:MA X (e::es) m)(u:G[j]?=J x:=by rfl)(y:starEach (e::es) X.env=(T,eval e X.env)::starEach es X.env:=by rfl)(a:(backTo pos (starEach es X.env)).any (·.1)=T:=by rfl):ME X (.Call (.Name x p) (e::es) [] pos) (t_ f m):=uM g j u l r hv i y a
def V4{i a:Expr}(g:Good X N W G k)(j:Nat)(l:X.mg "range"=none)(r:MA X [a] m)(u:G[j]?=J "range":=by rfl)(y:starEach [a] X.env=[(T,eval a X.env)]:=by rfl):MI X i (.Call (.Name "range" p) [a] [] pos) (kc m):=tJ (g.gl _ (aN u)) l r y
def V5{l a b:Expr}(g:Good X N W G k)(j:Nat)(r:X.mg "range"=none)(u:MA X [a,b] m)(y:G[j]?=J "range":=by rfl)(z:starEach [a,b] X.env=[(T,eval a X.env),(T,eval b X.env)]:=by rfl)(i:starEach [b] X.env=[(T,eval b X.env)]:=by rfl):MI X l (.Call (.Name "range" p) [a,b] [] pos) (oC m):=tF (g.gl _ (aN y)) r u z i
section
variable{tg iter elt:Expr}{ifs:WX}{scope sc:Scope}{mi:Mx MIt}{gt:Mg}{mt:Mx Bool}{me:Mx PV}
def V6(g:Good X N W G k)(CU:X.env.scope=sc)(a frees l:WM)(fm:WQ)(C:MI X tg iter mi)(F:∀Y:Cx,YE Y X->Good Y (a++frees) a l k->MG Y tg gt/\IA Y ifs mt/\ME Y elt me)(y:scope.kind=.function:=by rfl)(H:fm.map (λi=>N[i]?)=frees.map J:=by rfl)(h:Rs scope sc a frees:=by decide +kernel)(nd:(a++frees).Nodup:=by decide +kernel)(j:∀x∈l,scope.names.lookup x=J .globalImplicit:=by decide +kernel)(dbg:∀x∈(a++frees)++l,(x==("__debug__":Str))=T/\(x==("__classdict__":Str))=T/\x≠"__name__":=by decide +kernel)(L:∀x,foldedSetIterable iter X.env x=pure x:=by exact λ_=>rfl):ME X (.ListComp elt [⟨tg,iter,ifs,0⟩] scope pos) (fH a.length fm mi gt mt me) :=
 yi g (oR CU y H h) nd j dbg C (λY u B E r z _ g=>F Y ⟨u,B,E,r,z⟩ g) L
def V7{j py:Pos}{y:Str}(g:Good X N W G k)(CU:X.env.scope=sc)(i:Nat)(a frees z:WM)(fm:WQ)(M:MI X tg iter mi)(P:∀Y:Cx,YE Y X->Good Y (a++frees) a z k->MG Y tg gt/\IA Y ifs mt/\ME Y elt me)(r:∀env:Env,env.scope=sc->swapsWith (.ListComp elt [⟨tg,iter,ifs,0⟩] scope pos) (J (.Name y py)) j.line env=pure I:=by(intro env h;cases env;cases h;rfl))(u:N[i]?=J y:=by rfl)(C:W[i]?=J y:=by rfl)(F:scope.kind=.function:=by rfl)(Q:fm.map (λi=>N[i]?)=frees.map J:=by rfl)(h:Rs scope sc a frees:=by decide +kernel)(nd:(a++frees).Nodup:=by decide +kernel)(l:∀x∈z,scope.names.lookup x=J .globalImplicit:=by decide +kernel)(dbg:∀x∈(a++frees)++z,(x==("__debug__":Str))=T/\(x==("__classdict__":Str))=T/\x≠"__name__":=by decide +kernel)(R:∀x,foldedSetIterable iter X.env x=pure x:=by exact λ_=>rfl):MS X (.Assign [.Name y py] (.ListComp elt [⟨tg,iter,ifs,0⟩] scope pos) j) (bN i (fH a.length fm mi gt mt me)) :=
 ye g i u C (r X.env CU) (oR CU F Q h) nd l dbg M (λY E L O B H _ g=>P Y ⟨E,L,O,B,H⟩ g) R
end
end
abbrev Bx:=@PyProof.Rows.Boot.«abs»
abbrev ng:=@PyProof.Rows.Boot.«min»
abbrev u6:=@PyProof.Rows.Boot.«max»
abbrev Au:=@PyProof.Rows.Boot.«int»
abbrev Lw:=@PyProof.Rows.Boot.«str»
abbrev mP:=@PyProof.Rows.Boot.«len»
abbrev yg:=@PyProof.Rows.Boot.«list»
abbrev vF:=@PyProof.Rows.Boot.«tuple»
abbrev Lx:=@PyProof.Rows.Boot.«all»
abbrev sV:=@PyProof.Rows.Boot.«sorted»
abbrev G9:=@PyProof.Rows.Boot.«bool»
abbrev nD:=@PySem.F.slot_list_append
abbrev mZ:=@PySem.F.type_list_append
abbrev BG:=@PySem.F.slot_list_extend
abbrev Bu:=@PySem.F.type_list_extend
abbrev Ly:=@PySem.F.slot_list_pop
abbrev Lz:=@PySem.F.type_list_pop
abbrev AT:=@PySem.F.slot_list_insert
abbrev BA:=@PySem.F.type_list_insert
abbrev CF:=@PySem.F.slot_list_index
abbrev DR:=@PySem.F.type_list_index
abbrev Az:=@PySem.F.slot_list_remove
abbrev Bj:=@PySem.F.type_list_remove
end MM
namespace PU
open MM
open L2 (qp l0 jE)
noncomputable section
section
variable{ws:WQ}
end
end
noncomputable section
def Nc(a b:D):WC:=match a,b with
 |.lst xs,.lst ys=>if xs.length≠ys.length then J (.bl T)else Cv T a b
 |_,_=>Cv T a b
def G_{x y:PV}{h:MH}(e:GY h x=Y):p4 x y h=r_ x y h:=by simp only[p4,e]
def Ha{x y:PV}{h:MH}(e:GY h y=Y):p4 x y h=r_ x y h:=by simp only[p4,e];cases GY h x<;>rfl
def AB{q:Nat}{h:MH}{L:Nat}{O:WQ}{d:D}{v:PV}{u:PyData}(w:Vw q h L O d v)(e:py d=J u)(f:∀a,d≠.lst a):GY h v=Y:=by
 cases d with
 |non=>rw[w.non];rfl
 |bl b=>rw[w.bl];rfl
 |int b=>rw[w.int];rfl
 |str b=>rw[w.str];rfl
 |tup b=>obtain⟨xs,rfl,_⟩:=w.tup;rfl
 |lst a=>exact absurd rfl (f a)
 |_=>cases e
def ph:zo where
 m:=p4
 p:=Nc
 fr:=I
 ok {q h L O a x b y d} bd wa wb e:=by
  have f:Cv T a b=J d->p4 x y h=r_ x y h->Gv q h O I (p4 x y h) d:=λe1 e2=>by
   rw[e2];exact o_.ok bd wa wb e1
  by_cases j:∃xs,a=.lst xs
  .obtain⟨xs,rfl⟩:=j;by_cases l:∃i,b=.lst i
   .obtain⟨i,rfl⟩:=l;obtain⟨n,C,rfl,g,r⟩:=wa.lst;obtain⟨m,F,rfl,E,B⟩:=wb.lst;have G:=r.length;have H:=B.length;have u:p4 (.loc n) (.loc m) h=if C.length≠F.length then .ok (.bl T) h else r_ (.loc n) (.loc m) h:=by simp only[p4,GY,g,E]
    unfold Nc at e;dsimp only at e;by_cases z:xs.length≠i.length
    .rw[c_ z]at e;cases e;rw[u,c_ ⋯];exact x_
    .rw[f_ z]at e;exact f e (by rw[u,f_ ⋯])
   .have e1:Cv T (.lst xs) b=J d:=by
     cases b with
     |lst i=>exact absurd ⟨i,rfl⟩ l
     |_=>exact e
    obtain⟨_,_,_,e3,_⟩:=oO e1;exact f e1 (Ha (AB wb e3 λi z=>l ⟨i,z⟩))
  .have e1:Cv T a b=J d:=by
    cases a with
    |lst xs=>exact absurd ⟨xs,rfl⟩ j
    |_=>exact e
   obtain⟨_,_,e3,_⟩:=oO e1;exact f e1 (G_ (AB wa e3 λi z=>j ⟨i,z⟩))
def LA{xs a:WR}(h:xs.length≠a.length):ph.p (.lst xs) (.lst a)=J (.bl T):=by show Nc (.lst xs) (.lst a)=_;delta Nc;dsimp only;rw[c_ h]
def LD{xs a:WR}(h:xs.length=a.length):ph.p (.lst xs) (.lst a)=Cv T (.lst xs) (.lst a):=by show Nc (.lst xs) (.lst a)=_;delta Nc;dsimp only;rw[f_ (by simpa using h)]
end
noncomputable section
def TM:C_ where
 k:=λl i=>match l with
  |[x]=>(match (df i x).bind dP with
   |some ns=>if ns.length<=1000 then .ok (.int (wz ns)) i else .bad
   |none=>.bad)
  |_=>.bad
 p:=λa=>match a with
  |[.lst f]=>(bR f).bind λns=>if ns.length<=1000 then J (.int (wz ns))else Y
  |_=>Y
 fr:=I
 ok {q h L O a xs d} bd w e:=by
  match a,e with
  |[.lst f],e =>
   obtain⟨x,rfl,j⟩:=e9 w;obtain⟨y,u,r⟩:=j.lstOf;rw[ED]at e;obtain⟨ns,e1,e2⟩:=e;by_cases z:ns.length<=1000
   .rw[c_ z]at e2;cases e2;simp only[u,Aa,gc r e1,iF];rw[c_ z];exact Ez
   .rw[f_ z]at e2;cases e2
def Ph{ns:WN}(h:ns.length<=1000):TM.p [.lst (ns.map .int)]=J (.int (wz ns)):=by
 have e:∀ns:WN,bR (ns.map .int)=J ns:=λns=>by
  induction ns with
  |nil=>rfl
  |cons i k a=>rw[oI,bR,a];rfl
 show(bR (ns.map .int)).bind _=_;rw[e,Aa,c_ h]
end
def Hb{ns:WN}:wz ns=ns.length↔ns.Nodup:=by
 have key:∀j,j<=ns.length->(∀k,k∈PyProof.Rows.firstMet (λi=>ns.getD i 0) j↔k∈ns.take j)/\((PyProof.Rows.firstMet (λi=>ns.getD i 0) j).length=j↔(ns.take j).Nodup):=by
  intro j
  induction j with
  |zero=>simp[PyProof.Rows.firstMet_zero]
  |succ j E =>
   intro G;obtain⟨a,b⟩:=E ⋯;have r:j<ns.length:=by lia
   have B:ns.take (j+1)=ns.take j++[ns[j]]:=by simp
   have l:ns.getD j 0=ns[j]:=by simp[r]
   have C:(PyProof.Rows.firstMet (λi=>ns.getD i 0) j).any (· == ns.getD j 0)=decide (ns[j]∈ns.take j):=by rw[Bool.eq_iff_iff,R3,decide_eq_true_iff,<-a,l];exact⟨λ⟨x,f,e⟩=>by rw[<-eq_of_beq e];exact f,λh=>⟨_,h,by simp⟩⟩
   have u:=PyProof.Rows.firstMet_length_le (λi=>ns.getD i 0) j;rw[PyProof.Rows.firstMet_succ,B];constructor
   .intro k
    have:=PyProof.Rows.step_any (PyProof.Rows.firstMet (λi=>ns.getD i 0) j) (ns.getD j 0) k
    rw[Bool.eq_iff_iff,R3,Bool.or_eq_true,R3,decide_eq_true_iff,l]at this;rw[ml,MK,<-a];constructor
    .intro h;rw[l]at h;rcases this.mp ⟨k,h,by simp⟩with⟨x,f,e⟩|e
     .rw[<-eq_of_beq e];exact .inl f
     .exact .inr e
    .intro h;obtain⟨x,f,e⟩:=this.mpr (h.imp (λh=>⟨k,h,by simp⟩) id);rw[l,<-eq_of_beq e];exact f
   .rw[PyProof.Rows.step_length,C,Fi];by_cases z:ns[j]∈ns.take j
    .exact⟨λh=>by lia,λh=>absurd rfl (h.2.2 _ z _ (by simp))⟩
    .simp only[z,decide_false,nw];constructor
     .intro h
      exact⟨b.mp ⋯,by simp,λx f y F e=>z (by
       have:y=ns[j]:=by simpa using F
       rw[<-this,<-e];exact f)⟩
     .intro h;lia
 have:=(key ns.length (i4 _)).2
 rw[Ia]at this;exact this
section
variable{ws:WQ}
def ux(a:Xe ws):Xe ws where
 m:=IG a.m
 p:=λenv s=>(a.p env s).bind λd s=>.of ((gf d).map λb=>.bl (!b)) s
 fz:=I
 fr:=I
 ok {q h L B O Z env s} c:=by
  refine(a.ok c).bind λx v f l u i ⟨w,_,_⟩=>?_
  cases e:gf x with
  |none=>trivial
  |some b=>rw[mR w e];exact⟨_,f,rfl,KB.refl _ _,i,.inl rfl,λ_=>rfl,λ_ r j=>by cases j⟩
@[simp]theorem Hc{a:Xe ws}{env:az}{s:g_}:(ux a).p env s=(a.p env s).bind λd s=>.of ((gf d).map λb=>.bl (!b)) s:=rfl
end
end PU
namespace PU
open MM L2
def Rv{ws ws':WQ}(i:Nat)(b:Xd ws')(hi:ws.contains i=I:=by exact ys rfl)(S:ws.filter (· != i)=ws':=by exact ys rfl):Xd ws where
 m:=b.m
 p:=λenv s=>match env[i]? with
  |some (J _)=>(match b.p env s with|.rt d s=>.rt d s|_=>.bad)
  |_=>.bad
 fr:=b.fr
 ok {q h L B O Z env s} c d:=by
  show SOk q L h B O ws b.fr (b.m Z h) (match env[i]? with|some (J _)=>(match b.p env s with|.rt d s=>PS.rt d s|_=>.bad)|_=>.bad)
  cases e:env[i]? with
  |none=>trivial
  |some o =>
   cases o with
   |none=>trivial
   |some x =>
    have E:i∈ws:=by simpa using hi
    obtain⟨n,xs,ds,e1,e2,a,bb,g,r⟩:=c.sr.ow i x e E;have G:∀j,j∈ws'↔j∈ws/\j≠i:=λj=>by rw[<-S];simp
    have u:∀o,o∈O.filter (· != n)↔o∈O/\o≠n:=λo=>by simp
    have mv:Mv O h (O.filter (· != n)) h:=⟨λ_ _ _=>rfl,λo f=>.inl ((u o).mp f).1⟩;have c':Cx q h L B (O.filter (· != n)) ws' Z env s:=by
     refine⟨λo f=>c.bd o ((u o).mp f).1,λo f=>(u o).mpr ⟨c.sub o f,λz=>by have:=c.bb o f;lia⟩,c.bb,c.pb,c.hL,c.pen,c.sr.len,λj y l F=>?_,λj y l F=>?_⟩
     .by_cases z:j=i
      .subst z;rw[e]at l;cases l;subst e1;exact⟨_,e2,n,xs,rfl,λz=>((u n).mp z).2 rfl,g,r.mv mv⟩
      .obtain⟨v,e3,q⟩:=c.sr.fz j y l λz'=>F ((G j).mpr ⟨z',z⟩);exact⟨v,e3,q.mv mv⟩
     .obtain⟨C,H⟩:=(G j).mp F;obtain⟨Q,P,M,e3,e4,U,b',X,R⟩:=c.sr.ow j y l C;refine⟨Q,P,M,e3,e4,(u Q).mpr ⟨U,λz=>?_⟩,b',X,R.mv mv⟩;subst z;exact d i j E C (Ne.symm H) x y _ e l e2 e4
    have d':Dis ws' Z env:=λj k F hk=>d j k ((G j).mp F).1 ((G k).mp hk).1;have k:=b.ok c' d'
    cases W:b.p env s with
    |rt d s=>rw[W]at k;exact k
    |_=>trivial
def Pj{f a:WQ}{i:Nat}{b:Xd a}{l:f.contains i=I}{j:f.filter (· != i)=a}{env:az}{s s':g_}{x d:D}(e:env[i]?=J (J x))(h:b.p env s=.rt d s'):(Rv i b l j).p env s=.rt d s':=by show(match env[i]? with|some (J _)=>(match b.p env s with|.rt d s=>PS.rt d s|_=>.bad)|_=>.bad)=_;rw[e,h]
def Ea:EO where
 m:=uA
 p:=λu f=>match f,u with
  |[.int 0],d::r=>J (d,r)
  |_,_=>Y
 ok {q h O n xs u f vs d ds'} g r a e:=by
  match f,u,r,a,e with
  |[.int 0],d::l,r,a,e =>
   cases e;obtain⟨x,t,rfl,z,b⟩:=a
   have:t=[]:=b
   subst this;rw[show x=PV.int 0 from z];obtain⟨y,i,rfl,B,j⟩:=r;exact⟨y,i,by simp only[uA,g],j,B⟩
noncomputable section
end
end PU
namespace MM
open PySem.Spec PyProof.Rows L2
open PU (Xe Xs Xt Xi Xg IJ Xo Xd Ri zo C_ M7 EO OpR Fn aa xC ac p8 a_ ab jj aj lU br bw xB eM eU E9 i3 dY uB ux qK aJ bO aL iw u_ mq vf au im aO jh eP n7 aG cI sP dy Lk vu wg pV bB IL yv yI yP EQ Nb G8 Rv)
structure ER(X:Cx)(e:Expr)(m:Mx Bool):Prop where
 h:MT X e m
structure LF(X:Cx)(e:Expr)(m:Mx Bool):Prop where
 h:MW X e m
structure IT(X:Cx)(tg e:Expr)(m:Mx MIt):Prop where
 h:MI X tg e m
structure Nd(X:Cx)(e:Expr)(m:Mg):Prop where
 h:MG X e m
structure Rw(X:Cx)(e:WX)(m:F4):Prop where
 h:Ob X e m
structure TN(X:Cx)(e:WX)(m:Mx Bool):Prop where
 h:IA X e m
structure Rx(X:Cx)(e:Option Expr)(m:Mx (WW)):Prop where
 h:MO' X e m
structure OJ(X:Cx)(r:Value->Value->Sem Value)(o:zo):Prop where
 h:xy X r o.m
def LG(a:Scope):WM:=(a.names.filter λy=>match y.2 with|.globalImplicit=>I|_=>T).map (·.1)
abbrev gm(sc:Scope)(x:Str):Prop:=x∈LG sc
def IU:Expr->WM
 |.Name x _=>[x]
 |.Tuple a _ _=>a.flatMap λe=>match e with
  |.Name x _=>[x]
  |.Tuple a _ _=>a.flatMap λe=>match e with
   |.Name x _=>[x]
   |_=>[]
  |_=>[]
 |_=>[]
def Nf(N:WM)(fm:WQ):WM:=fm.filterMap (N[·]?)
structure Wc(X:Cx)(P:Program)(w:World)(K:h_)(mg:WB)(base:Heap)(N W:WM)(k:Nat)(sc:Scope):Prop where
 g:Good X N W (LG sc) k
 e:EE X P w K mg base
 s:X.env.scope=sc
section
variable{X Y:Cx}{P:Program}{w:World}{K:h_}{mg:WB}{base:Heap}{N W:WM}{k:Nat}{sc:Scope}{ws:WQ}{x y:Str}{p p' pos spos:Pos}{e a b d tg:Expr}{es:WX}{i j:Nat}{st:Stmt}{rest body:List Stmt}{xa xb xd:Xe ws}{ta tb:Xt ws}{sa:Xs ws}{da db:Xd ws}
def Wc.gj(c:Wc X P w K mg base N W k sc)(h:gm sc x):∃j:Nat,(LG sc)[j]?=J x:=List.getElem?_of_mem h
def Wc.n(c:Wc X P w K mg base N W k sc)(z:Zn K x):X.mg x=none:=c.e.n z
def Pk{i:Int}:ka X (.Constant (.int i) j pos) (xC (ws:=ws) (.int i)).m:=⟨aF⟩
def Pm{i:Str}:ka X (.Constant (.str i) j pos) (xC (ws:=ws) (.str i)).m:=⟨J5⟩
def TQ{i:Bool}:ka X (.Constant (.bool i) j pos) (xC (ws:=ws) (.bl i)).m:=⟨uF⟩
def Po:ka X (.Constant .none j pos) (xC (ws:=ws) .non).m:=⟨J6⟩
def Pp{f:Operator}{o:zo}(l:OJ X (binaryOp f) o)(r:ka X a xa.m)(u:ka X b xb.m):ka X (.BinOp a f b pos) (ac o xa xb).m:=⟨aX l.h r.h u.h⟩
def Pq{f:CmpOp}{o:zo}(l:OJ X (compareOp f) o)(u:ka X a xa.m)(z:ka X b xb.m)(r:behindInMarks f b=T):ka X (.Compare a [f] [b] pos) (ac o xa xb).m:=⟨J7 l.h u.h z.h r⟩
def TR(f:ka X a xa.m)(l:ka X b xb.m)(r:oG b):ka X (.Subscript a b pos) (ac PU.il xa xb).m:=⟨Ix f.h l.h r⟩
def Pr(f:ka X a xa.m):ka X (.UnaryOp .USub a pos) (p8 PU.nj xa).m:=⟨N8 Kl f.h⟩
def LH(f:ka X a xa.m):ka X (.UnaryOp .Not a pos) (uB xa).m:=⟨Kc f.h⟩
def LJ(f:ka X a xa.m):ka X (.UnaryOp .Not a pos) (ux xa).m:=⟨G1 f.h⟩
def Hd{l f:CmpOp}{o u:zo}(z:OJ X (compareOp l) o)(r:OJ X (compareOp f) u)(C:ka X a xa.m)(E:ka X b xb.m)(hd:ka X d xd.m)(B:lastMarks [l,f] [b,d]=T):ka X (.Compare a [l,f] [b,d] pos) (qK o u xa xb xd).m:=⟨C5 z.h r.h C.h E.h hd.h B⟩
def Ps{f:BoolOp}(l:ka X a xa.m):ka X (.BoolOp f [a] pos) xa.m:=⟨Ka l.h⟩
def LK(f:ka X a xa.m)(l:ka X (.BoolOp .And (b::es) pos) xb.m):ka X (.BoolOp .And (a::b::es) pos) (dY xa xb).m:=⟨Kb f.h l.h⟩
def Pt{hz}(h:Ac X es sa.m):ka X (.Tuple es j pos) (bw sa hz).m:=V3 h
def Pu{hz}(h:Ac X es sa.m):ka X (.List es pos) (br sa hz).m:=Tn h
def TU{lo r:Option Expr}{l f:Xo ws}(z:ka X a xa.m)(u:Rx X lo l.m)(B:Rx X r f.m):ka X (.Subscript a (.Slice lo r none p) pos) (yP xa l f).m:=⟨OD z.h u.h B.h⟩
def TV:Rx X none (yv (ws:=ws)).m:=⟨Go⟩
def TW(f:ka X a xa.m):Rx X (J a) (yI xa).m:=⟨Gp f.h⟩
def Pw:Ac X [] (a_ (ws:=ws)).m:=wv
def LL(f:ka X e xa.m)(r:Ac X es sa.m)(l:bH e=I):Ac X (e::es) (ab xa sa).m:=jR f r l
def Px:OJ X (binaryOp .Add) PU.aQ:=⟨fK⟩
def Py:OJ X (binaryOp .Sub) PU.eL:=⟨Kk⟩
def Pz:OJ X (binaryOp .Mult) PU.pH:=⟨iS⟩
def PC:OJ X (binaryOp .Mod) PU.vd:=⟨fe⟩
def TX:OJ X (compareOp .Lt) PU.B_:=⟨Iq⟩
def TY:OJ X (compareOp .LtE) PU.Tr:=⟨Og⟩
def TZ:OJ X (compareOp .Gt) PU.G4:=⟨Ir⟩
def T0:OJ X (compareOp .GtE) PU.Tt:=⟨Iu⟩
def T4:OJ X (compareOp .Is) (PU.z9 T):=⟨Oh⟩
def PD:OJ X (compareOp .IsNot) (PU.z9 I):=⟨Km⟩
section
variable(c:Wc X P w K mg base N W k sc)
include c
def w_var(f:N[i]?=J x):ka X (.Name x pos) (aa (ws:=ws) i).m:=⟨BL c.g i f⟩
def T5:OJ X (compareOp .Eq) PU.o_:=⟨uD c.g.room⟩
def T6:OJ X (compareOp .NotEq) PU.EV:=⟨Of c.g.room⟩
def PF:OJ X (compareOp .Eq) PU.ph:=⟨Lc c.g.room⟩
def T7:OJ X (compareOp .In) (PU.n3 T):=⟨ID c.g.room T⟩
def PH:OJ X (compareOp .NotIn) (PU.n3 I):=⟨ID c.g.room I⟩
end
def gU{env:Env}:∀{es:WX},es.all bH=I->(backTo pos (starEach es env)).any (·.1)=T
 |[],_=>rfl
 |e::es,h=>by
  have f:bH e=I/\es.all bH=I:=by simpa using h
  have:=gU (env:=env) f.2
  rw[bc f.1];simpa [backTo]using this
section
variable(c:Wc X P w K mg base N W k sc)
include c
def LM{F:Fn}{C:WM}{hz}(z:Ac X (e::es) sa.m)(f:FnAt P w K mg base x C F.m i)(h:i<=k)(r:gm sc x)(u:(e::es).all bH=I):ka X (.Call (.Name x p) (e::es) [] pos) (aj F sa hz).m :=
 let⟨_,B⟩:=c.gj r
 have l:bH e=I/\es.all bH=I:=by simpa using u
 ⟨sj c.g B (f.c c.e h) z.h (bc l.1) (gU l.2)⟩
def LN{F:Fn}{C:WM}{hz}(z:Ac X (e::es) sa.m)(f:FnAt P w K mg base x C F.m i)(h:i<=k)(r:gm sc x)(u:(e::es).all bH=I):ka X (.Call (.Name x p) (e::es) [] pos) (lU F sa hz).m :=
 let⟨_,B⟩:=c.gj r
 have l:bH e=I/\es.all bH=I:=by simpa using u
 ⟨sj c.g B (f.c c.e h) z.h (bc l.1) (gU l.2)⟩
end
inductive BB(X:Cx)(x:Str)(o:C_):Prop
 |fn(id:String)(f:WL->MH->WZ)(h:bootBuiltins x=J (.builtin id))(c:dv X (.builtin id) f)(e:o.k=λxs h=>(f xs h).ne:=by rfl):BB X x o
 |ty(T:String)(f:WL->MH->WZ)(h:bootBuiltins x=J (.type T))(c:dv X (.type T) f)(e:o.k=λxs h=>(f xs h).ne:=by rfl):BB X x o
def PJ:BB X "int" PU.pJ:=.ty _ _ Au Kn
def PK:BB X "len" PU.bV:=.fn _ _ mP m5
def LO:BB X "list" PU.zy:=.ty _ _ yg Gn
def He:BB X "tuple" PU.kY:=.ty _ _ vF DQ
def CP:BB X "sorted" PU.nW:=.fn _ _ sV tL
section
variable(c:Wc X P w K mg base N W k sc)
include c
def PL{o:C_}(B:BB X x o)(r:Ac X (e::es) sa.m)(z:Zn K x)(C:gm sc x)(F:(e::es).all bH=I):ka X (.Call (.Name x p) (e::es) [] pos) (jj o sa).m:=by
 obtain⟨j,u⟩:=c.gj C;have l:bH e=I/\es.all bH=I:=by simpa using F
 refine⟨?_⟩;show ME X _ (λZ h=>(sa.m Z h).bind o.k)
 cases B with
 |fn id f h d q=>rw[q];exact uM c.g j u d (c.n z) h r.h (bc l.1) (gU l.2)
 |ty E f h d q=>rw[q];exact A8 c.g j u d (c.n z) h r.h (bc l.1) (gU l.2)
def PM:BB X "min" PU.jf:=.fn _ _ ng (qT c.g)
def PN:BB X "max" PU.nS:=.fn _ _ u6 (AV c.g)
def LP:BB X "min" PU.re:=.fn _ _ ng (Gu c.g)
def LQ:BB X "max" PU.pZ:=.fn _ _ u6 (Gs c.g)
def PP:BB X "all" PU.kM:=.fn _ _ Lx (Ku c.g)
def T8(B:Ac X [a] sa.m)(r:Zn K "sorted")(f:Zn K "set")(l:gm sc "sorted")(u:gm sc "set")(z:bH a=I):ka X (.Call (.Name "sorted" p) [.Call (.Name "set" p') [a] [] spos] [] pos) (jj PU.Rm sa).m :=
 let⟨_,i⟩:=c.gj l;let⟨_,j⟩:=c.gj u
 ⟨v6 c.g i (c.n r) j (c.n f) B.h (bc z)⟩
def T9(B:Ac X [a] sa.m)(r:Zn K "len")(f:Zn K "set")(l:gm sc "len")(u:gm sc "set")(z:bH a=I):ka X (.Call (.Name "len" p) [.Call (.Name "set" p') [a] [] spos] [] pos) (jj PU.TM sa).m :=
 let⟨_,i⟩:=c.gj l;let⟨_,j⟩:=c.gj u
 ⟨A0 c.g _ _ (c.n r) (c.n f) B.h i j (bc z)⟩
def T_(B:Ac X [a] sa.m)(r:Zn K "list")(f:Zn K "range")(l:gm sc "list")(u:gm sc "range")(z:bH a=I):ka X (.Call (.Name "list" p) [.Call (.Name "range" p') [a] [] spos] [] pos) (jj PU.Fp sa).m :=
 let⟨_,i⟩:=c.gj l;let⟨_,j⟩:=c.gj u
 ⟨Cl c.g i (c.n r) j (c.n f) B.h (bc z)⟩
end
structure BT(x:Str)(T:String):Prop where
 h:bootBuiltins x=J (.type T)
 o:Fl T
def PQ:BT "int" "int":=⟨Au,F7⟩
def LR:BT "bool" "bool":=⟨G9,DM⟩
def Hf:BT "tuple" "tuple":=⟨vF,As⟩
def LU:BT "list" "list":=⟨yg,Cp⟩
def PX:BT "str" "str":=⟨Lw,F8⟩
section
variable(c:Wc X P w K mg base N W k sc)
include c
def PY{f:String}(B:BT x f)(E:ka X a xa.m)(u:Zn K "isinstance")(l:Zn K x)(r:gm sc "isinstance")(z:gm sc x)(C:bH a=I):ka X (.Call (.Name "isinstance" p) [a,.Name x p'] [] pos) (p8 (PU.cu [f]) xa).m :=
 let⟨_,i⟩:=c.gj r;let⟨_,j⟩:=c.gj z
 ⟨Ko c.g i (c.n u) j (c.n l) B.h B.o E.h (bc C)⟩
def LV{f u:String}{kt}{q O pt:Pos}(B:BT x f)(r:BT y u)(G:ka X a xa.m)(L:Zn K "isinstance")(H:Zn K x)(z:Zn K y)(F:gm sc "isinstance")(C:gm sc x)(M:gm sc y)(E:bH a=I):ka X (.Call (.Name "isinstance" p) [a,.Tuple [.Name x q,.Name y O] kt pt] [] pos) (p8 (PU.cu [f,u]) xa).m :=
 let⟨_,i⟩:=c.gj F;let⟨_,j⟩:=c.gj C;let⟨_,l⟩:=c.gj M
 ⟨Gw c.g i (c.n L) j (c.n H) B.h B.o l (c.n z) r.h r.o G.h (bc E)⟩
end
abbrev MJ(X:Cx)(name:Str)(f:Nat->WL->MH->WZ):Prop:=∃id,Slot "list" name id/\typeOf (.builtin id)=pure (.type "method_descriptor")/\FV X id (Gk X f)
section
variable{name:Str}{f:Nat->WL->MH->WZ}{o:EO}{m:Mx PV}
def Ua{l:Mx (WL)}(M:MJ X name f)(r:ka X a m)(u:Ac X (e::es) l)(h:(((backTo pos (starEach (e::es) X.env)).all (λx=>!x.1)&&(backToKw pos (keywordEach [] X.env)).all (λx=>x.1.isSome)&&decide ((e::es).length+([]:List Keyword).length+(if([]:List Keyword).isEmpty then 0 else 1)<30))=I/\(p.endLine==pos.line)=I)/\attributeBase a name X.env (eval a X.env)=eval a X.env/\starEach (e::es) X.env=(T,eval e X.env)::starEach es X.env/\(backTo pos (starEach es X.env)).any (·.1)=T):ka X (.Call (.Attribute a name p) (e::es) [] pos) (Ed f m l) :=
 let⟨_,x,y,z⟩:=M
 ⟨y9 x y z r.h u.h h.2.1 h.1.1 h.1.2 h.2.2.1 h.2.2.2⟩
def Ub{o:OpR}(h:ka X e (Ed o.m xa.m sa.m)):ka X e (Nb o xa sa).m:=h
def Uc{hi hz}(h:ka X e (Ed o.m (aa (ws:=ws) i).m sa.m))(l:swapsWith e none pos.line X.env=pure T):wh X (.Expr e pos) (vu o i sa hi hz).m:=⟨oS h.h l⟩
def PZ{hi hj hz}(c:Wc X P w K mg base N W k sc)(h:ka X e (Ed o.m (aa (ws:=ws) i).m sa.m))(u:swapsWith e (J (.Name y p)) pos.line X.env=pure T)(r:N[j]?=J y)(l:W[j]?=J y):wh X (.Assign [.Name y p] e pos) (wg j o i sa hi hj hz).m:=⟨mV c.g j r l h.h u⟩
end
def C8:MJ X "append" PU.kv.m:=⟨_,nD,mZ,ni⟩
def CZ:MJ X "extend" PU.li.m:=⟨_,BG,Bu,BD⟩
def DA:MJ X "insert" PU.yU.m:=⟨_,AT,BA,Br⟩
def CQ:MJ X "remove" PU.Dg.m:=⟨_,Az,Bj,BO⟩
def LW:MJ X "pop" PU.Ea.m:=⟨_,Ly,Lz,G2⟩
def Hg:MJ X "index" PU.zV.m:=⟨_,CF,DR,DP⟩
def LX{f:CmpOp}{o:zo}(l:OJ X (compareOp f) o)(u:ka X a xa.m)(z:ka X b xb.m)(r:behindInMarks f b=T):ER X (.Compare a [f] [b] pos) (xB (ac o xa xb)).m:=⟨A9 l.h u.h z.h r⟩
def LY(h:ER X a ta.m):ER X (.UnaryOp .Not a pos) (eM ta).m:=⟨vH h.h⟩
def Ud{f:BoolOp}(h:LF X (.BoolOp f es pos) ta.m):ER X (.BoolOp f es pos) ta.m:=⟨MW.mt h.h⟩
def LZ(h:ER X a ta.m):LF X (.BoolOp .And [a] pos) ta.m:=⟨F1 h.h⟩
def P0(h:ER X a ta.m):LF X (.BoolOp .Or [a] pos) ta.m:=⟨J9 h.h⟩
def w_and(h:ER X a ta.m)(f:LF X (.BoolOp .And (b::es) pos) tb.m):LF X (.BoolOp .And (a::b::es) pos) (eU ta tb).m:=⟨J_ h.h f.h⟩
def w_or(h:ER X a ta.m)(f:LF X (.BoolOp .Or (b::es) pos) tb.m):LF X (.BoolOp .Or (a::b::es) pos) (E9 ta tb).m:=⟨N_ h.h f.h⟩
def P1(h:ka X e xa.m)(l:∀f,isTrue e X.env f=(do let v <-f;standAt e.pos;holding [v] (truthy v))):ER X e (EQ xa).m:=⟨Lb h.h l⟩
def P2(h:ka X e xa.m)(l:∀f,isTrue e X.env f=(do let v <-f;standAt e.pos;holding [v] (truthy v))):ER X e (xB xa).m:=⟨uO h.h l⟩
def P4:TN X [] (i3 (ws:=ws)).m:=⟨sS⟩
def P5(h:ER X a ta.m):TN X [a] ta.m:=⟨Gg h.h⟩
def Ue:Rw X [] (u_ (ws:=ws)).m:=⟨xQ⟩
def Uf{ga:Xg ws}{f:IJ ws}(l:Nd X e ga.m)(r:Rw X es f.m)(u:(assignEach (e::es) X.env).map (·.2)=assign e X.env::(assignEach es X.env).map (·.2)):Rw X (e::es) (mq ga f).m:=⟨pX l.h r.h u⟩
def P6(h:ka X a xa.m):IT X tg a (aL xa).m:=⟨vV h.h⟩
section
variable(c:Wc X P w K mg base N W k sc)
include c
def Ug{hi}(h:N[i]?=J x)(f:W[i]?=J x):Nd X (.Name x pos) (iw (ws:=ws) i hi).m:=⟨yx c.g i h f⟩
def Uh{l:IJ ws}{n:Nat}(h:Rw X es l.m)(r:(assignEach es X.env).length=n)(f:(assignEach es X.env).findIdx? (·.1)=none):Nd X (.Tuple es j pos) (vf l n).m:=⟨Bn c.g h.h r f⟩
def Ui{n:Nat}(h:Ac X [a] sa.m)(z:Zn K "enumerate")(f:gm sc "enumerate")(l:bH a=I):IT X (.Tuple es n p) (.Call (.Name "enumerate" p') [a] [] pos) (bO PU.iE sa).m:=let⟨_,r⟩:=c.gj f;⟨GW c.g r (c.n z) h.h (bc l)⟩
def Uj{n:Nat}(h:Ac X [a,b] sa.m)(z:Zn K "zip")(f:gm sc "zip")(u:starEach [a,b] X.env=(T,eval a X.env)::starEach [b] X.env)(l:(backTo pos (starEach [b] X.env)).any (·.1)=T):IT X (.Tuple es n p) (.Call (.Name "zip" p') [a,b] [] pos) (bO PU.iZ sa).m:=let⟨_,r⟩:=c.gj f;⟨La c.g r (c.n z) h.h u l⟩
def P7(h:Ac X [a] sa.m)(z:Zn K "range")(l:gm sc "range")(f:bH a=I):IT X tg (.Call (.Name "range" p) [a] [] pos) (bO PU.Fa sa).m:=⟨tJ (c.g.gl _ l) (c.n z) h.h (bc f)⟩
def P8(h:Ac X [a,b] sa.m)(z:Zn K "range")(l:gm sc "range")(r:starEach [a,b] X.env=[(T,eval a X.env),(T,eval b X.env)])(f:starEach [b] X.env=[(T,eval b X.env)]):IT X tg (.Call (.Name "range" p) [a,b] [] pos) (bO PU.Fq sa).m:=⟨tF (c.g.gl _ l) (c.n z) h.h r f⟩
end
structure CB(Y:Cx)(tg elt:Expr)(ifs:WX)(gt:Mg)(mt:Mx Bool)(me:Mx PV):Prop where
 g:Nd Y tg gt
 t:TN Y ifs mt
 e:ka Y elt me
section
variable{iter elt:Expr}{ifs:WX}{scope:Scope}{nv:Nat}{fm ws':WQ}{xi:Xi ws}{gt:Xg ws'}{xt:Xt ws'}{xe:Xe ws'}{hw:PU.E_ nv fm ws=ws'}{hz:xe.fz=true}
abbrev VB(N:WM)(tg:Expr)(nv:Nat)(fm:WQ)(scope sc:Scope):Prop:=Rs scope sc (IU tg) (Nf N fm)/\(IU tg++Nf N fm).Nodup/\(∀x∈LG (O_ scope sc),scope.names.lookup x=J .globalImplicit)/\(∀x∈(IU tg++Nf N fm)++LG (O_ scope sc),(x==("__debug__":Str))=T/\(x==("__classdict__":Str))=T/\x≠"__name__")/\fm.map (λi=>N[i]?)=(Nf N fm).map J/\(IU tg).length=nv
section
variable(c:Wc X P w K mg base N W k sc)
include c
def L0(E:IT X tg iter xi.m)(G:∀Y:Cx,Wc Y P w K mg base (IU tg++Nf N fm) (IU tg) k (O_ scope sc)->CB Y tg elt ifs gt.m xt.m xe.m)(u:scope.kind=.function)(h:VB N tg nv fm scope sc)(M:∀x,foldedSetIterable iter X.env x=pure x):ka X (.ListComp elt [⟨tg,iter,ifs,0⟩] scope pos) (aJ nv fm xi gt xt xe hw hz).m:=by
 obtain⟨l,nd,B,dbg,H,rfl⟩:=h;exact⟨yi c.g (oR c.s u H l) nd B dbg E.h (λY r C F f z L g=>let q:=G Y ⟨g,⟨r.trans c.e.e1,C.trans c.e.e2,F.trans c.e.e3,f.trans c.e.e4,z.trans c.e.e5,c.e.b⟩,L.trans (BV c.s)⟩;⟨q.g.h,q.t.h,q.e.h⟩) M⟩
end
section
variable(c:Wc X P w K mg base N W k sc)(hsw:∀env:Env,env.scope=sc->swapsWith (.ListComp elt [⟨tg,iter,ifs,0⟩] scope pos) (some (.Name y p)) spos.line env=pure true)(hi:IT X tg iter xi.m)(hY:∀Y:Cx,Wc Y P w K mg base (IU tg++Nf N fm) (IU tg) k (O_ scope sc)->CB Y tg elt ifs gt.m xt.m xe.m)(hyi:N[i]?=some y)(hyw:W[i]?=some y)(h1:scope.kind=.function)(h:VB N tg nv fm scope sc)(hs:∀x,foldedSetIterable iter X.env x=pure x)
include hsw hi hY c hyi hyw h1 h hs
def xV:wh X (.Assign [.Name y p] (.ListComp elt [⟨tg,iter,ifs,0⟩] scope pos) spos) (bN i (fH nv fm xi.m gt.m xt.m xe.m)):=by
 try clear hw
 obtain⟨z,nd,r,dbg,u,rfl⟩:=h;exact⟨ye c.g i hyi hyw (hsw X.env c.s) (oR c.s h1 u z) nd r dbg hi.h (λY B F E f l C g=>let q:=hY Y ⟨g,⟨B.trans c.e.e1,F.trans c.e.e2,E.trans c.e.e3,f.trans c.e.e4,l.trans c.e.e5,c.e.b⟩,C.trans (BV c.s)⟩;⟨q.g.h,q.t.h,q.e.h⟩) hs⟩
def L3{hi' hz'}:wh X (.Assign [.Name y p] (.ListComp elt [⟨tg,iter,ifs,0⟩] scope pos) spos) (aG i (aJ nv fm xi gt xt xe hw hz) hi' hz').m:=xV c hsw hi hY hyi hyw h1 h hs
def Hh{hi' hz'}:wh X (.Assign [.Name y p] (.ListComp elt [⟨tg,iter,ifs,0⟩] scope pos) spos) (cI i (aJ nv fm xi gt xt xe hw hz) hi' hz').m:=xV c hsw hi hY hyi hyw h1 h hs
end
end
def Uk:kn X [] (im (ws:=ws)).m:=⟨jx⟩
def i6(h:wh X st da.m):kn X [st] da.m:=El h
def cC(l:wh X st da.m)(f:kn X rest db.m):kn X (st::rest) (au da db).m:=C0 l f
def Ul{f:WQ}{hi hw}{db:Xd f}(h:kn X rest db.m):kn X rest (Rv (ws:=ws) i db hi hw).m:=h
def P9(h:ka X e xa.m):wh X (.Return (J e) pos) (aO xa).m:=E8 h
def L4{hi}(h:ka X e (aa (ws:=ws) i).m):wh X (.Return (J e) pos) (jh (ws:=ws) i hi).m:=E8 h
def L5(h:ka X e xa.m)(f:swapsWith e none pos.line X.env=pure T):wh X (.Expr e pos) (eP xa).m:=⟨oS h.h f⟩
def Um(l:ER X e ta.m)(f:kn X body da.m)(r:kn X rest db.m):wh X (.If e body rest pos) (n7 ta da db).m:=⟨lC l.h f.h r.h⟩
def P_:wh X st (G8 (ws:=ws)).m:=⟨Lv⟩
def Qa{f:Xg ws}{hz}(z:ka X e xa.m)(r:Nd X tg f.m)(B:swapsWithSole [tg] e pos.line X.env=pure T)(u:swappedStores [tg] e X.env=pure none)(l:(assignEach [tg] X.env).map (·.2)=[assign tg X.env]):wh X (.Assign [tg] e pos) (sP xa f hz).m:=⟨qA z.h r.h B u l⟩
def w_sub{hi hz}(E:ka X e xa.m)(r:ka X a (aa (ws:=ws) i).m)(B:ka X b xb.m)(C:∀v,assign (.Subscript a b p) X.env v=(do
   let f <-holding [v] (eval a X.env)
   let l <-holding [v,f] (eval b X.env)
   standAt p
   holding [v,f,l] (setItem f l v)
   release [v,f,l] []))(F:swapsWithSole [.Subscript a b p] e pos.line X.env=pure T)(z:swappedStores [.Subscript a b p] e X.env=pure none)(u:(assignEach [.Subscript a b p] X.env).map (·.2)=[assign (.Subscript a b p) X.env]):wh X (.Assign [.Subscript a b p] e pos) (pV i xa xb hi hz).m:=⟨qA E.h (wC r.h B.h C) F z u⟩
section
variable(c:Wc X P w K mg base N W k sc)
include c
def Qb{l:Xi ws}{f:Xg ws}{hz}(u:IT X tg e l.m)(r:Nd X tg f.m)(z:kn X body da.m)(B:∀x,foldedSetIterable e X.env x=pure x):wh X (.For tg e body [] pos) (dy l f da hz).m:=⟨v3 c.g u.h r.h z.h B⟩
def Uo{n hm}(f:ER X e ta.m)(l:kn X body da.m):wh X (.While e body [] pos) (Lk n ta da hm).m:=⟨Cu c.g f.h l.h⟩
def L6{hi' hz}(u:∀env:Env,env.scope=sc->swapsWith e (J (.Name x p)) pos.line env=pure T)(r:ka X e xa.m)(l:N[i]?=J x)(f:W[i]?=J x):wh X (.Assign [.Name x p] e pos) (aG i xa hi' hz).m:=⟨mV c.g i l f r.h (u _ c.s)⟩
def Hi{hi' hz}(u:∀env:Env,env.scope=sc->swapsWith e (J (.Name x p)) pos.line env=pure T)(r:ka X e xa.m)(l:N[i]?=J x)(f:W[i]?=J x):wh X (.Assign [.Name x p] e pos) (cI i xa hi' hz).m:=⟨mV c.g i l f r.h (u _ c.s)⟩
end
def Up{np:Nat}{F:WL->MH->WZ}(N:WM)(b:Ba P w K mg base)(D:b_ K x st)(f:js x st (N.take np):=by ac_rfl)(S:n_ N (N.take np) (ag st):=by nofun)(l:∀y∈N,(ag st).names.lookup y=J .local\/(ag st).names.lookup y=J .cell:=by decide +kernel)(dbg:∀x∈N++[],(x==("__debug__":Str))=T/\(x==("__classdict__":Str))=T/\x≠"__name__":=by decide +kernel)(r:F=d3 N.length (N.take np).length λ_ _=>.bad:=by rfl):FnAt P w K mg base x (N.take np) F (k+1):=by
 subst r;exact wu (G:=[]) b.kin b.ns D S f l (λ_ h=>nomatch h) dbg λX e1 e2 e3 e4 e5 z g u=>GX
def pe{F:Fn}{f:Nat}{ws:WQ}{B:Xd ws}{hw}(N:WM)(b:Ba P w K mg base)(D:b_ K x st)(z:∀X:Cx,Wc X P w K mg base N N k (ag st)->ia X->kn X (aB st) B.m)(H:F=bB N.length f B hw:=by rfl)(C:js x st (N.take f):=by ac_rfl)(S:n_ N (N.take f) (ag st):=by nofun)(G:∀y∈N,(ag st).names.lookup y=J .local\/(ag st).names.lookup y=J .cell:=by decide +kernel)(l:∀y∈LG (ag st),(ag st).names.lookup y=J .globalImplicit:=by decide +kernel)(dbg:∀x∈N++LG (ag st),(x==("__debug__":Str))=T/\(x==("__classdict__":Str))=T/\x≠"__name__":=by decide +kernel)(u:(N.take f).length=f:=by rfl):
  FnAt P w K mg base x (N.take f) F.m (k+1):=by
 have q:=wu b.kin b.ns D S C G l dbg λX e1 e2 e3 e4 e5 E g r=>(z X ⟨g,⟨e1,e2,e3,e4,e5,b⟩,E⟩ r).h;rw[u]at q;subst H;exact q
end
end MM
namespace PU
open MM SetT SortT
open L2 (qp l0 jE)
noncomputable section
section
variable{ws:WQ}
def Kept(i:Nat)(m:mh):Prop:=∀Z h a f,m Z h=.nx a f->a[i]?=Z[i]?
def rL(i:Nat)(e:az->g_->PR D)(b:az->g_->PS)(env:az)(s:g_):PS:=match e env s with
 |.ok (.lst l) f=>(match b (env.set i (J (.lst l))) f with
  |.nx a j=>(match a[i]? with
   |some (J d)=>.nx a j
   |_=>.bad)
  |_=>.bad)
 |_=>.bad
def vh(i:Nat)(e:Xe ws)(b:Xd (i::ws))(r:Xd ws)(k1:Kept i b.m)(hi:ws.contains i=T:=by exact ys rfl)(hz:e.fr=I:=by exact ys rfl):Xd ws where
 m:=bJ (bN i e.m) (bJ b.m r.m)
 p:=λenv s=>(rL i e.p b.p env s).then r.p
 fr:=r.fr
 ok {q h L B O Z env s} c d:=by
  have be:i∉ws:=λz=>by simp[z]at hi
  cases F:rL i e.p b.p env s with
  |nx Q s2 =>
   unfold rL at F
   split at F
   .rename_i ds s1 ee
    split at F
    .rename_i ba bq eb
     split at F
     .rename_i dd ed
      cases F;have k:=e.ok c;rw[ee]at k;obtain⟨v,h1,em,kb,pn,_,_,f⟩:=k;obtain⟨n,xs,rfl,hn,g,rr⟩:=f hz ds rfl;have c1:=c.kb kb pn
      have mv:Mv O h (n::O) h1:=⟨λm hm no=>kb.keep m hm λz=>no (z▸c.pO),λo l=>by
       rcases lb.mp l with z|z
       .exact .inr ⋯
       .exact .inl z⟩
      have ax:n∉O:=λz=>by have:=c.bd n z;lia
      have a4:Stp q L h O h1 (n::O):=⟨kb.len,mv,λo l=>mw _ l,λm hm hq=>kb.keep m (oy hm c.hL) hq⟩;have a5:Cx q h1 L B (n::O) (i::ws) (Z.set i (J (.loc n))) (env.set i (J (.lst ds))) s1:=by
       refine⟨λo l=>?_,λo l=>mw _ (c.sub o l),c.bb,c.pb,c1.hL,pn,?_⟩
       .rcases lb.mp l with z|z
        .subst z;exact bj g
        .exact c1.bd o z
       .have sr:=c.sr.mv mv (λo l=>mw _ l) λm hm H _=>kb.keep m hm (by have:=c.pL;lia);refine⟨by simp[sr.len],λj x C E=>?_,λj x C E=>?_⟩
        .have ne:i≠j:=λz=>E (by simp[z]);rw[n9 ne]at C;rw[n9 ne];exact sr.fz j x C λz=>E (mw _ z)
        .by_cases z:i=j
         .subst z;have H:i<env.length:=by have:=(kx.mp C).1;simpa using this
          rw[y4 H]at C;cases C;exact⟨n,xs,ds,rfl,y4 (by rw[sr.len];exact H),by simp,by have:=c.hL;lia,g,rr⟩
         .rw[n9 z]at C;rw[n9 z];exact sr.ow j x C ((lb.mp E).resolve_left λq=>z q.symm)
      have a7:Dis (i::ws) (Z.set i (J (.loc n))) (env.set i (J (.lst ds))):=by
       have old:∀j d,j∈ws->i≠j->(env.set i (J (.lst ds)))[j]?=J (J d)->(Z.set i (J (.loc n)))[j]?≠J (J (.loc n)):=λj d E ne C z=>by
        rw[n9 ne]at C z;obtain⟨n',_,_,_,b2,b3,_⟩:=c.sr.ow j d C E;rw[z]at b2;cases b2;exact ax b3
       intro a b ha hb ne x y m ea eb P;by_cases z1:i=a
       .subst z1;have H:i<Z.length:=by have:=(kx.mp P).1;simpa using this
        rw[y4 H]at P;cases P;exact old b y ((lb.mp hb).resolve_left λq=>ne q.symm) ne eb
       .have an:a∈ws:=(lb.mp ha).resolve_left λq=>z1 q.symm;by_cases z2:i=b
        .subst z2;intro z;have H:i<Z.length:=by have:=(kx.mp z).1;simpa using this
         rw[y4 H]at z;cases z;exact old a x an z1 ea P
        .have a8:b∈ws:=(lb.mp hb).resolve_left λq=>z2 q.symm;rw[n9 z1]at ea P;rw[n9 z2]at eb ⊢;exact d a b an a8 ne x y m ea eb P
      have kk:=b.ok a5 a7;rw[eb]at kk;obtain⟨X,h2,e2,M,a6,u,a1⟩:=kk;have a2:X[i]?=(Z.set i (J (.loc n)))[i]?:=k1 _ _ _ _ e2;have R:X[i]?=J (J (.loc n)):=by obtain⟨_,_,_,_,P,_⟩:=u.sr.ow i dd ed (by simp);rw[a2]at P ⊢;have H:=(kx.mp P).1;exact y4 (by simpa using H)
      have G:∀o∈M.filter (λo=>o != n),o∈M:=λo l=>(wl.mp l).1;have U:∀o,o∈M->o≠n->o∈M.filter (λo=>o != n):=λo l ne=>wl.mpr ⟨l,by simpa using ne⟩;have ap:n∉M.filter (λo=>o != n):=λz=>by simpa using(wl.mp z).2
      have st:Stp q L h O h2 (M.filter (λo=>o != n)):=by have t:=a4.trans a6;exact⟨t.len,⟨t.mv.keep,λo l=>t.mv.new o (G o l)⟩,λo l=>U o (t.sub o l) λz=>ax (z▸l),t.base⟩
      have S:Mv M h2 (M.filter (λo=>o != n)) h2:=⟨λ_ _ _=>rfl,λo l=>.inl (G o l)⟩;have a3:Cx q h2 L B (M.filter (λo=>o != n)) ws X Q s2:=by
       refine⟨λo l=>u.bd o (G o l),λo l=>U o (u.sub o l) λz=>?_,c.bb,c.pb,u.hL,u.pen,u.sr.len,λj x C E=>?_,λj x C E=>?_⟩
       .have:=c.bb o l
        have:=c.hL
        lia
       .by_cases z:j=i
        .subst z;obtain⟨n',W,a0,e1,e2,_,_,g',r'⟩:=u.sr.ow j x C (by simp);rw[R]at e2;cases e2;exact⟨.loc n,R,by rw[e1];exact⟨n,W,rfl,ap,g',r'.mv S⟩⟩
        .obtain⟨v,e1,r1⟩:=u.sr.fz j x C λq=>(lb.mp q).elim z E;exact⟨v,e1,r1.mv S⟩
       .have ne:i≠j:=λz=>be (z▸E);obtain⟨n',W,a0,e1,as,bn,e4,g',r'⟩:=u.sr.ow j x C (mw _ E);have a9:n'≠n:=λz=>by
         subst z;exact a1 i j (by simp) (mw _ E) ne dd x _ ed C R as
        exact⟨n',W,a0,e1,as,U n' bn a9,e4,g',r'.mv S⟩
      have al:Dis ws X Q:=λa b ha hb=>a1 a b (mw _ ha) (mw _ hb);have fin:=(r.ok a3 al).after st;have bi:bN i e.m Z h=.nx (Z.set i (J (.loc n))) h1:=by delta bN zi;rw[em]
      have ay:bJ (bN i e.m) (bJ b.m r.m) Z h=r.m X h2:=by
       show(bN i e.m Z h).then (bJ b.m r.m)=_
       rw[bi];show(b.m (Z.set i (J (.loc n))) h1).then r.m=_
       rw[e2];rfl
      rw[ay,af];exact fin
     .cases F
    .cases F
   .cases F
  |bad=>trivial
  |_ =>
   exfalso;unfold rL at F
   repeat' split at F
   all_goals cases F
def L7{i:Nat}{e:Xe ws}{b:Xd (i::ws)}{r:Xd ws}{k1 hi hz}{env env':az}{s a s2:g_}{f:WR}{d:D}(e1:e.p env s=.ok (.lst f) a)(e2:b.p (env.set i (J (.lst f))) a=.nx env' s2)(e3:env'[i]?=J (J d)):(vh i e b r k1 hi hz).p env s=r.p env' s2:=by
 show(rL i e.p b.p env s).then r.p=_
 delta rL;rw[e1];simp only[e2,e3,af]
def rV{B:MIt}{g:Mg}{b:mh}{j:Nat}(i:∀x Z h a f,g x Z h=.nx a f->a[j]?=Z[j]?)(kb:∀Z h a f,b Z h=.nx a f\/b Z h=.ct a f\/b Z h=.bk a f->a[j]?=Z[j]?):∀xs,Kept j (xT B g b xs)
 |[]=>λZ h a f z=>by
  unfold xT at z
  split at z
  .cases z;rfl
  .cases z
 |x::r=>λZ h a f z=>by
  unfold xT at z
  split at z
  .split at z
   .rename_i E C e1
    have l:=i _ _ _ _ _ e1
    split at z
    .rename_i y u e2
     rw[rV i kb r _ _ _ _ z,kb _ _ _ _ (.inl e2),l]
    .rename_i y u e2
     rw[rV i kb r _ _ _ _ z,kb _ _ _ _ (.inr (.inl e2)),l]
    .grind
    all_goals cases z
   all_goals cases z
  .cases z
def Di{i:Mx MIt}{g:Mg}{b:mh}{j:Nat}(l:∀x Z h a f,g x Z h=.nx a f->a[j]?=Z[j]?)(kb:∀Z h a f,b Z h=.nx a f\/b Z h=.ct a f\/b Z h=.bk a f->a[j]?=Z[j]?):Kept j (nN i g b):=λZ h a f z=>by
 unfold nN zi at z
 split at z
 .exact rV l kb _ _ _ _ _ z
 all_goals cases z
def Hj{i j:Nat}(ne:i≠j):∀x Z h a f,CL i x Z h=.nx a f->a[j]?=Z[j]?:=by simp_all
def AA{m:Mx PV}{j:Nat}:∀Z h a f,fD m Z h=.nx a f\/fD m Z h=.ct a f\/fD m Z h=.bk a f->a[j]?=Z[j]?:=λZ h a f z=>by
 rcases z with z | z | z<;>unfold fD zi at z<;>split at z<;>first | (cases z;rfl) | cases z
def qO{f:Xi ws}{i j l:Nat}{o:EO}{a:Xs ws}{hn hi hz hf}(ne:i≠j):Kept j (dy f (iw i hn) (vu o l a hi hz) hf).m:=Di (Hj ne) AA
end
end
end PU
namespace MM
open PySem.Spec PyProof.Rows L2
open PU (Xe Xd vh cI)
def Qc{X:Cx}{st:Stmt}{i:Nat}{f:WQ}{a:Xe f}{hi hz}(h:wh X st (cI i a hi hz).m):wh X st (cI i a hi hz).m:=h
def Qd{X:Cx}{P:Program}{w:World}{K:h_}{mg:WB}{base:Heap}{N W:WM}{k i:Nat}{z:Scope}{j:WQ}{l:Xe j}{b:Xd (i::j)}{r:Xd j}{e:Expr}{st:Stmt}{a:List Stmt}{x:Str}{p f:Pos}{kk hi' hz'}(c:Wc X P w K mg base N W k z)(F:ka X e l.m)(u:wh X st b.m)(E:kn X a r.m)(B:swapsWith e (J (.Name x p)) f.line X.env=pure T)(C:N[i]?=J x)(y:W[i]?=J x):kn X (.Assign [.Name x p] e f::st::a) (vh i l b r kk hi' hz').m:=C0 ⟨mV c.g i C y F.h B⟩ (C0 u E)
end MM
namespace Law
open PySem.Spec PyProof.Rows L2 MM
set_option maxHeartbeats 4000000
noncomputable section
def y3:mh:=(bJ (bN 2 (aC k4 (aC j3 (mC (.int 7919)) (ar 1)) (mC (.int 11))))
 (bJ (Ec (mB (aC EZ (ar 1) (t_ CO (aq (t_ p6 (aq (ar 0) ib)) (aq (mC (.int 63)) ib))))) (bN 2 (aC bG (ar 0) (ar 1))) (Ec (mB (aC E0 (t_ p6 (aq (ar 0) ib)) (mC (.int 0)))) (bN 2 (aC k4 (aC lf (aC bG (ar 0) (aC lf (ar 1) (t_ CO (aq (t_ p6 (aq (ar 0) ib)) (aq (mC (.int 63)) ib))))) (aC p0 (mC (.int 10)) (mC (.int 15)))) (aC j3 (mC (.int 48271)) (ar 1)))) l7))
 (bJ (Ec (mB (aC EI (t_ DO (aq (ar 2) ib)) (aC p0 (mC (.int 10)) (mC (.int 18))))) (cr (gL (aq (mC (.int 1)) (aq (t_ DO (aq (ar 2) ib)) (aq (mC (.int 0)) ib))))) l7)
 (cr (gL (aq (mC (.int 0)) (aq (aC k4 (aC lf (ar 2) (mC (.int 2147483587))) (aC j3 (mC (.int 40009)) (ar 1))) (aq (mC (.int 0)) ib))))))))
def dR:WL->MH->WZ:=d3 3 2 y3
def sw:mh:=(bJ (pT (aC k4 (aC bG (ar 0) (mC (.int 2))) (mC (.int 1))) (Io (ar 0) (mC (.int 2))))
 (bJ (Ec (mB (aC r_ (aC bG (ar 0) (mC (.int 0))) (mC (.int 1)))) (bJ (bN 3 (aC lf (aC bG (ar 0) (mC (.int 1))) (ar 1)))
 (bJ (pT (aC EJ (aC bG (ar 0) (mC (.int 1))) (ar 1)) (Io (ar 0) (mC (.int 1))))
 (cr (ar 3)))) l7)
 (bJ (bN 2 (aC lf (aC j3 (aC k4 (aC k4 (aC bG (ar 0) (mC (.int 1))) (aC j3 (mC (.int 40503)) (aC bG (ar 0) (mC (.int 2))))) (mC (.int 1))) (mC (.int 48271))) (mC (.int 2147483647))))
 (bJ (bN 2 (aC lf (aC j3 (ar 2) (aC k4 (aC k4 (aC lf (ar 2) (mC (.int 65521))) (aC bG (ar 0) (mC (.int 2)))) (mC (.int 3)))) (mC (.int 2147483629))))
 (cr (aC lf (aC EJ (aC lf (aC j3 (ar 2) (aC k4 (aC lf (ar 2) (mC (.int 8191))) (mC (.int 7)))) (mC (.int 2147483563))) (mC (.int 64))) (ar 1)))))))
def eV:WL->MH->WZ:=d3 4 2 sw
def q0:mh:=(cr (t_ E3 (aq (mC (.int 4)) (aq (t_ CO (aq (t_ p6 (aq (ar 0) ib)) (aq (ar 1) ib))) ib))))
def fB:WL->MH->WZ:=d3 2 2 q0
def zX:mh:=(bJ (bN 1 (fH 1 [] (kc (aq (aC bG (ar 0) (mC (.int 0))) ib)) (CL 0) v_ (gL ib)))
 (bJ (nN (kI (aC bG (ar 0) (mC (.int 1)))) (MX (Im (CL 2) (Im (CL 3) Oc)) 2) (bJ (fD (Ed dE (aC bG (ar 1) (ar 2)) (aq (ar 3) ib)))
 (fD (Ed dE (aC bG (ar 1) (ar 3)) (aq (ar 2) ib)))))
 (cr (fH 1 [] (kI (ar 1)) (CL 0) v_ (t_ j_ (aq (ar 0) ib))))))
def hV:WL->MH->WZ:=d3 4 1 zX
end
end Law
namespace Law
open MM PU
open SetT SortT
open L2 (qp l0 jE)
set_option maxHeartbeats 4000000
noncomputable section
def gG:Xd []:=(aO (dY (p8 (cu ["int"]) (aa 0)) (uB (p8 (cu ["bool"]) (aa 0)))))
def gN:Fn:=bB 1 1 gG
def w4{a:WR}{s:g_}(h:a.length=1):gN.p a s=(gG.p (i_ 1 a) s).fin:=aT h
def gS:Xd []:=(aO (dY (aj gN (ab (aa 1) a_)) (qK Tr B_ (xC (.int 0)) (aa 1) (aa 0))))
def cc:Fn:=bB 2 2 gS
def wP{a:WR}{s:g_}(h:a.length=2):cc.p a s=(gS.p (i_ 2 a) s).fin:=aT h
def d7:Xd []:=(n7 (eM (xB (aj cc (ab (aa 0) (ab (aa 1) a_))))) G8 im)
def aU:Fn:=bB 2 2 d7
def rW{a:WR}{s:g_}(h:a.length=2):aU.p a s=(d7.p (i_ 2 a) s).fin:=aT h
def dN:Xd []:=(dy (aL (aa 1)) (iw 2) (eP (aj aU (ab (aa 0) (ab (aa 2) a_)))))
def cV:Fn:=bB 3 2 dN
def qe{a:WR}{s:g_}(h:a.length=2):cV.p a s=(dN.p (i_ 3 a) s).fin:=aT h
def d6:Xd []:=(aO (jj kY (ab (jj Rm (ab (aJ 1 [] (aL (aa 0)) (ws':=[]) (iw 0) i3 (bw (ab (jj re (ab (aa 0) a_)) (ab (jj pZ (ab (aa 0) a_)) a_)))) a_)) a_)))
def bm:Fn:=bB 1 1 d6
def sF{a:WR}{s:g_}(h:a.length=1):bm.p a s=(d6.p (i_ 1 a) s).fin:=aT h
def fb:Xd []:=(au (eP (aj aU (ab (ac il (aa 0) (xC (.int 0))) (ab (aa 1) a_))))
 (au (aG 2 (aJ 2 [1] (aL (ac il (aa 0) (xC (.int 1)))) (ws':=[]) (vf (mq (iw 0) (mq (iw 1) u_)) 2) (xB (ac o_ (aa 1) (aa 2))) (aa 0)))
 (au (aG 3 (aJ 2 [1] (aL (ac il (aa 0) (xC (.int 1)))) (ws':=[]) (vf (mq (iw 0) (mq (iw 1) u_)) 2) (xB (ac o_ (aa 0) (aa 2))) (aa 1)))
 (aO (ac aQ (aa 2) (aa 3))))))
def aY:Fn:=bB 4 2 fb
def ur{a:WR}{s:g_}(h:a.length=2):aY.p a s=(fb.p (i_ 4 a) s).fin:=aT h
def gI:Xd []:=(au (n7 (eM (xB (p8 (cu ["list"]) (aa 1)))) (aO (xC (.bl T))) im)
 (au (n7 (eM (xB (jj kM (ab (aJ 1 [0] (aL (aa 1)) (ws':=[]) (iw 0) i3 (aj cc (ab (ac il (aa 1) (xC (.int 0))) (ab (aa 0) a_)))) a_)))) (aO (xC (.bl T))) im)
 (aO (ac o_ (jj nW (ab (aa 1) a_)) (jj Fp (ab (ac il (aa 0) (xC (.int 0))) a_))))))
def gP:Fn:=bB 2 2 gI
def w5{a:WR}{s:g_}(h:a.length=2):gP.p a s=(gI.p (i_ 2 a) s).fin:=aT h
def eE:Xd []:=(n7 (eM (xB (aj gP (ab (aa 0) (ab (aa 1) a_))))) G8 im)
def d8:Fn:=bB 2 2 eE
def rO{a:WR}{s:g_}(h:a.length=2):d8.p a s=(eE.p (i_ 2 a) s).fin:=aT h
def i9:Xd [1]:=(au (cI 1 (br a_))
 (au (dy (bO iE (ab (aa 0) a_)) (vf (mq (iw 2) (mq (iw 3) u_)) 2) (vu li 1 (ab (aJ 1 [3] (aL (yP (aa 0) (yI (ac aQ (aa 2) (xC (.int 1)))) yv)) (ws':=[]) (iw 0) i3 (bw (ab (aa 1) (ab (aa 0) a_)))) a_)))
 (jh 1)))
def cN:Fn:=bB 4 1 i9
def eD:Xd []:=(aO (aj cN (ab (aJ 1 [1] (aL (aj aY (ab (aa 0) (ab (aa 2) a_)))) (ws':=[]) (iw 0) (xB (ac (n3 T) (aa 0) (aa 1))) (aa 0)) a_)))
def ci:Fn:=bB 3 3 eD
def sC{a:WR}{s:g_}(h:a.length=3):ci.p a s=(eD.p (i_ 3 a) s).fin:=aT h
def fL:Xd []:=(aO (aJ 1 [0] (aL (aj ci (ab (aa 0) (ab (aa 1) (ab (aa 2) a_))))) (ws':=[]) (iw 0) (xB (ac (n3 I) (aa 0) (ac il (aa 1) (xC (.int 1))))) (aa 0)))
def bW:Fn:=bB 3 3 fL
def uK{a:WR}{s:g_}(h:a.length=3):bW.p a s=(fL.p (i_ 3 a) s).fin:=aT h
def eS:Xd []:=(au (eP (aj aU (ab (ac il (aa 0) (xC (.int 0))) (ab (aa 2) a_))))
 (au (eP (aj cV (ab (ac il (aa 0) (xC (.int 0))) (ab (aa 1) a_))))
 (au (aG 3 (aJ 1 [2] (aL (ac il (aa 0) (xC (.int 1)))) (ws':=[]) (iw 0) (xB (ac (n3 I) (aa 1) (aa 0))) (aa 0)))
 (aO (bw (ab (ac il (aa 0) (xC (.int 0))) (ab (aj bm (ab (ac aQ (aa 3) (aj ci (ab (aa 0) (ab (aa 1) (ab (aa 2) a_))))) a_)) a_)))))))
def dM:Fn:=bB 4 3 eS
def ud{a:WR}{s:g_}(h:a.length=3):dM.p a s=(eS.p (i_ 4 a) s).fin:=aT h
def jC:Xd [2]:=(au (eP (aj d8 (ab (aa 0) (ab (aa 1) a_))))
 (au (cI 2 (jj zy (ab (ac il (aa 0) (xC (.int 1))) a_)))
 (au (aG 3 (aa 0))
 (au (dy (bO iE (ab (aa 1) a_)) (vf (mq (iw 4) (mq (iw 5) u_)) 2) (au (aG 3 (aj dM (ab (aa 3) (ab (yP (aa 1) (yI (aa 4)) yv) (ab (aa 5) a_)))))
 (vu li 2 (ab (ac il (aa 3) (xC (.int 1))) a_))))
 (aO (bw (ab (ac il (aa 0) (xC (.int 0))) (ab (lU bm (ab (aa 2) a_)) a_))))))))
def cM:Fn:=bB 6 2 jC
def B6{a:WR}{s:g_}(h:a.length=2):cM.p a s=(jC.p (i_ 6 a) s).fin:=aT h
def lg:Xd []:=(aO (aj bm (ab (aJ 2 [0] (bO iE (ab (aa 0) a_)) (ws':=[]) (vf (mq (iw 0) (mq (iw 1) u_)) 2) i3 (bw (ab (ac il (aa 2) (ac eL (aa 0) (xC (.int 1)))) (ab (aa 1) a_)))) a_)))
def gz:Fn:=bB 1 1 lg
def CD{a:WR}{s:g_}(h:a.length=1):gz.p a s=(lg.p (i_ 1 a) s).fin:=aT h
def iR:Xd []:=(au (n7 (E9 (eM (xB (p8 (cu ["list"]) (aa 1)))) (xB (ac B_ (jj bV (ab (aa 1) a_)) (xC (.int 3))))) (aO (xC (.bl T))) im)
 (au (n7 (eM (xB (jj kM (ab (aJ 1 [0] (aL (aa 1)) (ws':=[]) (iw 0) i3 (aj cc (ab (ac il (aa 1) (xC (.int 0))) (ab (aa 0) a_)))) a_)))) (aO (xC (.bl T))) im)
 (au (n7 (xB (ac EV (jj TM (ab (aa 1) a_)) (jj bV (ab (aa 1) a_)))) (aO (xC (.bl T))) im)
 (aO (jj kM (ab (aJ 1 [0] (aL (aj gz (ab (aa 1) a_))) (ws':=[]) (iw 0) i3 (ac (n3 T) (aa 0) (ac il (aa 1) (xC (.int 1))))) a_))))))
def gn:Fn:=bB 2 2 iR
def zP{a:WR}{s:g_}(h:a.length=2):gn.p a s=(iR.p (i_ 2 a) s).fin:=aT h
def eA:Xd []:=(au (aG 1 (aj gz (ab (aa 0) a_)))
 (aO (aJ 1 [1] (aL (aj bm (ab (aj cN (ab (aa 0) a_)) a_))) (ws':=[]) (iw 0) (xB (ac (n3 I) (aa 0) (aa 1))) (aa 0))))
def dj:Fn:=bB 2 1 eA
def rl{a:WR}{s:g_}(h:a.length=1):dj.p a s=(eA.p (i_ 2 a) s).fin:=aT h
def fM:Xd []:=(aO (aJ 1 [0] (aL (aj dj (ab (aa 1) a_))) (ws':=[]) (iw 0) (xB (ac (n3 T) (aa 0) (ac il (aa 1) (xC (.int 1))))) (aa 0)))
def fN:Fn:=bB 2 2 fM
def u4{a:WR}{s:g_}(h:a.length=2):fN.p a s=(fM.p (i_ 2 a) s).fin:=aT h
def iQ:Xd []:=(aO (dY (aj gn (ab (aa 0) (ab (aa 1) a_))) (dY (ac Tt (jj bV (ab (aa 1) a_)) (xC (.int 4))) (ux (aj fN (ab (aa 0) (ab (aa 1) a_)))))))
def eT:Fn:=bB 2 2 iQ
def yM{a:WR}{s:g_}(h:a.length=2):eT.p a s=(iQ.p (i_ 2 a) s).fin:=aT h
def dJ:Xd [4,5]:=(au (cI 4 (br (ab (br (ab (aa 2) a_)) a_)))
 (au (cI 5 (br (ab (aa 2) a_)))
 (au (Lk 400 (EQ (aa 4)) (au (wg 6 Ea 4 (ab (xC (.int 0)) a_))
 (au (n7 (xB (ac o_ (ac il (aa 6) (p8 nj (xC (.int 1)))) (aa 3))) (aO (aa 6)) im)
 (dy (aL (aj aY (ab (aa 0) (ab (ac il (aa 6) (p8 nj (xC (.int 1)))) a_)))) (iw 7) (n7 (eU (xB (ac (n3 T) (aa 7) (aa 1))) (xB (ac (n3 I) (aa 7) (aa 5)))) (au (vu kv 5 (ab (aa 7) a_))
 (vu kv 4 (ab (ac aQ (aa 6) (br (ab (aa 7) a_))) a_))) im)))) nF)
 (aO (xC .non)))))
def bD:Fn:=bB 8 4 dJ
def qM{a:WR}{s:g_}(h:a.length=4):bD.p a s=(dJ.p (i_ 8 a) s).fin:=aT h
def fP:Xd []:=(au (aG 1 (jj Fp (ab (ac il (aa 0) (xC (.int 0))) a_)))
 (au (dy (aL (aa 1)) (iw 2) (au (aG 3 (aj aY (ab (aa 0) (ab (aa 2) a_))))
 (au (aG 4 (aJ 1 [2,3] (aL (aa 1)) (ws':=[]) (iw 0) (eU (xB (ac EV (aa 0) (aa 1))) (xB (ac (n3 I) (aa 0) (aa 2)))) (aa 0)))
 (dy (aL (aj bW (ab (aa 0) (ab (aa 1) (ab (aa 2) a_))))) (vf (mq (iw 5) (mq (iw 6) u_)) 2) (au (aG 7 (aj bD (ab (aa 0) (ab (ac aQ (aa 4) (br (ab (aa 6) a_))) (ab (aa 5) (ab (aa 6) a_))))))
 (n7 (xB (ac (z9 I) (aa 7) (xC .non))) (aO (ac aQ (br (ab (aa 2) a_)) (aa 7))) im))))))
 (aO (xC .non))))
def cz:Fn:=bB 8 1 fP
def uI{a:WR}{s:g_}(h:a.length=1):cz.p a s=(fP.p (i_ 8 a) s).fin:=aT h
def b8:Xd [1,2]:=(au (cI 1 (br a_))
 (au (cI 2 (jj Fp (ab (ac il (aa 0) (xC (.int 0))) a_)))
 (au (Lk 400 (EQ (aa 2)) (au (aG 3 (aJ 1 [0,2] (aL (aa 2)) (ws':=[2]) (iw 0) (eM (EQ (lU bW (ab (aa 1) (ab (aa 2) (ab (aa 0) a_)))))) (aa 0)))
 (au (vu kv 1 (ab (ac il (aa 3) (xC (.int 0))) a_))
 (vu Dg 2 (ab (ac il (aa 3) (xC (.int 0))) a_)))) nF)
 (jh 1))))
def bL:Fn:=bB 4 1 b8
def lw{a:WR}{s:g_}(h:a.length=1):bL.p a s=(b8.p (i_ 4 a) s).fin:=aT h
def cY:Xd []:=(au (aG 1 (aj cz (ab (aa 0) a_)))
 (au (n7 (xB (ac (z9 I) (aa 1) (xC .non))) (aO (bw (ab (xC (.str "ring")) (ab (aa 1) a_)))) im)
 (aO (bw (ab (xC (.str "order")) (ab (aj bL (ab (aa 0) a_)) a_))))))
def cm:Fn:=bB 2 1 cY
def j7{a:WR}{s:g_}(h:a.length=1):cm.p a s=(cY.p (i_ 2 a) s).fin:=aT h
def iN:Xd [3]:=(au (aG 2 (aj cM (ab (aa 0) (ab (aa 1) a_))))
 (au (cI 3 (ac pH (br (ab (xC .non) a_)) (ac il (aa 0) (xC (.int 0)))))
 (au (dy (bO iE (ab (aa 1) a_)) (vf (mq (iw 4) (mq (iw 5) u_)) 2) (au (aG 6 (aj aY (ab (aa 2) (ab (aa 5) a_))))
 (au (aG 7 (aJ 1 [6] (aL (yP (aa 1) (yI (ac aQ (aa 4) (xC (.int 1)))) yv)) (ws':=[]) (iw 0) (xB (ac (n3 T) (aa 0) (aa 1))) (aa 0)))
 (n7 (EQ (aa 7)) (pV 3 (ac il (aa 7) (xC (.int 0))) (aa 5)) im))))
 (jh 3))))
def eY:Fn:=bB 8 2 iN
def yH{a:WR}{s:g_}(h:a.length=2):eY.p a s=(iN.p (i_ 8 a) s).fin:=aT h
def dH:Xd [2]:=(au (cI 2 (br a_))
 (au (aG 3 (ac il (aa 0) (aa 1)))
 (au (Lk 400 (xB (ac (z9 I) (aa 3) (xC .non))) (au (vu kv 2 (ab (aa 3) a_))
 (aG 3 (ac il (aa 0) (aa 3)))) nF)
 (jh 2))))
def cX:Fn:=bB 4 2 dH
def qk{a:WR}{s:g_}(h:a.length=2):cX.p a s=(dH.p (i_ 4 a) s).fin:=aT h
def lr:Xd []:=(au (eP (aj aU (ab (ac il (aa 0) (xC (.int 0))) (ab (aa 2) a_))))
 (au (aG 3 (aj eY (ab (aa 0) (ab (aa 1) a_))))
 (aO (aJ 1 [2,3] (bO Fa (ab (ac il (aa 0) (xC (.int 0))) a_)) (ws':=[]) (iw 0) (xB (ac (n3 T) (aa 1) (aj cX (ab (aa 2) (ab (aa 0) a_))))) (aa 0)))))
def ln:Fn:=bB 4 3 lr
def DG{a:WR}{s:g_}(h:a.length=3):ln.p a s=(lr.p (i_ 4 a) s).fin:=aT h
def rK{h:MH}{p:Nat}{o:MO}(a:p<h.length):(h.set p o)[p]?=J o:=y4 a
def VC:qp 3 2=J 2:=oD (n:=3) (m:=2) (by decide)
def V8:qp 3 1=J 1:=oD (n:=3) (m:=1) (by decide)
def kZ(s:g_)(size:Int)(M:0<size)(H:size.natAbs.log2<9000):∃x:Int×Int,(0<=x.1/\x.1<size)/\∀(h:MH)(p:Nat),cP h p s->eV [.loc p,.int size] h=.ok (.int x.1) (h.set p (.lst [.int s.1,.int x.2,.int (s.2.2+1)])):=by
 obtain⟨m,c,t⟩:=s;have a:size≠0:=by lia
 have st:∀n:Int,0<=n.fmod size/\n.fmod size<size:=λn=>by
  rw[Qz n ⋯];exact⟨Int.emod_nonneg n a,Int.emod_lt_of_pos n M⟩
 by_cases l:m=1
 .subst l;refine⟨(c.fmod size,c.fdiv size),st c,λh p e=>?_⟩;have e:h[p]?=J (.lst [.int 1,.int c,.int t]):=e;have j:p<h.length:=(kx.mp e).1;have e2:(h.set p (.lst [.int 1,.int c,.int (t+1)]))[p]?=J (.lst [.int 1,.int c,.int (t+1)]):=rK j;delta eV;refine(jt (by rfl)).trans ?_;delta sw;simp[bZ,List.replicate,jY e,pW e,VC,jY e2,ie a,x4 a H,pW e2,V8]
 .have f:∀n k:Int,0<k->0<=n.fmod k/\n.fmod k<k:=λn k F=>by
   rw[Qz n ⋯];exact⟨Int.emod_nonneg n ⋯,Int.emod_lt_of_pos n F⟩
  generalize u:((c+40503*(t+1)+1)*48271).fmod 2147483647=A;have E:=f ((c+40503*(t+1)+1)*48271) 2147483647 (by decide);rw[u]at E;generalize r:(A*(A.fmod 65521+(t+1)+3)).fmod 2147483629=C;have G:=f (A*(A.fmod 65521+(t+1)+3)) 2147483629 (by decide);rw[r]at G;refine⟨((((C*(C.fmod 8191+7)).fmod 2147483563).fdiv 64).fmod size,c),st _,λh p e=>?_⟩;have e:h[p]?=J (.lst [.int m,.int c,.int t]):=e;have j:p<h.length:=(kx.mp e).1;have e2:(h.set p (.lst [.int m,.int c,.int (t+1)]))[p]?=J (.lst [.int m,.int c,.int (t+1)]):=rK j;have z:-(2^64)<A/\A<2^64:=by lia
  have L:-(2^64)<C/\C<2^64:=by lia
  have B:∀{i:Int}{h:MH},j3 (.int 40503) (.int i) h=.ok (.int (40503*i)) h:=jy (by decide);have y:∀{i:Int}{h:MH},j3 (.int i) (.int 48271) h=.ok (.int (i*48271)) h:=Gc (by decide);delta eV;refine(jt (by rfl)).trans ?_;delta sw;simp[bZ,List.replicate,jY e,pW e,VC,jY e2,l,B,y,ie,u,jy z,r,jy L,x4 (show(64:Int)≠0 by decide) (show(64:Int).natAbs.log2<9000 by decide +kernel),ie a]
open Classical in
def nU(s:g_)(size:Int):Int×Int:=if z:0<size/\size.natAbs.log2<9000 then(kZ s size z.1 z.2).choose else(0,0)
def qE(a:WR):WW:=match a with
 |[.pen,.int i]=>J i
 |_=>Y
def zR{a:WR}{i:Int}(e:qE a=J i):a=[.pen,.int i]:=by
 unfold qE at e
 split at e
 .cases e;rfl
 .cases e
open Classical in
def bQ:Fn where
 m:=eV
 p:=λa s=>match qE a with
  |some size=>if 0<size/\size.natAbs.log2<9000 then .ok (.int (nU s size).1) (s.1,(nU s size).2,s.2.2+1)else .bad
  |none=>.bad
 fr:=I
 ok {q h O vs a s} bd hq pn r:=by
  cases e:qE a with
  |none=>trivial
  |some size =>
   have:=zR e
   subst this;dsimp only;by_cases z:0<size/\size.natAbs.log2<9000
   .rw[c_ z];obtain⟨x,t,rfl,u,y,l,rfl,B,i⟩:=r;rw[show x=PV.loc q from u,show y=PV.int size from B,show l=[]from i];have k:=(kZ s size z.1 z.2).choose_spec.2 h q pn;have j:nU s size=(kZ s size z.1 z.2).choose:=by delta nU;rw[dif_pos z]
    rw[<-j]at k;refine⟨_,_,k,⟨by simp,λn C f=>n9 (Ne.symm f)⟩,rK (bj pn),rfl,λ_ a e=>by cases e⟩
   .rw[f_ z];trivial
open Classical in
theorem gM{s:g_}{size:Int}(f:0<size)(u:size<=2000000000):∃d j,0<=d/\d<size/\bQ.p [.pen,.int size] s=.ok (.int d) j:=by
 have a:size.natAbs.log2<9000:=by
  have l:size.natAbs<=2000000000:=by lia
  have r:size.natAbs.log2<31:=(Nat.log2_lt ⋯).mpr ⋯;lia
 have z:0<size/\size.natAbs.log2<9000:=⟨f,a⟩;have i:nU s size=(kZ s size z.1 z.2).choose:=by delta nU;rw[dif_pos z]
 have k:=(kZ s size z.1 z.2).choose_spec.1;rw[<-i]at k;exact⟨_,_,k.1,k.2,by show(if 0<size/\size.natAbs.log2<9000 then _ else _)=_;rw[c_ z]⟩
def iL:Xd [2]:=(au (cI 2 (br a_))
 (au (dy (bO Fa (ab (aa 1) a_)) (iw 3) (vu yU 2 (ab (aj bQ (ab (aa 0) (ab (ac aQ (aa 3) (xC (.int 1))) a_))) (ab (aa 3) a_))))
 (jh 2)))
def dS:Fn:=bB 4 2 iL
def zm{a:WR}{s:g_}(h:a.length=2):dS.p a s=(iL.p (i_ 4 a) s).fin:=aT h
def iK:Xd [1]:=(au (cI 1 (br a_))
 (au (dy (bO iE (ab (aa 0) a_)) (vf (mq (iw 2) (mq (iw 3) u_)) 2) (vu li 1 (ab (aJ 1 [3] (aL (yP (aa 0) (yI (ac aQ (aa 2) (xC (.int 1)))) yv)) (ws':=[]) (iw 0) i3 (bw (ab (aa 1) (ab (aa 0) a_)))) a_)))
 (jh 1)))
def cB:Fn:=bB 4 1 iK
def zG{a:WR}{s:g_}(h:a.length=1):cB.p a s=(iK.p (i_ 4 a) s).fin:=aT h
def iW:Xd []:=(au (aG 2 (aj bQ (ab (aa 0) (ab (xC (.int 8)) a_))))
 (au (n7 (xB (ac B_ (aa 2) (xC (.int 4)))) (aO (aJ 1 [0,2] (aL (aj cB (ab (jj Fp (ab (aa 1) a_)) a_))) (ws':=[]) (iw 0) (xB (ac o_ (aj bQ (ab (aa 1) (ab (ac il (br (ab (xC (.int 2)) (ab (xC (.int 3)) (ab (xC (.int 4)) (ab (xC (.int 6)) a_))))) (aa 2)) a_))) (xC (.int 0)))) (aa 0))) im)
 (au (n7 (xB (ac o_ (aa 2) (xC (.int 4)))) (aO (aJ 1 [0] (bO Fq (ab (xC (.int 1)) (ab (aa 1) a_))) (ws':=[]) (iw 0) i3 (bw (ab (aj bQ (ab (aa 1) (ab (aa 0) a_))) (ab (aa 0) a_))))) im)
 (au (n7 (xB (ac o_ (aa 2) (xC (.int 5)))) (aO (ac aQ (aJ 1 [] (bO Fq (ab (xC (.int 1)) (ab (aa 1) a_))) (ws':=[]) (iw 0) (xB (ac G4 (ac vd (aa 0) (xC (.int 3))) (xC (.int 0)))) (bw (ab (ac eL (aa 0) (xC (.int 1))) (ab (aa 0) a_)))) (aJ 1 [] (bO Fq (ab (xC (.int 3)) (ab (aa 1) a_))) (ws':=[]) (iw 0) i3 (bw (ab (ac eL (aa 0) (xC (.int 3))) (ab (aa 0) a_)))))) im)
 (au (aG 3 (ac aQ (aJ 1 [] (bO Fq (ab (xC (.int 1)) (ab (aa 1) a_))) (ws':=[]) (iw 0) i3 (bw (ab (ac eL (aa 0) (xC (.int 1))) (ab (aa 0) a_)))) (ac pH (br (ab (bw (ab (xC (.int 0)) (ab (ac eL (aa 1) (xC (.int 1))) a_))) a_)) (jj pJ (ab (ac G4 (aa 1) (xC (.int 2))) a_)))))
 (au (n7 (E9 (xB (ac o_ (aa 2) (xC (.int 6)))) (xB (ac B_ (aa 1) (xC (.int 4))))) (aO (aa 3)) im)
 (aO (ac aQ (aa 3) (br (ab (bw (ab (aj bQ (ab (aa 0) (ab (xC (.int 2)) a_))) (ab (ac aQ (xC (.int 2)) (aj bQ (ab (aa 0) (ab (ac eL (aa 1) (xC (.int 2))) a_)))) a_))) a_))))))))))
def iU:Fn:=bB 4 2 iW
def yJ{a:WR}{s:g_}(h:a.length=2):iU.p a s=(iW.p (i_ 4 a) s).fin:=aT h
def lv:Xd [4]:=(au (aG 2 (aj bQ (ab (aa 0) (ab (ac aQ (aa 1) (xC (.int 1))) a_))))
 (au (n7 (xB (ac o_ (aj bQ (ab (aa 0) (ab (xC (.int 4)) a_))) (xC (.int 3)))) (aG 2 (aa 1)) im)
 (au (aG 3 (aj dS (ab (aa 0) (ab (aa 2) a_))))
 (au (cI 4 (br a_))
 (au (dy (aL (aj iU (ab (aa 0) (ab (aa 2) a_)))) (vf (mq (iw 5) (mq (iw 6) u_)) 2) (vu kv 4 (ab (bw (ab (jj jf (ab (ac il (aa 3) (aa 5)) (ab (ac il (aa 3) (aa 6)) a_))) (ab (jj nS (ab (ac il (aa 3) (aa 5)) (ab (ac il (aa 3) (aa 6)) a_))) a_))) a_)))
 (aO (bw (ab (aa 2) (ab (jj kY (ab (jj Rm (ab (aa 4) a_)) a_)) a_)))))))))
def fG:Fn:=bB 7 2 lv
def Cm{a:WR}{s:g_}(h:a.length=2):fG.p a s=(lv.p (i_ 7 a) s).fin:=aT h
def dr(F:Fn):Xd []:=(au (n7 (xB (p8 (cu ["list","tuple"]) (aa 1))) (au (n7 (E9 (xB (ac EV (p8 (cu ["list"]) (aa 0)) (p8 (cu ["list"]) (aa 1)))) (xB (ac EV (p8 (cu ["tuple"]) (aa 0)) (p8 (cu ["tuple"]) (aa 1))))) (aO (xC (.bl T))) im)
 (aO (dY (ac o_ (jj bV (ab (aa 0) a_)) (jj bV (ab (aa 1) a_))) (jj kM (ab (aJ 2 [] (bO iZ (ab (aa 0) (ab (aa 1) a_))) (ws':=[]) (vf (mq (iw 0) (mq (iw 1) u_)) 2) i3 (aj F (ab (aa 0) (ab (aa 1) a_)))) a_))))) im)
 (au (n7 (xB (ac (z9 T) (aa 1) (xC .non))) (aO (ac (z9 T) (aa 0) (xC .non))) im)
 (au (n7 (xB (p8 (cu ["str"]) (aa 1))) (aO (dY (p8 (cu ["str"]) (aa 0)) (ac o_ (aa 0) (aa 1)))) im)
 (aO (dY (p8 (cu ["int"]) (aa 0)) (dY (ac o_ (p8 (cu ["bool"]) (aa 0)) (p8 (cu ["bool"]) (aa 1))) (ac o_ (aa 0) (aa 1))))))))
def cT:Nat->Fn
 |0=>IL (d3 2 2 λ_ _=>.bad)
 |n+1=>bB 2 2 (dr (cT n))
def gF{n:Nat}{a:WR}{s:g_}(h:a.length=2):(cT (n+1)).p a s=((dr (cT n)).p (i_ 2 a) s).fin:=aT h
def gB:Fn:=cT 8
def aP(b n:Nat):WL:=(List.range n).map λi=>PV.loc (b+1+i)
def yc{b n:Nat}:aP b (n+1)=aP b n++[.loc (b+1+n)]:=by simp[aP,Nw]
def kB{b n:Nat}:(aP b n).length=n:=by simp[aP]
def vU{b n i:Nat}(h:i<n):(aP b n)[i]?=J (.loc (b+1+i)):=by simp[aP,h]
def rQ{it:MIt}{h:MH}{gt:Mg}{me:Mx PV}{fr:ly}(ok:∀g,it.ok (h++g))(f:Nat->MO):∀(xs:WL)(j:Nat)(v:Option PV)(pre:List MO),pre.length=j->j+xs.length<=500 ->
  (∀(i:Nat)(x:PV)(v:Option PV)(g:MH),xs[i]?=J x->∃l,gt x (v::fr) (h++g)=.nx (l::fr) (h++g)/\me (l::fr) (h++g)=.ok (.loc (h++g).length) (h++g++[f (j+i)])) ->
  A_ it h.length gt v_ me xs (v::fr) (h++.lst (aP h.length j)::pre)=.ok () (h++.lst (aP h.length (j+xs.length))::(pre++(List.range xs.length).map λi=>f (j+i)))
 |[],j,v,pre,u,z,a=>by rw[Gh (ok _)];simp
 |x::r,j,v,pre,u,z,a=>by
  obtain⟨l,e1,e2⟩:=a 0 x v (.lst (aP h.length j)::pre) rfl;have B:(h++MO.lst (aP h.length j)::pre++[f (j+0)])[h.length]?=J (.lst (aP h.length j)):=by rw[En];exact qW
  rw[Gi (ok _) e1 rfl e2 B (by rw[kB];simp at z;lia)];have E:(h++MO.lst (aP h.length j)::pre++[f (j+0)]).set h.length (.lst (aP h.length j++[.loc (h++MO.lst (aP h.length j)::pre).length]))=h++.lst (aP h.length (j+1))::(pre++[f (j+0)]):=by rw[En,UM _ _ (i4 _),yc];simp[u];lia
  rw[E,rQ ok f r (j+1) l (pre++[f (j+0)]) (by simp[u]) (by simp at z;lia) (λi y v g C=>by
   have:=a (i+1) y v g (by simpa using C)
   rwa [show j+(i+1)=j+1+i by lia]at this)]
  have e3:(List.range (r.length+1)).map (λi=>f (j+i))=f (j+0)::(List.range r.length).map (λi=>f (j+1+i)):=by rw[RK,oI,CA];congr 1;refine No λi _=>?_;simp only[Function.comp_apply];congr 1;lia
  rw[pk,e3,show j+(r.length+1)=j+1+r.length by lia];simp
def bA(v:Int):WP->WN
 |[]=>[]
 |[a,b]::f=>(if a=v then [b]else [])++(if b=v then [a]else [])++bA v f
 |_::f=>bA v f
def jI{v:Int}:∀(xs ys:WP),bA v (xs++ys)=bA v xs++bA v ys
 |[],ys=>rfl
 |[a,b]::f,ys=>by show _++_++bA v (f++ys)=_;rw[jI f ys];simp[bA]
 |[]::f,ys=>jI f ys
 |[a]::f,ys=>jI f ys
 |(a::b::c::r)::f,ys=>jI f ys
def jV{v:Int}:∀(f:WP),(bA v f).length<=2*f.length
 |[]=>by simp[bA]
 |[a,b]::f=>by
  have:=jV (v:=v) f
  simp only[bA,Em,pk]
  split<;>split<;>simp<;>lia
 |[]::f=>by have:=jV (v:=v) f;simp only[bA,pk];lia
 |[a]::f=>by have:=jV (v:=v) f;simp only[bA,pk];lia
 |(a::b::c::r)::f=>by have:=jV (v:=v) f;simp only[bA,pk];lia
def gu{v:Int}:∀(f:WP),(bA v f).Perm (below v f++above v f)
 |[]=>.nil
 |[a,b]::f=>by
  have i:=gu (v:=v) f;rw[List.perm_iff_count]at i ⊢;intro x
  have:=i x
  have e1:below v ([a,b]::f)=(if b=v then [a]else [])++below v f:=by delta below;by_cases z:b=v<;>simp[z]
  have e2:above v ([a,b]::f)=(if a=v then [b]else [])++above v f:=by delta above;by_cases z:a=v<;>simp[z]
  rw[e1,e2];simp only[bA,List.count_append]at this ⊢;lia
 |[]::f=>gu f
 |[a]::f=>gu f
 |(a::b::c::r)::f=>gu f
def Hk{n v:Int}{a:WP}(w:h8 n a):fg (bA v a)=below v a++above v a :=
 iA (lT _) (yA w) ((iX _).trans (gu a))
def n4{n v:Int}{a:WP}(w:h8 n a):(below v a++above v a).length<=12:=by
 have:=List.Nodup.length_le_of_subset (l₂:=d_ 12) (ld (v:=v) w).1 λx f=>by
  rw[aH]
  have:=(ld (v:=v) w).2 x f
  have:=w.n12
  lia
 simpa [d_]using this
def cp(n:Nat)(c:Nat->WN):List MO:=(List.range n).map λv=>MO.lst ((c v).map .int)
def lK{n:Nat}{c:Nat->WN}{i:Nat}(h:i<n):(cp n c)[i]?=J (.lst ((c i).map .int)):=by simp[cp,h]
def Dc{n:Nat}{c:Nat->WN}{i:Nat}{x:Int}(h:i<n):(cp n c).set i (.lst ((c i).map .int++[.int x]))=cp n λv=>if v=i then c v++[x]else c v:=by
 apply Fw;intro j;by_cases a:j<n
 .rw[lK a];by_cases z:i=j
  .subst z;rw[y4 (by simpa [cp]using h)];simp
  .rw[n9 z,lK a,f_ (λq=>z q.symm)]
 .rw[EF (by simp[cp];lia),EF (by simp[cp];lia)]
def BQ{h:MH}{n:Nat}{l:WP}(w:h8 n l):∃g:MH,hV [.tup [.int n,.tup (l.map kP)]] h=.ok (.loc (h.length+n+1)) (h++g)/\(h++g)[h.length+n+1]?=J (.lst (aP (h.length+n+1) n)) /\
  ∀v<n,(h++g)[h.length+n+1+1+v]?=J (.lst ((below v l++above v l).map .int)):=by
 delta hV;rw[jt (by rfl)];delta zX;have n12:=w.n12;have kl:=fA w.n12 w.tie w.nd;generalize hT:PV.tup (l.map kP)=f;have sA:bN 1 (fH 1 [] (kc (aq (aC bG (ar 0) (mC (.int 0))) ib)) (CL 0) v_ (gL ib)) (bZ 4 [.tup [.int n,f]]) h=.nx [J (.tup [.int n,f]),J (.loc h.length),Y,Y] (h++.lst (aP h.length n)::cp n λ_=>[]):=by
  have er:=Tk (m:=aq (aC bG (ar 0) (mC (.int 0))) ib) (Z:=[J (.tup [.int n,f]),Y,Y,Y]) (h:=h) (h1:=h) (n:=n) (by simp) ⋯
  have L:=rQ (it:=⟨bI 0 n,[]⟩) (h:=h) (gt:=CL 0) (me:=gL ib) (fr:=[]) (λg=>sE.mpr trivial) (λ_=>.lst []) (bI 0 n) 0 Y [] rfl (by rw[mG];lia) (λi x v g C=>⟨J x,rfl,by
   rw[F9,rn];exact qV (by simp)⟩)
  rw[mG]at L;have e1:fH 1 [] (kc (aq (aC bG (ar 0) (mC (.int 0))) ib)) (CL 0) v_ (gL ib) [J (.tup [.int n,f]),Y,Y,Y] h=.ok (.loc h.length) (h++.lst (aP h.length n)::cp n λ_=>[]):=by rw[vg,er];simp -implicitDefEqProofs only[Out.bind_ok];have e2:EK 1 [] [J (PV.tup [.int n,f]),Y,Y,Y]=[Y]:=rfl;rw[e2];have e3:h++[MO.lst []]=h++MO.lst (aP h.length 0)::[]:=rfl;rw[e3,L];simp[cp]
  have e0:bZ 4 [PV.tup [.int n,f]]=[J (.tup [.int n,f]),Y,Y,Y]:=rfl;rw[Ga,e0,e1,ak];rfl
 obtain⟨Z',h',e,F,E,Q,O⟩:=r6 (it:=⟨l.map kP,[]⟩) (g:=MX (Im (CL 2) (Im (CL 3) Oc)) 2) (b:=bJ (fD (Ed dE (aC bG (ar 1) (ar 2)) (aq (ar 3) ib)))
   (fD (Ed dE (aC bG (ar 1) (ar 3)) (aq (ar 2) ib))))
  (λj Z a=>∃F E,Z=[J (.tup [.int n,f]),J (.loc h.length),F,E]/\a=h++.lst (aP h.length n)::cp n λv=>bA v (l.take j))
  (l.map kP) 0 [J (.tup [.int n,f]),J (.loc h.length),Y,Y] (h++.lst (aP h.length n)::cp n λ_=>[]) ⟨Y,Y,rfl,by simp[bA]⟩ (λ_ _ _ _=>sE.mpr trivial)
  (λj Z a x ⟨F,E,R,ea⟩ C=>by
   rw[o0]at ea ⊢;subst R ea;rw[oe,tr]at C;obtain⟨k,hk,rfl⟩:=C;have U:=wj hk;obtain⟨va,vb,rfl,b0,b1,b2⟩:=w.tie k U;obtain⟨x,rfl⟩:=dG b0;obtain⟨y,rfl⟩:=dG (show 0<=vb by lia);have B:x<n:=by lia
   have u:y<n:=by lia
   have M:∀v:Int,(bA v (l.take j)).length<=132:=λv=>by
    have:=jV (v:=v) (l.take j)
    simp at this;lia
   have ix:∀(i:Nat)(g:List MO)(c:List MO),i<n->bG (.loc h.length) (.int (i:Int)) (h++.lst (aP h.length n)::c)=.ok (.loc (h.length+1+i)) (h++.lst (aP h.length n)::c):=λi g c r=>by
    rw[jY qW,L2.cG (vU r)];rfl
   have P:∀(i:Nat)(c:Nat->WN),i<n->(h++MO.lst (aP h.length n)::cp n c)[h.length+1+i]?=J (.lst ((c i).map .int)):=λi c r=>by
    rw[show h.length+1+i=h.length+(i+1) by lia,zW,QD];exact lK r
   have st:∀(i:Nat)(c:Nat->WN)(z:Int),i<n->List.set (h++MO.lst (aP h.length n)::cp n c) (h.length+1+i) (.lst ((c i).map .int++[.int z]))=h++MO.lst (aP h.length n)::cp n (λv=>if v=i then c v++[z]else c v):=λi c z r=>by
    rw[show h.length+1+i=h.length+(i+1) by lia,Gj,n6,Dc r]
   have ap:∀(i:Nat)(c:Nat->WN)(z:Int),i<n->(c i).length<900->dE (h.length+1+i) [.int z] (h++MO.lst (aP h.length n)::cp n c)=.ok .non (h++MO.lst (aP h.length n)::cp n (λv=>if v=i then c v++[z]else c v)):=λi c z r hl=>by
    rw[yL (P i c r) (by simp;lia),st i c z r]
   refine⟨[J (.tup [.int n,f]),J (.loc h.length),J (.int (x:Int)),J (.int (y:Int))],_,[J (.tup [.int n,f]),J (.loc h.length),J (.int (x:Int)),J (.int (y:Int))],h++.lst (aP h.length n)::cp n (λv=>bA v (l.take (j+1))),by simp[kP];rfl,?_,J (.int (x:Int)),J (.int (y:Int)),rfl,rfl⟩;have o1:aC bG (ar 1) (ar 2) [J (.tup [.int n,f]),J (.loc h.length),J (.int (x:Int)),J (.int (y:Int))] (h++.lst (aP h.length n)::cp n λv=>bA v (l.take j))=.ok (.loc (h.length+1+x)) (h++.lst (aP h.length n)::cp n λv=>bA v (l.take j)):=by simp[ix x [] _ B]
   have o2:∀c:Nat->WN,aC bG (ar 1) (ar 3) [J (.tup [.int n,f]),J (.loc h.length),J (.int (x:Int)),J (.int (y:Int))] (h++.lst (aP h.length n)::cp n c)=.ok (.loc (h.length+1+y)) (h++.lst (aP h.length n)::cp n c):=λc=>by
    simp[ix y [] _ u]
   have p1:=ap x (λv=>bA v (l.take j)) y B (by have:=M x;lia);have p2:=ap y (λv=>if v=x then bA v (l.take j)++[(y:Int)]else bA v (l.take j)) x u (by have:=M y;split<;>simp<;>lia);rw[gr,vi,xw o1 (P x _ B)];simp only[v9,rn,vA,uU,Out.bind_ok,p1,Out.ne_ok,ak,u3,MM.af];rw[vi,xw (o2 _) (P y _ u)];simp only[v9,rn,vA,uU,Out.bind_ok,p2,Out.ne_ok,ak,u3];have key:(λv:Nat=>if v=y then(if v=x then bA v (l.take j)++[(y:Int)]else bA v (l.take j))++[(x:Int)]else if v=x then bA v (l.take j)++[(y:Int)]else bA v (l.take j))=λv:Nat=>bA v (l.take (j+1)):=?_;rw[key];funext v;have et:l.take (j+1)=l.take j++[[(x:Int),(y:Int)]]:=by rw[Er,hk];rfl
   rw[et,jI];have S:x≠y:=by lia
   by_cases W:v=x
   .subst W;simp[bA,S,show ¬((y:Int)=(v:Int)) by lia]
   .by_cases z2:v=y
    .subst z2;simp[bA,W,show ¬((x:Int)=(v:Int)) by lia]
    .simp[bA,W,z2,show ¬((x:Int)=(v:Int)) by lia,show ¬((y:Int)=(v:Int)) by lia])
 rw[oF,o0,Ia]at O;subst Q O;generalize G:h++MO.lst (aP h.length n)::cp n (λv=>bA v l)=H at e;have X:H.length=h.length+n+1:=by rw[<-G];simp[cp];lia
 have eF:H[h.length]?=J (.lst (aP h.length n)):=by rw[<-G];exact qW
 have eC:∀i<n,H[h.length+1+i]?=J (.lst ((bA i l).map .int)):=λi r=>by
  rw[<-G,show h.length+1+i=h.length+(i+1) by lia,zW,QD];exact lK r
 have L:=rQ (it:=⟨aP h.length n,[(h.length,aP h.length n)]⟩) (h:=H) (gt:=CL 0) (me:=t_ j_ (aq (ar 0) ib)) (fr:=[]) (λg=>Ge.mpr (IB eF)) (λv=>.lst ((fg (bA v l)).map .int)) (aP h.length n) 0 Y [] rfl (by rw[kB];lia) (λi x v g C=>by
   have r:i<n:=by have:=(kx.mp C).1;rwa [kB]at this
   rw[vU r]at C;cases C;refine⟨J (.loc (h.length+1+i)),rfl,?_⟩
   have:=Bm (h:=H++g) (IB (eC i r)) (by
    rw[(gu l).length_eq];have:=n4 (v:=(i:Int)) w;lia)
   simp[this])
 rw[kB]at L;refine⟨MO.lst (aP h.length n)::cp n (λv=>bA v l)++MO.lst (aP H.length n)::(List.range n).map (λ(v:Nat)=>MO.lst ((fg (bA v l)).map .int)),?_,?_,λv hv=>?_⟩
 .have s2:kI (aC bG (ar 0) (mC (.int 1))) [J (.tup [.int n,f]),J (.loc h.length),Y,Y] (h++.lst (aP h.length n)::cp n λ_=>[])=.ok ⟨l.map kP,[]⟩ (h++.lst (aP h.length n)::cp n λ_=>[]):=by
   simp[<-hT]
  have s3:fH 1 [] (kI (ar 1)) (CL 0) v_ (t_ j_ (aq (ar 0) ib)) [J (.tup [.int n,f]),J (.loc h.length),F,E] H=.ok (.loc H.length) (H++MO.lst (aP H.length n)::(List.range n).map (λ(v:Nat)=>MO.lst ((fg (bA v l)).map .int))):=by
   have ei:kI (ar 1) [J (.tup [.int n,f]),J (.loc h.length),F,E] H=.ok ⟨aP h.length n,[(h.length,aP h.length n)]⟩ H:=by rw[Gb];simp -implicitDefEqProofs only[vA,uU,Out.bind_ok];exact B8 eF
   rw[vg,ei];simp -implicitDefEqProofs only[Out.bind_ok];have e2:EK 1 [] [J (PV.tup [.int n,f]),J (.loc h.length),F,E]=[Y]:=rfl;rw[e2];have e3:H++[MO.lst []]=H++MO.lst (aP H.length 0)::[]:=rfl;rw[e3,L];simp
  rw[gr,sA,MM.af,gr,ym,s2,ak,e,MM.af,F_,s3,Oo,MM.bY,X,<-G];simp
 .rw[<-En,G,<-X];exact qW
 .rw[<-En,G,<-X,show H.length+1+v=H.length+(v+1) by lia,zW,QD,oe,RU hv];simp[Hk w]
def L8:∀{xs f:WP},xs.map kD=f.map kD->xs=f:=by
 have one:∀{a b:WN},a.map D.int=b.map D.int->a=b:=by
  intro a
  induction a with
  |nil=>intro b e;cases b with|nil=>rfl|cons _ _=>cases e
  |cons x a i =>
   intro b e
   cases b with
   |nil=>cases e
   |cons y b =>
    injection e with e1 e2
    injection e1 with e1
    rw[e1,i e2]
 intro xs
 induction xs with
 |nil=>intro f e;cases f with|nil=>rfl|cons _ _=>cases e
 |cons x xs i =>
  intro f e
  cases f with
  |nil=>cases e
  |cons z f =>
   injection e with e1 e2
   injection e1 with e1
   rw[one e1,i e2]
def bg(n:Nat)(a:WP):D:=.lst ((List.range n).map λ(v:Nat)=>.lst ((below (v:Int) a++above (v:Int) a).map .int))
def vK{q:Nat}{h:MH}{O:WQ}{b:Nat}{c:Nat->WN}:∀(n:Nat),(∀v<n,b+1+v∉O/\h[b+1+v]?=J (.lst ((c v).map .int)))->Rps q h O ((List.range n).map λv=>.lst ((c v).map .int)) (aP b n)
 |0,_=>rfl
 |n+1,a=>by
  rw[Nw,Ig,yc];refine(vK n λv hv=>a v ⋯).app ⟨.loc (b+1+n),[],rfl,⟨_,_,rfl,(a n ⋯).1,(a n ⋯).2,ik _⟩,rfl⟩
def ya{q:Nat}{h:MH}{O:WQ}:∀(k:WN)(u:WL),Rps q h O (k.map .int) u->u=k.map .int
 |[],_,r=>r
 |i::k,_,⟨y,t,e,a,rt⟩=>by rw[e,show y=PV.int i from a,ya k t rt];rfl
def wM{q:Nat}{h:MH}{O:WQ}:∀(a:WP)(u:WL),Rps q h O (a.map kD) u->u=a.map kP
 |[],_,r=>r
 |k::a,_,⟨y,t,e,⟨u,i,f⟩,rt⟩=>by rw[e,i,ya k u f,wM a t rt];rfl
open Classical in
def jL:Fn where
 m:=hV
 p:=λj s=>if h:∃x:Nat×WP,h8 x.1 x.2/\j=[.tup [.int x.1,.tup (x.2.map kD)]]then .ok (bg h.choose.1 h.choose.2) s else .bad
 fr:=T
 ok {q h O vs j s} bd hq pn r:=by
  by_cases z:∃x:Nat×WP,h8 x.1 x.2/\j=[.tup [.int x.1,.tup (x.2.map kD)]]
  .rw[dif_pos z];obtain⟨w,e⟩:=z.choose_spec;generalize z.choose=x at w e ⊢;obtain⟨n,i⟩:=x;have B:vs=[.tup [.int n,.tup (i.map kP)]]:=by
    rw[e]at r;obtain⟨v,t,rfl,⟨F,rfl,a,C,rfl,E,b,u,rfl,⟨f,rfl,l⟩,rfl⟩,rfl⟩:=r;rw[show a=PV.int (n:Int)from E]
    have:f=i.map kP:=wM i f l
    rw[this]
   rw[B];obtain⟨g,e1,e2,e3⟩:=BQ (h:=h) w;refine⟨_,_,e1,KB.app _ _ _,pn.app,⟨_,_,rfl,λy=>by have:=bd _ y;lia,e2,?_⟩,λy=>by cases y⟩;exact vK n λv hv=>⟨λy=>by have:=bd _ y;lia,e3 v hv⟩
  .rw[dif_neg z];trivial
open Classical in
theorem AU{n:Nat}{a:WP}{s:g_}(w:h8 n a):jL.p [.tup [.int (n:Int),.tup (a.map kD)]] s=.ok (bg n a) s:=by
 have z:∃x:Nat×WP,h8 x.1 x.2/\[D.tup [.int (n:Int),.tup (a.map kD)]]=[.tup [.int x.1,.tup (x.2.map kD)]]:=⟨(n,a),w,rfl⟩;show(if h:_ then _ else _)=_;rw[dif_pos z];obtain⟨_,e⟩:=z.choose_spec;generalize z.choose=x at e ⊢;obtain⟨f,i⟩:=x;injection e with e _
 injection e with e
 injection e with e1 e
 injection e1 with e1
 injection e with e _
 injection e with e
 have e2:=L8 e;have e1:n=f:=by exact Int.ofNat_inj.mp e1
 rw[<-e1,<-e2]
def iT:Xd []:=(au (aG 4 (jj jf (ab (ac il (aa 1) (aa 2)) (ab (ac il (aa 1) (aa 3)) a_))))
 (au (aG 5 (br (ab (aa 2) a_)))
 (au (aG 6 (xC (.int 0)))
 (au (Lk 400 (xB (ac B_ (aa 6) (jj bV (ab (aa 5) a_)))) (au (n7 (xB (ac (n3 T) (aa 3) (ac il (aa 0) (ac il (aa 5) (aa 6))))) (aO (xC (.bl I))) im)
 (au (aG 5 (ac aQ (aa 5) (aJ 1 [4,5,1] (aL (ac il (aa 0) (ac il (aa 5) (aa 6)))) (ws':=[]) (iw 0) (eU (xB (ac B_ (ac il (aa 3) (aa 0)) (aa 1))) (xB (ac (n3 I) (aa 0) (aa 2)))) (aa 0))))
 (aG 6 (ac aQ (aa 6) (xC (.int 1)))))) nF)
 (aO (xC (.bl T)))))))
def gE:Fn:=bB 7 4 iT
def Af{a:WR}{s:g_}(h:a.length=4):gE.p a s=(iT.p (i_ 7 a) s).fin:=aT h
def dI:Xd []:=(au (aG 1 (br (ab (br a_) a_)))
 (au (dy (bO Fa (ab (aa 0) a_)) (iw 2) (vh 3 (br a_) (dy (aL (aa 1)) (iw 4) (vu li 3 (ab (aJ 1 [4,2] (bO Fa (ab (ac aQ (jj bV (ab (aa 4) a_)) (xC (.int 1))) a_)) (ws':=[]) (iw 0) i3 (ac aQ (ac aQ (yP (aa 1) yv (yI (aa 0))) (br (ab (aa 2) a_))) (yP (aa 1) (yI (aa 0)) yv))) a_)))
 (aG 1 (aa 3)) (qO (by decide))))
 (aO (aa 1))))
def dQ:Fn:=bB 5 1 dI
def qy{a:WR}{s:g_}(h:a.length=1):dQ.p a s=(dI.p (i_ 5 a) s).fin:=aT h
def iH:Xd []:=(au (aG 3 (br (ab (aa 2) a_)))
 (au (aG 4 (xC (.int 0)))
 (au (Lk 400 (xB (ac B_ (aa 4) (jj bV (ab (aa 3) a_)))) (au (aG 3 (ac aQ (aa 3) (aJ 1 [3,1,2] (aL (ac il (aa 0) (ac il (aa 3) (aa 4)))) (ws':=[]) (iw 0) (eU (xB (ac B_ (ac il (aa 2) (aa 0)) (ac il (aa 2) (aa 3)))) (xB (ac (n3 I) (aa 0) (aa 1)))) (aa 0))))
 (aG 4 (ac aQ (aa 4) (xC (.int 1))))) nF)
 (aO (jj nW (ab (yP (aa 3) (yI (xC (.int 1))) yv) a_))))))
def iM:Fn:=bB 5 3 iH
def zU{a:WR}{s:g_}(h:a.length=3):iM.p a s=(iH.p (i_ 5 a) s).fin:=aT h
def k7:Xd [5]:=(au (aG 3 (aJ 1 [2] (bO Fa (ab (ac il (aa 0) (xC (.int 0))) a_)) (ws':=[]) (iw 0) i3 (Nb zV (aa 1) (ab (aa 0) a_))))
 (au (aG 4 (aJ 2 [1,3] (aL (aj cB (ab (jj Fp (ab (ac il (aa 0) (xC (.int 0))) a_)) a_))) (ws':=[]) (vf (mq (iw 0) (mq (iw 1) u_)) 2) (xB (aj gE (ab (aa 2) (ab (aa 3) (ab (aa 0) (ab (aa 1) a_)))))) (bw (ab (aa 0) (ab (aa 1) a_)))))
 (au (cI 5 (aJ 1 [] (aL (aa 2)) (ws':=[]) (iw 0) i3 (xC .non)))
 (au (dy (bO iE (ab (aa 2) a_)) (vf (mq (iw 6) (mq (iw 7) u_)) 2) (au (aG 8 (aJ 1 [4,7] (aL (yP (aa 2) (yI (ac aQ (aa 6) (xC (.int 1)))) yv)) (ws':=[]) (iw 0) (xB (ac (n3 T) (bw (ab (jj jf (ab (aa 2) (ab (aa 0) a_))) (ab (jj nS (ab (aa 2) (ab (aa 0) a_))) a_))) (aa 1))) (aa 0)))
 (pV 5 (ac il (ac aQ (aa 8) (br (ab (xC .non) a_))) (xC (.int 0))) (aa 7))))
 (Rv (ws':=[]) 5 (aO (bw (ab (aa 3) (ab (bw (ab (ac il (aa 0) (xC (.int 0))) (ab (jj kY (ab (aa 4) a_)) a_))) (ab (aa 5) a_))))))))))
def k5:Fn:=bB 9 3 k7
def DW{a:WR}{s:g_}(h:a.length=3):k5.p a s=(k7.p (i_ 9 a) s).fin:=aT h
def dk:Xd []:=(au (sP (aj k5 (ab (aa 0) (ab (aa 1) (ab (aa 2) a_)))) (vf (mq (iw 4) (mq (iw 5) (mq (iw 6) u_))) 3))
 (au (n7 (E9 (eM (xB (aj gB (ab (aj cM (ab (aa 0) (ab (aa 2) a_))) (ab (aa 5) a_))))) (eM (xB (aj gB (ab (aj eY (ab (aa 0) (ab (aa 2) a_))) (ab (aa 6) a_)))))) (aO (xC (.bl T))) im)
 (au (n7 (xB (ac ph (aa 2) (br a_))) (aO (xC (.bl I))) im)
 (au (aG 3 (ac il (aa 2) (ac eL (p8 nj (xC (.int 1))) (ac vd (jj bV (ab (ac il (aa 0) (xC (.int 1))) a_)) (jj bV (ab (aa 2) a_))))))
 (aO (aj gB (ab (aj ln (ab (aa 0) (ab (aa 2) (ab (aa 3) a_)))) (ab (aj iM (ab (aa 1) (ab (aa 4) (ab (aa 3) a_)))) a_))))))))
def bF:Fn:=bB 7 3 dk
def pK{a:WR}{s:g_}(h:a.length=3):bF.p a s=(dk.p (i_ 7 a) s).fin:=aT h
def du:Xd []:=(au (aG 1 (aj fG (ab (aa 0) (ab (ac aQ (xC (.int 4)) (jj pJ (ab (ac o_ (aj bQ (ab (aa 0) (ab (xC (.int 8)) a_))) (xC (.int 0))) a_))) a_))))
 (au (aG 2 (aj jL (ab (aa 1) a_)))
 (au (aG 3 (jj bV (ab (aj cB (ab (jj Fp (ab (ac il (aa 1) (xC (.int 0))) a_)) a_)) a_)))
 (au (dy (aL (aj dQ (ab (ac il (aa 1) (xC (.int 0))) a_))) (iw 4) (au (n7 (eM (xB (aj bF (ab (aa 1) (ab (aa 2) (ab (aa 4) a_)))))) (aO (xC (.bl T))) im)
 (aG 3 (jj jf (ab (aa 3) (ab (ac eL (jj bV (ab (ac il (aj cM (ab (aa 1) (ab (aa 4) a_))) (xC (.int 1))) a_)) (jj bV (ab (ac il (aa 1) (xC (.int 1))) a_))) a_))))))
 (au (sP (aj cm (ab (aa 1) a_)) (vf (mq (iw 5) (mq (iw 6) u_)) 2))
 (au (n7 (xB (ac G4 (aa 3) (xC (.int 0)))) (aO (dY (ac o_ (aa 5) (xC (.str "ring"))) (ac (z9 T) (aj eT (ab (aa 1) (ab (aa 6) a_))) (xC (.bl I))))) im)
 (aO (dY (ac o_ (aa 5) (xC (.str "order"))) (ac o_ (jj bV (ab (ac il (aj cM (ab (aa 1) (ab (aa 6) a_))) (xC (.int 1))) a_)) (jj bV (ab (ac il (aa 1) (xC (.int 1))) a_)))))))))))
def bo:Fn:=bB 7 1 du
def pU{a:WR}{s:g_}(h:a.length=1):bo.p a s=(du.p (i_ 7 a) s).fin:=aT h
def iI:Xd []:=(au (aG 3 (aj fG (ab (aa 2) (ab (xC (.int 12)) a_))))
 (n7 (eM (xB (aj bF (ab (aa 3) (ab (aj jL (ab (aa 3) a_)) (ab (aj dS (ab (aa 2) (ab (ac il (aa 3) (xC (.int 0))) a_))) a_)))))) (aO (xC (.bl T))) im))
def Fc:mh:=(bJ (Ec (pI (mB (cj bo.m (aq (cj dR (aq (ar 0) (aq (mC (.int 0)) ib))) ib)))) (cr (mC (.bl T))) l7)
 (bJ (nN (oC (aq (mC (.int 1)) (aq (cj fB (aq (ar 0) (aq (mC (.int 8)) ib))) ib))) (CL 1) (bJ (bN 2 (cj dR (aq (ar 0) (aq (ar 1) ib))))
 (bJ (bN 3 (cj fG.m (aq (ar 2) (aq (mC (.int 12)) ib))))
 (Ec (pI (mB (cj bF.m (aq (ar 3) (aq (cj hV (aq (ar 3) ib)) (aq (cj dS.m (aq (ar 2) (aq (aC bG (ar 3) (mC (.int 0))) ib))) ib)))))) (cr (mC (.bl T))) l7))))
 (cr (mC (.bl I)))))
def EC:WL->MH->WZ:=d3 4 1 Fc
end
end Law
namespace Law
open MM PU SetT SortT
open L2 (qp l0 jE)
set_option maxHeartbeats 1000000
def Hl{i:Int}{s:g_}:gN.p [.int i] s=.ok (.bl I) s:=by rw[w4 (by rfl)];delta gG;simp[i_,c7]
def rS{n i:Int}{s:g_}:cc.p [.int n,.int i] s=.ok (.bl (decide (0<=i)&&decide (i<n))) s:=by rw[wP (by rfl)];delta gS;by_cases z:0<=i<;>simp[i_,Hl,z]
def nY{n i:Int}{s:g_}(a:0<=i)(f:i<n):aU.p [.int n,.int i] s=.ok .non s:=by rw[rW (by rfl)];delta d7;simp[i_,rS,a,f]
abbrev Uq(d:D)(ks:WP):Prop:=d.items=J (ks.map kD)
def nu:∀(a:WP),gQ (a.map kD)=J a
 |[]=>rfl
 |k::a=>by
  have:gK (kD k)=J k:=by
   show bR (k.map .int)=J k
   induction k with
   |nil=>rfl
   |cons i k f=>rw[oI,bR,f];rfl
  rw[oI,gQ,this,nu a]
open Classical in
theorem IV{a:WP}(h:(∀k∈a,k≠[])/\(SetT.m_ a).length<=66):Rm.p [.lst (a.map kD)]=J (.lst ((cE (SetT.m_ a)).map kD)):=by show(gQ (a.map kD)).bind _=_;rw[nu,Aa,c_ h]
def L9{a b:Int}:re.p [.tup [.int a,.int b]]=J (.int (if b<a then b else a)):=by
 simp[re,uG,bR,oi,argBest]
 split<;>simp
def L_{a b:Int}:pZ.p [.tup [.int a,.int b]]=J (.int (if b>a then b else a)):=by
 simp[pZ,uG,bR,oi,argBest]
 split<;>simp
local macro_rules | `(tactic| simp! [$a,*]) => `(tactic| simp only [$a,*, Pb, ah, am, ao, av])
local macro_rules | `(tactic| dsimp! [$a,*]) => `(tactic| simp only [$a,*, Pb, Pf])
def mf{n:Int}{d:D}{j:WP}{s:g_}(e:Uq d j)(r:∀k∈j,IsT n k)(z:j.length<=100000)(hd:(SetT.m_ (j.map zL)).length<=66):
  bm.p [d] s=.ok (.tup ((cE (SetT.m_ (j.map zL))).map kD)) s:=by
 rw[sF (by rfl)];delta d6
 have q:=cH (ws:=[]) (ws':=[]) (env:=i_ 1 [d]) (s:=s) (fm:=[]) (i:=aL (aa 0)) (t:=i3) (e:=(bw (ab (jj re (ab (aa 0) a_)) (ab (jj pZ (ab (aa 0) a_)) a_)))) (ds:=j.map kD) (λ_=>I) (λx=>match gK x with|some k=>kD (zL k)|none=>.non) (by simp[i_,e]) (by simpa using z) (λx u=>by
   obtain⟨k,f,rfl⟩:=mm.mp u;obtain⟨a,b,rfl,_⟩:=r k f
   simp[kD,L9,L_,gK,bR,zL])
 have e2:(((j.map kD).filter λ_=>I).map λx=>match gK x with|some k=>kD (zL k)|none=>.non)=(j.map zL).map kD:=by rw[cA,CA,CA];refine No λk f=>?_;obtain⟨a,b,rfl,_⟩:=r k f;rfl
 rw[e2]at q
 have y:=IV ⟨λk f=>by
  obtain⟨B,l,rfl⟩:=mm.mp f;obtain⟨a,b,rfl,_⟩:=r B l
  simp[zL],hd⟩
 rw[bf,bS,ah,bS,ah,q];dsimp![ao,y,vz,Pg,PU.bY]
def ae(n:Int)(a:WP):D:=.tup [.int n,.tup (a.map kD)]
def Ai{n v:Int}:∀(f:WP),(∀k∈f,∃a b:Int,k=[a,b]/\0<=a/\a<b/\b<n)->(((f.map kD).filter λx=>match x with|.tup [.int a,.int b]=>decide (b=v)|_=>T).map λx=>match x with|.tup [.int a,.int b]=>.int a|_=>.non)=(below v f).map D.int:=by
 intro f
 induction f with
 |nil=>intro _;rfl
 |cons k f l =>
  intro j;obtain⟨a,b,rfl,_⟩:=j k (by simp)
  have:=l λk i=>j k (mw _ i)
  by_cases z:b=v<;>simp[below,kD,z]at this ⊢<;>exact this
def zF{n v:Int}:∀(f:WP),(∀k∈f,∃a b:Int,k=[a,b]/\0<=a/\a<b/\b<n)->(((f.map kD).filter λx=>match x with|.tup [.int a,.int b]=>decide (a=v)|_=>T).map λx=>match x with|.tup [.int a,.int b]=>.int b|_=>.non)=(above v f).map D.int:=by
 intro f
 induction f with
 |nil=>intro _;rfl
 |cons k f l =>
  intro j;obtain⟨a,b,rfl,_⟩:=j k (by simp)
  have:=l λk i=>j k (mw _ i)
  by_cases z:a=v<;>simp[above,kD,z]at this ⊢<;>exact this
def mn(v:Int)(a:WP):WN:=below v a++above v a
def uy{n v:Int}{f:WP}{s:g_}(w:h8 n f)(C:0<=v)(hv:v<n):aY.p [ae n f,.int v] s=.ok (.lst ((mn v f).map .int)) s:=by
 have z:f.length<=66:=fA w.n12 w.tie w.nd;rw[ur (by rfl)];delta fb
 have r:=oU (ws:=[]) (ws':=[]) (env:=[J (ae n f),J (.int v),Y,Y]) (s:=s) (fm:=[1]) (i:=aL (ac il (aa 0) (xC (.int 1)))) (t:=xB (ac o_ (aa 1) (aa 2))) (e:=aa 0) (ds:=f.map kD) (λx=>match x with|.tup [.int a,.int b]=>decide (b=v)|_=>T) (λx=>match x with|.tup [.int a,.int b]=>.int a|_=>.non) (by simp[ae]) (by simp;ext) (λx l=>by
   obtain⟨k,j,rfl⟩:=mm.mp l;obtain⟨a,b,rfl,_⟩:=w.tie k j
   exact⟨.int a,.int b,rfl,by simp[kD],λ_=>by simp[kD]⟩)
 have u:=oU (ws:=[]) (ws':=[]) (env:=[J (ae n f),J (.int v),J (.lst ((below v f).map .int)),Y]) (s:=s) (fm:=[1]) (i:=aL (ac il (aa 0) (xC (.int 1)))) (t:=xB (ac o_ (aa 0) (aa 2))) (e:=aa 1) (ds:=f.map kD) (λx=>match x with|.tup [.int a,.int b]=>decide (a=v)|_=>T) (λx=>match x with|.tup [.int a,.int b]=>.int b|_=>.non) (by simp[ae]) (by simp;ext) (λx l=>by
   obtain⟨k,j,rfl⟩:=mm.mp l;obtain⟨a,b,rfl,_⟩:=w.tie k j
   exact⟨.int a,.int b,rfl,by simp[kD],λ_=>by simp[kD]⟩)
 rw[Ai f w.tie]at r;rw[zF f w.tie]at u;have bl:(below v f).length<=66:=ny (QC _ _) z;have E:(above v f).length<=66:=ny (QC _ _) z;have B:(eP (aj aU (ab (ac il (aa 0) (xC (.int 0))) (ab (aa 1) a_))):Xd []).p (i_ 4 [ae n f,.int v]) s=.nx [J (ae n f),J (.int v),Y,Y] s:=by simp[i_,ae,nY C hv]
 rw[ai,B,PU.af,ai,aR,r,Pg,PU.af,ai,aR];show(((aJ 2 [1] _ _ _ _ _ _).p [J (ae n f),J (.int v),J (.lst ((below v f).map .int)),Y] s).go _ _ |>.then _).fin=_;rw[u];simp[cW (x:=(below v f).map .int) (y:=(above v f).map .int) (by simp;ext),mn]
def dU(n:Nat):dg 0 n=(d_ n).map .int:=by simp[dg,d_]
def vM(n:Nat):(d_ n).Pairwise (·<=·):=by exact List.Pairwise.map _ (λa b h=>by ext) RL
def tY{ns:WN}(f:ns.length<64):nW.p [.lst (ns.map .int)]=J (.lst ((fg ns).map .int)):=by
 have e:∀ns:WN,bR (ns.map .int)=J ns:=λns=>by
  induction ns with
  |nil=>rfl
  |cons i k a=>rw[oI,bR,a];rfl
 show(uC (ns.map .int)).map _=_;simp only[uC,e];rw[c_ f];rfl
def DI{a:WN}{n:Nat}(pm:a.Perm (d_ n)):fg a=d_ n:=iA (lT _) (vM n) ((iX a).trans pm)
def yV{n:Nat}{f:WP}{a:WN}{s:g_}(C:n<=12)(pm:a.Perm (d_ n)):gP.p [ae n f,.lst (a.map .int)] s=.ok (.bl I) s:=by
 have B:a.length=n:=by have:=pm.length_eq;simpa [d_]using this
 rw[w5 (by rfl)];delta gI
 have q:=cH (ws:=[]) (ws':=[]) (env:=[J (ae n f),J (.lst (a.map .int))]) (s:=s) (fm:=[0]) (i:=aL (aa 1)) (t:=i3) (e:=(aj cc (ab (ac il (aa 1) (xC (.int 0))) (ab (aa 0) a_)))) (ds:=a.map .int) (λ_=>I) (λ_=>.bl I) (by simp) (by simp;ext) (λx y=>by
   obtain⟨i,u,rfl⟩:=mm.mp y
   have:=aH.mp (pm.mem_iff.mp u)
   exact⟨rfl,λ_=>by simp[ae,rS,this.1,this.2]⟩)
 have e2:(((a.map D.int).filter λ_=>I).map λ_=>D.bl I)=List.replicate n (.bl I):=by rw[cA,CA];exact MD.mpr ⟨by simp[B],by simp⟩
 rw[e2]at q;have l:∀m,gZ (List.replicate m (.bl I))=J (List.replicate m I):=λm=>by
  induction m with
  |zero=>rfl
  |succ m r=>rw[MF,MF,gZ,r];rfl
 have e3:kM.p [.lst (List.replicate n (.bl I))]=J (.bl I):=by show((J (List.replicate n (D.bl I))).bind gZ).map _=_;rw[Aa,l];simp
 have z:i_ 2 [ae n f,.lst (a.map .int)]=[J (ae n f),J (.lst (a.map .int))]:=rfl;have j:(n7 (eM (xB (p8 (cu ["list"]) (aa 1)))) (aO (xC (.bl T))) im:Xd []).p [J (ae n f),J (.lst (a.map .int))] s=.nx [J (ae n f),J (.lst (a.map .int))] s:=by simp[c7]
 rw[z,ai,j,PU.af,ai,bp,jU,dA,bS,ah,q];simp![e3,Pf,Pl,ET,Pg,nw,if_false,bM,PU.af,bf,aE,bS];rw[tY (by ext),DI pm];dsimp![ae,bz,aS,uE,zJ,ao];rw[oo (by ext),z_,dU];simp[wJ]
def uv{n:Nat}{f:WP}{a:WN}{s:g_}(i:n<=12)(pm:a.Perm (d_ n)):d8.p [ae n f,.lst (a.map .int)] s=.ok .non s:=by rw[rO (by rfl)];delta eE;simp[i_,yV i pm]
def g6{ns:WN}{j:Nat}(a:j<=ns.length):kQ (ns.map D.int) (J (j:Int)) Y=(ns.drop j).map .int:=by delta kQ;rw[HT.uL,oF,HT.xF,MU a,List.map_drop];exact Ft (by simp)
def gv{a:WR}:(eR a).length=a.length:=by simp[eR]
def iP{a:WR}{j:Nat}{d:D}(e:(eR a)[j]?=J d):∃x,a[j]?=J x/\d=.tup [.int (j:Int),x]:=by
 unfold eR at e;rw[oe,RT]at e
 cases e1:a[j]? with
 |none=>rw[e1]at e;cases e
 |some x=>rw[e1]at e;simp at e;exact⟨x,rfl,e.symm⟩
def eI{f:WQ}{env:az}{s s1:g_}{o:EO}{i:Nat}{a:Xs f}{l:f.contains i=I}{j:a.fz=I}{as ds ds':WR}{r:D}(e1:a.p env s=.ok as s1)(e2:env[i]?=J (J (.lst ds)))(e3:o.p ds as=J (r,ds')):(vu o i a l j).p env s=.nx (env.set i (J (.lst ds'))) s1:=by rw[O4,AG e1 e2 e3]
def hU{ns:WN}{j:Nat}{x:D}(e:(ns.map D.int)[j]?=J x):x=.int (ns.getD j 0)/\j<ns.length:=by rw[oe,tr]at e;obtain⟨i,e1,rfl⟩:=e;obtain⟨a,f⟩:=kx.mp e1;exact⟨by simp[e1],a⟩
def oK{ns:WN}{s:g_}(F:ns.length<=12):cB.p [.lst (ns.map .int)] s=.ok (.lst ((aM ns ns.length).map kD)) s:=by
 rw[zG (by rfl)];delta iK;have G:i_ 4 [D.lst (ns.map .int)]=[J (.lst (ns.map .int)),Y,Y,Y]:=rfl;obtain⟨u,a,e,l,f,rfl,H⟩:=di (g:=(vf (mq (iw 2) (mq (iw 3) u_)) 2:Xg [1]).p) (b:=(vu li 1 (ab (aJ 1 [3] (aL (yP (aa 0) (yI (ac aQ (aa 2) (xC (.int 1)))) yv)) (ws':=[]) (iw 0) i3 (bw (ab (aa 1) (ab (aa 0) a_)))) a_):Xd [1]).p)
  (λj env a=>∃l f,env=[J (.lst (ns.map .int)),J (.lst ((aM ns j).map kD)),l,f]/\a=s) (eR (ns.map .int)) 0 [J (.lst (ns.map .int)),J (.lst []),Y,Y] s ⟨Y,Y,rfl,rfl⟩ (λj env a d ⟨l,f,z,E⟩ hd=>by
   rw[o0]at z ⊢;subst z E;obtain⟨x,y,rfl⟩:=iP hd;obtain⟨rfl,L⟩:=hU y;have B:=d5 F j
   have q:=cH (ws:=[1]) (ws':=[]) (env:=[J (.lst (ns.map .int)),J (.lst ((aM ns j).map kD)),J (.int (j:Int)),J (.int (ns.getD j 0))]) (s:=a) (fm:=[3]) (i:=(aL (yP (aa 0) (yI (ac aQ (aa 2) (xC (.int 1)))) yv))) (t:=i3) (e:=(bw (ab (aa 1) (ab (aa 0) a_)))) (ds:=(ns.drop (j+1)).map .int) (λ_=>I) (λx=>.tup [.int (ns.getD j 0),x]) (by
     have:=g6 (ns:=ns) (j:=j+1) (by ext)
     push_cast at this
     simp[this]) (by simp;ext) (λx y=>⟨rfl,λ_=>by simp⟩)
   have e2:((((ns.drop (j+1)).map D.int).filter λ_=>I).map λx=>D.tup [.int (ns.getD j 0),x])=((ns.drop (j+1)).map λb=>[ns.getD j 0,b]).map kD:=by rw[cA,CA,CA];rfl
   rw[e2]at q;refine⟨[J (.lst (ns.map .int)),J (.lst ((aM ns j).map kD)),J (.int (j:Int)),J (.int (ns.getD j 0))],_,a,by simp,eI (s1:=a) (as:=[.lst (((ns.drop (j+1)).map λb=>[ns.getD j 0,b]).map kD)]) (ds:=(aM ns j).map kD) (ds':=(aM ns (j+1)).map kD) (r:=.non) (by rw[ah,q];simp only[Pb,ao]) rfl ?_,_,_,rfl,rfl⟩
   rw[tf (by simp;ext),pG,Ig])
 rw[gv,oF,o0,H]at e;have C:(cI 1 (br a_):Xd [1]).p [J (.lst (ns.map .int)),Y,Y,Y] s=.nx [J (.lst (ns.map .int)),J (.lst []),Y,Y] s:=by simp
 rw[G,ai,C,PU.af,ai,dL,fh,ah];dsimp![am,ao,G7,Pg];rw[e,PU.af,kW (d:=.lst ((aM ns ns.length).map kD)) rfl,PU.bY]
def xu{ns:WN}{s:g_}(a:ns.length<=12):cN.p [.lst (ns.map .int)] s=.ok (.lst ((aM ns ns.length).map kD)) s:=oK a
def Qe(left:WN)(x:D):Bool:=match x with
 |.int i=>decide (i∈left)
 |_=>T
def Hm(v:Int)(x:D):Bool:=match gK x with
 |some k=>!decide (v∈k)
 |none=>T
def gD(k:WN):gK (kD k)=J k:=by
 have:=nu [k]
 simp only[oI,R_,gQ]at this;revert this
 cases gK (kD k) with
 |none=>intro h;cases h
 |some y=>intro h;simp at h;rw[h]
@[simp]theorem VD{left:WN}{i:Int}:Qe left (.int i)=decide (i∈left):=rfl
@[simp]theorem Ur{v:Int}{k:WN}:Hm v (kD k)=!decide (v∈k):=by simp[Hm,gD]
def Fd(v:Int)(a:WP):WP:=a.filter λk=>!decide (v∈k)
def Aj(left:WN)(v:Int)(a:WP):WN:=(mn v a).filter λx=>decide (x∈left)
def o7(left:WN)(v:Int)(a:WP):WP:=cE (SetT.m_ (Fd v a++aM (Aj left v a) (Aj left v a).length))
def jK{n v:Int}{left:WN}{f:WP}(w:h8 n f):(Aj left v f).Pairwise (·<·)/\(∀x∈Aj left v f,0<=x/\x<n)/\(Aj left v f).length<=12:=by
 obtain⟨nd,l⟩:=ld w;have ris:=yA (v:=v) w;have lt:(mn v f).Pairwise (·<·):=by
  refine(ris.and nd).imp λ{a b} h=>?_
  grind
 refine⟨lt.filter _,λx i=>l x (wl.mp i).1,?_⟩;have j:(Aj left v f).Nodup:=nd.filter _
 have:=List.Nodup.length_le_of_subset (l₂:=d_ 12) j λx i=>by
  rw[aH]
  have:=l x (wl.mp i).1
  have:=w.n12
  lia
 simpa [d_]using this
def lp{n v:Int}{left:WN}{f:WP}(w:h8 n f):∀k∈Fd v f++aM (Aj left v f) (Aj left v f).length,∃a b:Int,k=[a,b]/\0<=a/\a<b/\b<n:=λk l=>by
 obtain⟨i,j,r⟩:=jK w;rcases ml.mp l with q|q
 .exact w.tie k (wl.mp q).1
 .exact gT i j k q
def lu{n:Int}{f:WP}(j:0<=n)(i:n<=12)(l:∀k∈f,∃a b:Int,k=[a,b]/\0<=a/\a<b/\b<n):h8 n (cE (SetT.m_ f)) :=
 ⟨j,i,λk r=>l k ((SetT.gA k f).mp ((cS _).mem_iff.mp r)),lZ _,(cS _).symm.nodup (m9 f)⟩
def m6{n:Int}{f:WP}(i:n<=12)(j:∀k∈f,∃a b:Int,k=[a,b]/\0<=a/\a<b/\b<n):(SetT.m_ f).length<=66 :=
 fA i (λk l=>j k ((SetT.gA k f).mp l)) (m9 f)
def qZ{n:Int}{f:WP}(i:∀k∈f,∃a b:Int,k=[a,b]/\0<=a/\a<b/\b<n):f.map zL=f:=by
 have:f.map zL=f.map id:=No λk j=>by
  obtain⟨a,b,rfl,_,lt,_⟩:=i k j;exact nB lt
 rw[this,List.map_id]
def Ay{n:Int}{f:WP}(i:∀k∈f,∃a b:Int,k=[a,b]/\0<=a/\a<b/\b<n):∀k∈f,IsT n k:=λk r=>by
 obtain⟨a,b,rfl,j,u,l⟩:=i k r;exact⟨a,b,rfl,j,⋯,⋯,l,⋯⟩
def Hn{n v:Int}{left:WN}{a:WP}(w:h8 n a):h8 n (o7 left v a):=lu w.n0 w.n12 (lp w)
def vG{v:Int}:∀(f:WP),(((f.map kD).filter (Hm v)).map λx=>x)=(Fd v f).map kD
 |[]=>rfl
 |k::f=>by
  have a:=vG (v:=v) f;unfold Fd at a ⊢;by_cases z:v∈k
  .simp[z]at a ⊢;exact a
  .simp[z]at a ⊢;exact a
def kw{left:WN}:∀(ns:WN),(((ns.map D.int).filter (Qe left)).map λx=>x)=(ns.filter λx=>decide (x∈left)).map D.int
 |[]=>rfl
 |i::ns=>by
  have a:=kw (left:=left) ns;by_cases z:i∈left<;>simp[z]at a ⊢<;>exact a
def xx{n v:Int}{left:WN}{f:WP}{s:g_}(w:h8 n f)(l:0<=v)(hv:v<n):ci.p [ae n f,.lst (left.map .int),.int v] s=.ok (.lst ((aM (Aj left v f) (Aj left v f).length).map kD)) s:=by
 obtain⟨z,y,j⟩:=jK w;have C:(mn v f).length<=132:=by
  have:=fA w.n12 w.tie w.nd
  have a:(below v f).length<=f.length:=QC _ _;have b:(above v f).length<=f.length:=QC _ _;simp[mn];lia
 rw[sC (by rfl)];delta eD;have u:i_ 3 [ae n f,.lst (left.map .int),.int v]=[J (ae n f),J (.lst (left.map .int)),J (.int v)]:=rfl
 have q:=cH (ws:=[]) (ws':=[]) (env:=[J (ae n f),J (.lst (left.map .int)),J (.int v)]) (s:=s) (fm:=[1]) (i:=aL (aj aY (ab (aa 0) (ab (aa 2) a_)))) (t:=xB (ac (n3 T) (aa 0) (aa 1))) (e:=aa 0) (ds:=(mn v f).map .int) (Qe left) (λx=>x) (by simp[uy w l hv]) (by simp;lia) (λx r=>by
   obtain⟨i,B,rfl⟩:=mm.mp r
   exact⟨by simp[fO (d:=.lst (left.map .int)) rfl],λ_=>by simp⟩)
 rw[kw]at q;rw[u,bf,aI,ah,q]
 have:=xu (s:=s) j
 simp only[Pb,ao];unfold Aj at this ⊢;rw[this];simp
def Cg{n:Int}{left:WN}{s:g_}(h:∀x∈left,0<=x/\x<n):cV.p [.int n,.lst (left.map .int)] s=.ok .non s:=by
 rw[qe (by rfl)];delta dN;obtain⟨f,a,e,z,rfl,y⟩:=di (g:=(iw 2:Xg []).p) (b:=(eP (aj aU (ab (aa 0) (ab (aa 2) a_))):Xd []).p)
  (λj env a=>∃z,env=[J (.int n),J (.lst (left.map .int)),z]/\a=s) (left.map .int) 0 [J (.int n),J (.lst (left.map .int)),Y] s ⟨Y,rfl,rfl⟩ (λj env a d ⟨z,u,r⟩ hd=>by
   subst u r;obtain⟨i,l,rfl⟩:=mm.mp (wj hd)
   exact⟨[J (.int n),J (.lst (left.map .int)),J (.int i)],[J (.int n),J (.lst (left.map .int)),J (.int i)],a,rfl,by simp[nY (h i l).1 (h i l).2],_,rfl,rfl⟩)
 rw[show i_ 3 [D.int n,.lst (left.map .int)]=[J (.int n),J (.lst (left.map .int)),Y]from rfl,dL]
 simp_all
def vw{n v:Int}{left:WN}{a:WP}{s:g_}(w:h8 n a)(j:0<=v)(hv:v<n)(f:∀x∈left,0<=x/\x<n):dM.p [ae n a,.lst (left.map .int),.int v] s=.ok (ae n (o7 left v a)) s:=by
 have C:=fA w.n12 w.tie w.nd;obtain⟨G,E,u⟩:=jK (v:=v) (left:=left) w;have F:=d5 u (Aj left v a).length;have L:(Fd v a).length<=66:=ny (Fv _ _) C;rw[ud (by rfl)];delta eS;have B:i_ 4 [ae n a,.lst (left.map .int),.int v]=[J (ae n a),J (.lst (left.map .int)),J (.int v),Y]:=rfl
 have q:=cH (ws:=[]) (ws':=[]) (env:=[J (ae n a),J (.lst (left.map .int)),J (.int v),Y]) (s:=s) (fm:=[2]) (i:=aL (ac il (aa 0) (xC (.int 1)))) (t:=xB (ac (n3 I) (aa 1) (aa 0))) (e:=aa 0) (ds:=a.map kD) (Hm v) (λx=>x) (by simp[ae]) (by simp;lia) (λx y=>by
   obtain⟨k,H,rfl⟩:=mm.mp y
   exact⟨by simp[fO (d:=kD k) (xs:=k) rfl],λ_=>by simp⟩)
 rw[vG]at q;have r:=mf (n:=n) (d:=.lst ((Fd v a++aM (Aj left v a) (Aj left v a).length).map kD)) (s:=s) rfl (Ay (lp w)) (by simp;lia) (by rw[qZ (lp (v:=v) (left:=left) w)];exact m6 w.n12 (lp w));rw[qZ (lp (v:=v) (left:=left) w)]at r;have l:(eP (aj aU (ab (ac il (aa 0) (xC (.int 0))) (ab (aa 2) a_))):Xd []).p [J (ae n a),J (.lst (left.map .int)),J (.int v),Y] s=.nx [J (ae n a),J (.lst (left.map .int)),J (.int v),Y] s:=by simp[ae,nY j hv]
 have z:(eP (aj cV (ab (ac il (aa 0) (xC (.int 0))) (ab (aa 1) a_))):Xd []).p [J (ae n a),J (.lst (left.map .int)),J (.int v),Y] s=.nx [J (ae n a),J (.lst (left.map .int)),J (.int v),Y] s:=by simp[ae,Cg f]
 rw[B,ai,l,PU.af,ai,z,PU.af,ai,aR,q];simp![Pg,PU.af,n6,og,bf,jT,aE,bz,aS,aI,xx w j hv];rw[cW (by simp;lia)];rw[Ig]at r;dsimp![r,ao,ae,uE,zJ];simp[o7]
def gk(f:WP)(a:WN):Nat->WP
 |0=>f
 |j+1=>o7 (a.drop j) (a.getD j 0) (gk f a j)
def fI(a:WP)(f:WN):Nat->WP
 |0=>a
 |j+1=>fI a f j++gk a f (j+1)
def aA(f:WP)(a:WN):WP:=cE (SetT.m_ (fI f a a.length))
def ll{n:Int}{a:WP}{qs:WN}(w:h8 n a):∀j,h8 n (gk a qs j)
 |0=>w
 |j+1=>Hn (ll w j)
def nX{n:Int}{i:WP}{qs:WN}(w:h8 n i):∀j,(∀k∈fI i qs j,∃a b:Int,k=[a,b]/\0<=a/\a<b/\b<n)/\(fI i qs j).length<=66+66*j
 |0=>⟨w.tie,by have:=fA w.n12 w.tie w.nd;simpa [fI]using this⟩
 |j+1=>by
  obtain⟨a,b⟩:=nX (qs:=qs) w j;have f:=ll (qs:=qs) w (j+1)
  have:=fA f.n12 f.tie f.nd
  refine⟨λk l=>?_,by rw[fI,Em];lia⟩;rcases ml.mp l with q|q
  .exact a k q
  .exact f.tie k q
def dw{n:Int}{a:WP}{qs:WN}(w:h8 n a):h8 n (aA a qs):=lu w.n0 w.n12 (nX w _).1
structure Ord(n:Nat)(qs:WN):Prop where
 n12:n<=12
 pm:qs.Perm (d_ n)
def Ord.len{n:Nat}{a:WN}(o:Ord n a):a.length=n:=by have:=o.pm.length_eq;simpa [d_]using this
def Ord.bd{n:Nat}{a:WN}(o:Ord n a):∀q∈a,0<=q/\q<(n:Int):=λq f=>aH.mp (o.pm.mem_iff.mp f)
def Ord.at{n:Nat}{a:WN}(o:Ord n a){j:Nat}(f:j<a.length):0<=a.getD j 0/\a.getD j 0<(n:Int):=o.bd _ (by
 have:a.getD j 0=a[j]:=by simp[f]
 rw[this];exact Ee f)
def lM{n:Nat}{f:WP}{a:WN}{s:g_}(w:h8 n f)(o:Ord n a):cM.p [ae n f,.lst (a.map .int)] s=.ok (ae n (aA f a)) s:=by
 have hl:f.length<=66:=fA w.n12 w.tie w.nd;have X:=o.len;have n12:=o.n12;rw[B6 (by rfl)];delta jC;have Q:i_ 6 [ae n f,.lst (a.map .int)]=[J (ae n f),J (.lst (a.map .int)),Y,Y,Y,Y]:=rfl
 obtain⟨F,y,e,z,B,rfl,S⟩:=di (g:=(vf (mq (iw 4) (mq (iw 5) u_)) 2:Xg [2]).p) (b:=(au (aG 3 (aj dM (ab (aa 3) (ab (yP (aa 1) (yI (aa 4)) yv) (ab (aa 5) a_)))))
 (vu li 2 (ab (ac il (aa 3) (xC (.int 1))) a_)):Xd [2]).p)
  (λj env y=>∃z B,env=[J (ae n f),J (.lst (a.map .int)),J (.lst ((fI f a j).map kD)),J (ae n (gk f a j)),z,B]/\y=s) (eR (a.map .int)) 0 [J (ae n f),J (.lst (a.map .int)),J (.lst (f.map kD)),J (ae n f),Y,Y] s ⟨Y,Y,rfl,rfl⟩ (λj env y d ⟨z,B,G,M⟩ hd=>by
   rw[o0]at G ⊢;subst G M;obtain⟨x,E,rfl⟩:=iP hd;obtain⟨rfl,H⟩:=hU E;have U:=ll (qs:=a) w j;have u:=ll (qs:=a) w (j+1);have Z:=(nX (qs:=a) w j).2;have l2:=fA u.n12 u.tie u.nd;have st:=vw (left:=a.drop j) (s:=y) U (o.at H).1 (o.at H).2 (λx E=>o.bd x (Jf E));have P:=g6 (ns:=a) (j:=j) ⋯;refine⟨[J (ae n f),J (.lst (a.map .int)),J (.lst ((fI f a j).map kD)),J (ae n (gk f a j)),J (.int (j:Int)),J (.int (a.getD j 0))],[J (ae n f),J (.lst (a.map .int)),J (.lst ((fI f a (j+1)).map kD)),J (ae n (gk f a (j+1))),J (.int (j:Int)),J (.int (a.getD j 0))],y,by simp,?_,_,_,rfl,rfl⟩;rw[ai,aR];simp![aI,zO,zr,zw,Am,P,Pf,st,Pg,n6,og,PU.af]
   rw[eI (s1:=y) (as:=[.tup ((gk f a (j+1)).map kD)]) (ds:=(fI f a j).map kD) (ds':=(fI f a (j+1)).map kD) (r:=.non) (by simp[ae,gk]) rfl (by
    rw[AI (by simp;lia),fI,Ig])]
   rfl)
 rw[gv,oF,o0,S]at e;obtain⟨at',W⟩:=nX (qs:=a) w a.length;have r:=mf (n:=n) (d:=.lst ((fI f a a.length).map kD)) (s:=s) rfl (Ay at') ⋯ (by rw[qZ at'];exact m6 w.n12 at');rw[qZ at']at r;rw[Q,ai,G5,aI,ah];simp![uv o.n12 o.pm,Pg,PU.af];rw[ai,gC,bS,ah,aE];dsimp![am,bz,aS,ae,uE,Ox,ao];rw[G6 (by simp;lia)];simp![Pf,Pg,n6,og,PU.af,ai,aR,dL,fh,G7];unfold ae at e;rw[e];simp![PU.af,bf,jT,aE,bz,aS,uE,zJ,Pf,yz];rw[r];have L:EN (D.tup ((cE (SetT.m_ (fI f a a.length))).map kD))=I:=by
  have O:∀k:WN,nc (k.map .int)=I:=λk=>by
   induction k with
   |nil=>rfl
   |cons i k C=>simp[nc,flat,C]
  have R:∀l:WP,nc (l.map kD)=I:=λl=>by
   induction l with
   |nil=>rfl
   |cons i k C=>simp[nc,flat,C,kD,O]
  simp[EN,flat,R]
 simp[L,aA]
inductive s_:Nat->D->Prop where
 |non{n:Nat}:s_ n .non
 |bl{n:Nat}(b:Bool):s_ n (.bl b)
 |int{n:Nat}(i:Int):s_ n (.int i)
 |tup{n:Nat}{ds:WR}(hl:ds.length<=1000)(h:∀d∈ds,s_ n d):s_ (n+1) (.tup ds)
 |lst{n:Nat}{ds:WR}(hl:ds.length<=1000)(h:∀d∈ds,s_ n d):s_ (n+1) (.lst ds)
def uW(xs:WR):rq xs xs=xs.map λx=>.tup [x,x]:=by
 delta rq
 induction xs with
 |nil=>rfl
 |cons x xs a=>simp at a ⊢;exact a
def yD:∀m,gZ (List.replicate m (.bl I))=J (List.replicate m I)
 |0=>rfl
 |m+1=>by rw[MF,gZ,yD m];rfl
def v4{m:Nat}:kM.p [.lst (List.replicate m (.bl I))]=J (.bl I):=by show((J (List.replicate m (D.bl I))).bind gZ).map _=_;rw[Aa,yD];simp
def zn:∀{n:Nat}{d:D}{s:g_},s_ n d->(cT (n+1)).p [d,d] s=.ok (.bl I) s:=by
 intro n d s h
 induction h with
 |non=>rw[gF (by rfl)];delta dr;simp[i_,c7,z9]
 |bl b=>rw[gF (by rfl)];delta dr;simp[i_,c7,z9]
 |int i=>rw[gF (by rfl)];delta dr;simp[i_,c7,z9]
 |@tup n a B _ j =>
  rw[gF (by rfl)];delta dr;have z:i_ 2 [D.tup a,D.tup a]=[J (.tup a),J (.tup a)]:=rfl
  have q:=oU (ws:=[]) (ws':=[]) (env:=[J (.tup a),J (.tup a)]) (s:=s) (fm:=[]) (i:=bO iZ (ab (aa 0) (ab (aa 1) a_))) (t:=i3) (e:=aj (cT (n+1)) (ab (aa 0) (ab (aa 1) a_))) (ds:=a.map λx=>.tup [x,x]) (λ_=>I) (λ_=>.bl I) (by simp[uW]) (by simp;lia) (λx r=>by
   obtain⟨y,u,rfl⟩:=mm.mp r
   exact⟨y,y,rfl,rfl,λ_=>by simp[j y u]⟩)
  have e2:(((a.map λx=>D.tup [x,x]).filter λ_=>I).map λ_=>D.bl I)=List.replicate a.length (.bl I):=by rw[cA,CA];exact MD.mpr ⟨by simp,by simp⟩
  rw[e2]at q;rw[z,ai,bp];dsimp![dA,mH,av,am,Bh,Lq,Jo,Pl,Pg];rw[c_ (by simp[c7]),ai,bp];have l:(E9 (xB (ac EV (p8 (cu ["list"]) (aa 0)) (p8 (cu ["list"]) (aa 1)))) (xB (ac EV (p8 (cu ["tuple"]) (aa 0)) (p8 (cu ["tuple"]) (aa 1)))):Xt []).p [J (.tup a),J (.tup a)] s=.ok T s:=by simp
  rw[l,Pg,f_ (by simp),bM,PU.af,bf,k9];have f:(ac o_ (jj bV (ab (aa 0) a_)) (jj bV (ab (aa 1) a_)):Xe []).p [J (.tup a),J (.tup a)] s=.ok (.bl I) s:=by simp
  rw[f];simp only[Pl,Pb,if_true];rw[bS,ah,q];dsimp![ao,v4,Pl,Pg,PU.g7,PU.bY]
 |@lst n a B _ j =>
  rw[gF (by rfl)];delta dr;have z:i_ 2 [D.lst a,D.lst a]=[J (.lst a),J (.lst a)]:=rfl
  have q:=oU (ws:=[]) (ws':=[]) (env:=[J (.lst a),J (.lst a)]) (s:=s) (fm:=[]) (i:=bO iZ (ab (aa 0) (ab (aa 1) a_))) (t:=i3) (e:=aj (cT (n+1)) (ab (aa 0) (ab (aa 1) a_))) (ds:=a.map λx=>.tup [x,x]) (λ_=>I) (λ_=>.bl I) (by simp[uW]) (by simp;lia) (λx r=>by
   obtain⟨y,u,rfl⟩:=mm.mp r
   exact⟨y,y,rfl,rfl,λ_=>by simp[j y u]⟩)
  have e2:(((a.map λx=>D.tup [x,x]).filter λ_=>I).map λ_=>D.bl I)=List.replicate a.length (.bl I):=by rw[cA,CA];exact MD.mpr ⟨by simp,by simp⟩
  rw[e2]at q;rw[z,ai,bp];dsimp![dA,mH,av,am,Bh,Lr,Jo,Pl,Pg];rw[c_ (by simp[c7]),ai,bp];have l:(E9 (xB (ac EV (p8 (cu ["list"]) (aa 0)) (p8 (cu ["list"]) (aa 1)))) (xB (ac EV (p8 (cu ["tuple"]) (aa 0)) (p8 (cu ["tuple"]) (aa 1)))):Xt []).p [J (.lst a),J (.lst a)] s=.ok T s:=by simp
  rw[l,Pg,f_ (by simp),bM,PU.af,bf,k9];have f:(ac o_ (jj bV (ab (aa 0) a_)) (jj bV (ab (aa 1) a_)):Xe []).p [J (.lst a),J (.lst a)] s=.ok (.bl I) s:=by simp
  rw[f];simp only[Pl,Pb,if_true];rw[bS,ah,q];dsimp![ao,v4,Pl,Pg,PU.g7,PU.bY]
def rH{d:D}{s:g_}(h:s_ 7 d):gB.p [d,d] s=.ok (.bl I) s:=zn h
def DC{n:Nat}{k:WN}(a:k.length<=1000):s_ (n+1) (kD k):=.tup (by simpa using a) λd hd=>by
 obtain⟨i,_,rfl⟩:=mm.mp hd;exact .int i
def BF{n:Nat}{m:Int}{f:WP}(l:f.length<=1000)(i:∀k∈f,∃a b:Int,k=[a,b]/\0<=a/\a<b/\b<m):∀d∈f.map kD,s_ (n+1) d:=λd hd=>by
 obtain⟨k,j,rfl⟩:=mm.mp hd;obtain⟨a,b,rfl,_⟩:=i k j;exact DC (by simp)
def Df{n:Int}{a:WP}(w:h8 n a):s_ 7 (ae n a):=.tup (by simp) λd hd=>by
 have f:=fA w.n12 w.tie w.nd;simp only[lb,HZ,or_false]at hd;rcases hd with rfl|rfl
 .exact .int n
 .exact .tup (by simp;lia) (BF ⋯ w.tie)
def At{ns:WN}(a:ns.length<=1000):s_ 7 (.lst (ns.map .int)):=.lst (by simpa using a) λd hd=>by
 obtain⟨i,_,rfl⟩:=mm.mp hd;exact .int i
def lW{g:D->az->Option az}{t:az->g_->PR Bool}{e:az->g_->PR D}(S:az->Prop)(P:D->Prop):∀(j:WR)(env:az)(s:g_),S env ->
  (∀x∈j,∀env s,S env->∃a,g x env=J a/\S a/\∃b u,t a s=.ok b u/\(b=I->∃y F,e a u=.ok y F/\P y))->∃r H,fT g t e j env s=.ok r H/\r.length<=j.length/\∀y∈r,P y
 |[],env,s,G,f=>⟨[],s,rfl,by simp,by simp⟩
 |x::j,env,s,G,f=>by
  obtain⟨a,e1,l,b,u,e2,e3⟩:=f x (by simp) env s G;have i:=λy L=>f y (mw x L);rw[fT,e1];dsimp only;rw[e2,Pb]
  cases b with
  |true =>
   obtain⟨y,F,e4,py⟩:=e3 rfl;obtain⟨r,B,e5,M,C⟩:=lW S P j a F l i;refine⟨y::r,B,by simp only[if_true,e4,Pb,e5],by simp;lia,λz E=>?_⟩;rcases lb.mp E with rfl|E
   .exact py
   .exact C z E
  |false =>
   obtain⟨r,B,e5,M,C⟩:=lW S P j a u l i;exact⟨r,B,by simp only[nw,if_false,e5],by simp;lia,C⟩
def lE{ws ws':WQ}{env:az}{s s0:g_}{fm:WQ}{i:Xi ws}{t:Xt ws'}{e:Xe ws'}{ds:WR}(P:D->Prop)(F:i.p env s=.ok ds s0)(L:ds.length<=100000)(a:∀x∈ds,∀s,∃b f,t.p (J x::fm.map λi=>(env[i]?).getD Y) s=.ok b f/\(b=I->∃y H,e.p (J x::fm.map λi=>(env[i]?).getD Y) f=.ok y H/\P y))(u:ws'.contains 0=T:=by exact ys rfl)(C:E_ 1 fm ws=ws':=by exact ys rfl)(hz:e.fz=I:=by exact ys rfl):
  ∃r j,(aJ 1 fm i (iw 0 u) t e C hz).p env s=.ok (.lst r) j/\r.length<=ds.length/\∀y∈r,P y:=by
 obtain⟨r,j,e1,E,B⟩:=lW (g:=(iw 0 u:Xg ws').p) (λv=>∃z,v=z::fm.map λi=>(env[i]?).getD Y) P ds (w_ 1 fm env) s0 ⟨Y,rfl⟩ λx G l s ⟨z,hz⟩=>by
  subst hz;obtain⟨b,f,e2,e3⟩:=a x G s;exact⟨_,rfl,⟨J x,rfl⟩,b,f,e2,e3⟩
 refine⟨r,j,?_,E,B⟩;rw[yk,F,Pb,c_ L,e1]
def ff{lo:Int}{c:Nat}:(dg lo c).length=c:=by simp[dg]
def lY{lo:Int}{c:Nat}{x:D}(h:x∈dg lo c):∃i:Int,x=.int i/\lo<=i/\i<lo+c:=by obtain⟨k,a,rfl⟩:=mm.mp h;rw[EG]at a;exact⟨_,rfl,⋯,⋯⟩
def vo{c i:Nat}{x:D}(h:(dg 0 c)[i]?=J x):x=.int (i:Int)/\i<c:=by unfold dg at h;rw[oe,tr]at h;obtain⟨k,f,rfl⟩:=h;obtain⟨a,b⟩:=kx.mp f;simp at a b;subst b;exact⟨by simp,a⟩
def yd{n:Nat}{s:g_}(C:n<=12):∃f i,dS.p [.pen,.int n] s=.ok (.lst (f.map .int)) i/\Ord n f:=by
 rw[zm (by rfl)];delta iL;have G:i_ 4 [D.pen,.int n]=[J .pen,J (.int n),Y,Y]:=rfl;obtain⟨u,i,e,z,f,rfl,pm⟩:=di (g:=(iw 3:Xg [2]).p) (b:=(vu yU 2 (ab (aj bQ (ab (aa 0) (ab (ac aQ (aa 3) (xC (.int 1))) a_))) (ab (aa 3) a_)):Xd [2]).p)
  (λj env i=>∃z f,env=[J .pen,J (.int n),J (.lst ((f:WN).map .int)),z]/\f.Perm (d_ j)) (dg 0 n) 0 [J .pen,J (.int n),J (.lst []),Y] s ⟨Y,[],rfl,by simp[d_]⟩ (λj env i d ⟨z,f,F,pm⟩ hd=>by
   rw[o0]at pm ⊢;subst F;obtain⟨rfl,L⟩:=vo hd;have B:f.length=j:=by have:=pm.length_eq;simpa [d_]using this
   obtain⟨d,l,E,H,y⟩:=gM (s:=i) (size:=(j:Int)+1) ⋯ ⋯;obtain⟨k,rfl⟩:=dG E;refine⟨[J .pen,J (.int n),J (.lst (f.map .int)),J (.int (j:Int))],[J .pen,J (.int n),J (.lst ((f.take k++(j:Int)::f.drop k).map .int)),J (.int (j:Int))],l,rfl,?_,_,f.take k++(j:Int)::f.drop k,rfl,?_⟩
   .rw[eI (s1:=l) (as:=[.int (k:Int),.int (j:Int)]) (ds':=(f.take k++(j:Int)::f.drop k).map .int) (r:=.non) (by simp[y]) rfl (by
     rw[AE (by simp;lia) (by simp;lia)];simp)]
    rfl
   .have:(f.take k++((j:Int))::f.drop k).Perm (((j:Int))::f):=by
     have:=H_ (a:=(j:Int)) (l₁:=f.take k) (l₂:=f.drop k)
     rwa [EW]at this
    refine this.trans ((pm.cons _).trans ?_);have e1:d_ (j+1)=d_ j++[(j:Int)]:=by simp[d_,Nw]
    rw[e1]
    exact(Qy _ _).symm)
 rw[ff,o0]at pm;refine⟨f,i,?_,C,pm⟩;rw[G,ai,gC];simp![cD,xv,t0,if_true,Pg,n6,og,PU.af,ai,dL,fh];rw[qg ⋯,z_,Pf,Pg,e,PU.af,kW rfl,PU.bY]
def j0(n:Nat)(y:D):Prop:=∃a b:Int,y=kD [a,b]/\0<=a/\a<b/\b<n
def xh{n:Nat}:∀{ys:WR},(∀y∈ys,j0 n y)->∃f:WP,ys=f.map kD/\∀k∈f,∃a b:Int,k=[a,b]/\0<=a/\a<b/\b<n
 |[],_=>⟨[],rfl,(λ_ h=>nomatch h)⟩
 |y::ys,h=>by
  obtain⟨f,e,r⟩:=xh λy l=>h y (mw _ l);obtain⟨a,b,rfl,j⟩:=h y (by simp);refine⟨[a,b]::f,by rw[e];rfl,λk i=>?_⟩;rcases lb.mp i with rfl|i
  .exact⟨a,b,rfl,j⟩
  .exact r k i
def jw(n:Nat):(d_ n).Pairwise (·<·):=by exact List.Pairwise.map _ (λa b h=>by lia) RL
def su{env:az}{s:g_}{lo:Int}{n:Nat}{t:Xt []}{e:Xe []}{n':Nat}(P:D->Prop)(B:env[1]?=J (J (.int (n:Int))))(L:0<=lo)(G:lo<=3)(H:n<=12)(f:∀i:Int,lo<=i->i<n->∀s,∃b l,t.p [J (.int i)] s=.ok b l/\(b=I->∃y E,e.p [J (.int i)] l=.ok y E/\P y))(u:e.fz=I:=by exact ys rfl):
  ∃r j,(aJ 1 [] (bO Fq (ab (xC (.int lo)) (ab (aa 1) a_))) (ws':=[]) (iw 0) t e (hz:=u):Xe []).p env s=.ok (.lst r) j/\r.length<=12/\∀y∈r,P y:=by
 obtain⟨r,j,q,F,z⟩:=lE (ws':=[]) (env:=env) (fm:=[]) (i:=bO Fq (ab (xC (.int lo)) (ab (aa 1) a_))) P (by
  simp only[fh,ah,bz,aS,oJ B,Pb,ao]
  rw[IQ ⟨⋯,⋯⟩];rfl) (by rw[ff];lia) (λx C s=>by
   obtain⟨i,rfl,a,b⟩:=lY C
   exact f i a ⋯ s) (hz:=u)
 refine⟨r,j,q,?_,z⟩;rw[ff]at F;lia
def Ho{n:Nat}{s:g_}(O:n<=12):∃ys H,iU.p [.pen,.int n] s=.ok (.lst ys) H/\ys.length<=400/\∀y∈ys,j0 n y:=by
 rw[yJ (by rfl)];delta iW;have e0:i_ 4 [D.pen,.int n]=[J .pen,J (.int n),Y,Y]:=rfl;obtain⟨l,u,w0,w1,qw⟩:=gM (s:=s) (size:=8) (by decide) (by decide);have al:(aG 2 (aj bQ (ab (aa 0) (ab (xC (.int 8)) a_))):Xd []).p [J .pen,J (.int n),Y,Y] s=.nx [J .pen,J (.int n),J (.int l),Y] u:=by simp[qw]
 rw[e0,ai,al,PU.af];by_cases c1:l<4
 .
  have pl:=d5 (ns:=d_ n) (by simp[d_];exact O) n;have ul:(d_ n).length=n:=by simp[d_]
  obtain⟨sz,es,U,an⟩:∃sz:Int,l0 [D.int 2,.int 3,.int 4,.int 6] l=J (.int sz)/\0<sz/\sz<=1000:=by
   have:l=0\/l=1\/l=2\/l=3:=by lia
   rcases this with rfl|rfl|rfl|rfl
   .exact⟨2,by simp,by decide,by decide⟩
   .exact⟨3,by simp,by decide,by decide⟩
   .exact⟨4,by simp,by decide,by decide⟩
   .exact⟨6,by simp,by decide,by decide⟩
  obtain⟨r,H,q,M,F⟩:=lE (ws:=[]) (ws':=[]) (env:=[J .pen,J (.int n),J (.int l),Y]) (s:=u) (s0:=u) (fm:=[0,2]) (i:=aL (aj cB (ab (jj Fp (ab (aa 1) a_)) a_))) (t:=(xB (ac o_ (aj bQ (ab (aa 1) (ab (ac il (br (ab (xC (.int 2)) (ab (xC (.int 3)) (ab (xC (.int 4)) (ab (xC (.int 6)) a_))))) (aa 2)) a_))) (xC (.int 0))))) (e:=aa 0) (ds:=(aM (d_ n) n).map kD) (j0 n) (by
    have:=oK (ns:=d_ n) (s:=u) ⋯
    rw[ul]at this;simp![dq,aI,bS];rw[oo ⋯,z_,dU]
    simp[this]) (by simp;lia) (λx L s=>by
    obtain⟨d,B,_,_,G⟩:=gM (s:=s) (size:=sz) U ⋯;refine⟨decide (d=0),B,by simp[es,G],λ_=>⟨x,B,by simp,?_⟩⟩;obtain⟨k,hk,rfl⟩:=mm.mp L;have W:k∈aM (d_ n) (d_ n).length:=by rw[ul];exact hk
    obtain⟨a,b,rfl,S⟩:=gT (n:=n) (jw n) (λx L=>aH.mp L) k W
    exact⟨a,b,rfl,S⟩)
  refine⟨r,H,?_,by simp at M;lia,F⟩;have t1:(xB (ac B_ (aa 2) (xC (.int 4))):Xt []).p [J .pen,J (.int n),J (.int l),Y] u=.ok I u:=by simp[c1]
  rw[ai,bp,t1,Pg,c_ rfl,bf,q];rfl
 have t1:(xB (ac B_ (aa 2) (xC (.int 4))):Xt []).p [J .pen,J (.int n),J (.int l),Y] u=.ok T u:=by simp[c1]
 rw[ai,bp,t1,Pg,f_ (by simp),bM,PU.af];by_cases c2:l=4
 .
  obtain⟨r,H,q,M,F⟩:=lE (ws:=[]) (ws':=[]) (env:=[J .pen,J (.int n),J (.int l),Y]) (s:=u) (s0:=u) (fm:=[0]) (i:=bO Fq (ab (xC (.int 1)) (ab (aa 1) a_))) (t:=i3) (e:=(bw (ab (aj bQ (ab (aa 1) (ab (aa 0) a_))) (ab (aa 0) a_)))) (ds:=dg 1 ((n:Int)-1).toNat) (j0 n) (by
    simp![fh,bz,aS]
    rw[IQ ⟨⋯,⋯⟩];rfl) (by rw[ff];lia) (λx L s=>by
    obtain⟨i,rfl,a,b⟩:=lY L;obtain⟨d,B,d0,d1,G⟩:=gM (s:=s) (size:=i) ⋯ ⋯
    exact⟨I,s,rfl,λ_=>⟨kD [d,i],B,by simp[G,kD],d,i,rfl,d0,d1,⋯⟩⟩)
  refine⟨r,H,?_,by rw[ff]at M;lia,F⟩;have t2:(xB (ac o_ (aa 2) (xC (.int 4))):Xt []).p [J .pen,J (.int n),J (.int l),Y] u=.ok I u:=by simp[c2]
  rw[ai,bp,t2,Pg,c_ rfl,bf,q];rfl
 have t2:(xB (ac o_ (aa 2) (xC (.int 4))):Xt []).p [J .pen,J (.int n),J (.int l),Y] u=.ok T u:=by simp[c2]
 rw[ai,bp,t2,Pg,f_ (by simp),bM,PU.af];by_cases c3:l=5
 .
  obtain⟨r,B,q,M,F⟩:=su (env:=[J .pen,J (.int n),J (.int l),Y]) (s:=u) (lo:=1) (n:=n) (n':=n) (t:=xB (ac G4 (ac vd (aa 0) (xC (.int 3))) (xC (.int 0)))) (e:=bw (ab (ac eL (aa 0) (xC (.int 1))) (ab (aa 0) a_))) (j0 n) rfl (by decide) (by decide) O (λi a b s=>⟨_,s,by simp[xf];rfl,λ_=>⟨kD [i-1,i],s,by simp[kD],_,_,rfl,⋯,⋯,⋯⟩⟩);obtain⟨r',P,q',ap,Q⟩:=su (env:=[J .pen,J (.int n),J (.int l),Y]) (s:=B) (lo:=3) (n:=n) (n':=n) (t:=i3) (e:=bw (ab (ac eL (aa 0) (xC (.int 3))) (ab (aa 0) a_))) (j0 n) rfl (by decide) (by decide) O (λi a b s=>⟨I,s,rfl,λ_=>⟨kD [i-3,i],s,by simp[kD],_,_,rfl,⋯,⋯,⋯⟩⟩);refine⟨r++r',P,?_,by simp;lia,λy E=>?_⟩
  .have R:(xB (ac o_ (aa 2) (xC (.int 5))):Xt []).p [J .pen,J (.int n),J (.int l),Y] u=.ok I u:=by simp[c3]
   rw[ai,bp,R,Pg,c_ rfl,bf,aE,q,Pb,q',Pb,cW ⋯];rfl
  .rcases ml.mp E with z|z
   .exact F y z
   .exact Q y z
 have R:(xB (ac o_ (aa 2) (xC (.int 5))):Xt []).p [J .pen,J (.int n),J (.int l),Y] u=.ok T u:=by simp[c3]
 rw[ai,bp,R,Pg,f_ (by simp),bM,PU.af];obtain⟨r,B,q,M,F⟩:=su (env:=[J .pen,J (.int n),J (.int l),Y]) (s:=u) (lo:=1) (n:=n) (n':=n) (t:=i3) (e:=bw (ab (ac eL (aa 0) (xC (.int 1))) (ab (aa 0) a_))) (j0 n) rfl (by decide) (by decide) O (λi a b s=>⟨I,s,rfl,λ_=>⟨kD [i-1,i],s,by simp[kD],_,_,rfl,⋯,⋯,⋯⟩⟩);obtain⟨C,q2,zl,zt⟩:∃C:WR,(ac pH (br (ab (bw (ab (xC (.int 0)) (ab (ac eL (aa 1) (xC (.int 1))) a_))) a_)) (jj pJ (ab (ac G4 (aa 1) (xC (.int 2))) a_)):Xe []).p [J .pen,J (.int n),J (.int l),Y] B=.ok (.lst C) B/\C.length<=1/\∀y∈C,j0 n y:=by
  have mu:∀(x:WR)(j:Int),(0<=j/\j<=1000)->((List.replicate j.toNat x).flatten).length<=100000->pH.p (.lst x) (.int j)=J (.lst (List.replicate j.toNat x).flatten):=λx j S h2=>by
   show(if _ then _ else _)=_;rw[c_ ⟨S,h2⟩]
  by_cases z:(2:Int)<(n:Int)
  .refine⟨[.tup [.int 0,.int ((n:Int)-1)]],?_,by simp,λy E=>?_⟩
   .simp[z,mu]
   .have:y=.tup [.int 0,.int ((n:Int)-1)]:=by simpa using E
    exact⟨0,(n:Int)-1,this,⋯,⋯,⋯⟩
  .refine⟨[],?_,by simp,λy E=>by cases E⟩;simp[z,mu]
 have X:(aG 3 (ac aQ (aJ 1 [] (bO Fq (ab (xC (.int 1)) (ab (aa 1) a_))) (ws':=[]) (iw 0) i3 (bw (ab (ac eL (aa 0) (xC (.int 1))) (ab (aa 0) a_)))) (ac pH (br (ab (bw (ab (xC (.int 0)) (ab (ac eL (aa 1) (xC (.int 1))) a_))) a_)) (jj pJ (ab (ac G4 (aa 1) (xC (.int 2))) a_)))):Xd []).p [J .pen,J (.int n),J (.int l),Y] u=.nx [J .pen,J (.int n),J (.int l),J (.lst (r++C))] B:=by rw[aR,aE,q,Pb,q2,Pb,cW ⋯];rfl
 have rt:∀y∈r++C,j0 n y:=λy E=>by
  rcases ml.mp E with z|z
  .exact F y z
  .exact zt y z
 rw[ai,X,PU.af];by_cases Z:l=6\/(n:Int)<4
 .refine⟨r++C,B,?_,by simp;lia,rt⟩;have t4:(E9 (xB (ac o_ (aa 2) (xC (.int 6)))) (xB (ac B_ (aa 1) (xC (.int 4)))):Xt []).p [J .pen,J (.int n),J (.int l),J (.lst (r++C))] B=.ok I B:=by
   by_cases z:l=6
   .simp[z]
   .have:(n:Int)<4:=Z.resolve_left z
    simp[z,this]
  rw[ai,bp,t4,Pg,c_ rfl];simp
 .have c5:l≠6:=λz=>Z (.inl z);have c6:¬(n:Int)<4:=λz=>Z (.inr z);have t4:(E9 (xB (ac o_ (aa 2) (xC (.int 6)))) (xB (ac B_ (aa 1) (xC (.int 4)))):Xt []).p [J .pen,J (.int n),J (.int l),J (.lst (r++C))] B=.ok T B:=by
   simp[c5,c6]
  obtain⟨d,P,d0,d1,G⟩:=gM (s:=B) (size:=2) (by decide) (by decide);obtain⟨f,s4,f0,f1,qf⟩:=gM (s:=P) (size:=(n:Int)-2) ⋯ ⋯;refine⟨r++C++[kD [d,2+f]],s4,?_,by simp;lia,λy E=>?_⟩
  .rw[ai,bp,t4,Pg,f_ (by simp),bM,PU.af,bf,aE];simp![cD,jT,aI,bz,aS,G,aE,r9,Pf,qf,sU,pk,xv];rw[c_ ⋯,Pb,Pb,c_ (by simp),Pb,cW (by simp;lia)];rfl
  .rcases ml.mp E with z|z
   .exact rt y z
   .have:y=kD [d,2+f]:=by simpa using z
    exact⟨d,2+f,this,d0,⋯,⋯⟩
def VE{xs:WN}{i:Int}(a:0<=i)(j:i<(xs.length:Int)):∃x:Int,x∈xs/\xs[i.toNat]?=J x/\l0 (xs.map D.int) i=J (.int x):=by
 obtain⟨k,rfl⟩:=dG a;have f:k<xs.length:=by lia
 refine⟨xs[k],Ee f,by simp,?_⟩;exact L2.cG (by simp)
def Hr{n:Nat}{a b:Int}(ne:a≠b)(f:0<=a/\a<n)(bb:0<=b/\b<n):j0 n (kD [if b<a then b else a,if b>a then b else a]):=by
 by_cases z:b<a
 .rw[c_ z,f_ ⋯];exact⟨b,a,rfl,bb.1,z,f.2⟩
 .rw[f_ z,c_ ⋯];exact⟨a,b,rfl,f.1,⋯,bb.2⟩
def IW{most:Nat}{s:g_}(hm:most<=12):∃(n:Nat)(Q:WP)(G:g_),fG.p [.pen,.int most] s=.ok (ae n Q) G/\n<=most/\h8 n Q:=by
 rw[Cm (by rfl)];delta lv;have e0:i_ 7 [D.pen,.int most]=[J .pen,J (.int most),Y,Y,Y,Y,Y]:=rfl;obtain⟨d,s1,d0,d1,S⟩:=gM (s:=s) (size:=(most:Int)+1) ⋯ ⋯;obtain⟨f,X,f0,f1,R⟩:=gM (s:=s1) (size:=4) (by decide) (by decide);obtain⟨n,hn,st⟩:∃n:Nat,n<=most/\((aG 2 (aj bQ (ab (aa 0) (ab (ac aQ (aa 1) (xC (.int 1))) a_))):Xd [4]).p [J .pen,J (.int most),Y,Y,Y,Y,Y] s).then (n7 (xB (ac o_ (aj bQ (ab (aa 0) (ab (xC (.int 4)) a_))) (xC (.int 3)))) (aG 2 (aa 1)) im:Xd [4]).p=.nx [J .pen,J (.int most),J (.int n),Y,Y,Y,Y] X:=by
  obtain⟨k,rfl⟩:=dG d0;by_cases z:f=3
  .exact⟨most,i4 _,by simp[S,R,z]⟩
  .exact⟨k,⋯,by simp[S,R,z]⟩
 have F:∀(x:PS)(a b:az->g_->PS),x.then (λe s=>(a e s).then b)=(x.then a).then b:=λx a b=>by cases x<;>rfl
 obtain⟨E,Z,q3,o⟩:=yd (n:=n) (s:=X) ⋯;obtain⟨H,O,q4,yl,yt⟩:=Ho (n:=n) (s:=Z) ⋯;have ql:=o.len;have qn:E.Nodup:=o.pm.symm.nodup (cZ n);obtain⟨U,G,e,L,P,B,rfl,hs,zl,M⟩:=di (g:=(vf (mq (iw 5) (mq (iw 6) u_)) 2:Xg [4]).p) (b:=(vu kv 4 (ab (bw (ab (jj jf (ab (ac il (aa 3) (aa 5)) (ab (ac il (aa 3) (aa 6)) a_))) (ab (jj nS (ab (ac il (aa 3) (aa 5)) (ab (ac il (aa 3) (aa 6)) a_))) a_))) a_):Xd [4]).p)
  (λj env G=>∃L P B,env=[J .pen,J (.int most),J (.int n),J (.lst (E.map .int)),J (.lst B),L,P]/\G=O/\B.length<=j/\∀z∈B,j0 n z) H 0 [J .pen,J (.int most),J (.int n),J (.lst (E.map .int)),J (.lst []),Y,Y] O ⟨Y,Y,[],rfl,rfl,by simp,by simp⟩ (λm env G x ⟨L,P,B,hE,hS,zl,M⟩ W=>by
   subst hE hS;have al:m<H.length:=(kx.mp W).1;obtain⟨i,j,rfl,i0,ij,jn⟩:=yt x (wj W);obtain⟨y,m1,g1,t1⟩:=VE (xs:=E) (i:=i) i0 ⋯;obtain⟨u,m2,g2,t2⟩:=VE (xs:=E) (i:=j) ⋯ ⋯;have ne:y≠u:=λz=>by
    subst z
    have:=(HX (l:=E) (i:=i.toNat) (j:=j.toNat) ⋯ qn).mp (g1.trans g2.symm)
    lia
   have ba:=o.bd y m1;have bb:=o.bd u m2;refine⟨[J .pen,J (.int most),J (.int n),J (.lst (E.map .int)),J (.lst B),J (.int i),J (.int j)],[J .pen,J (.int most),J (.int n),J (.lst (E.map .int)),J (.lst (B++[kD [if u<y then u else y,if u>y then u else y]])),J (.int i),J (.int j)],G,by simp[kD],?_,_,_,_,rfl,rfl,by simp;lia,λz hz=>?_⟩
   .rw[eI (s1:=G) (as:=[kD [if u<y then u else y,if u>y then u else y]]) (ds:=B) (ds':=B++[kD [if u<y then u else y,if u>y then u else y]]) (r:=.non) (by simp[t1,t2,kD]) rfl (iV ⋯)];rfl
   .rcases ml.mp hz with q|q
    .exact M z q
    .rw[MK.mp q]
     exact Hr ne ba bb)
 obtain⟨ps,rfl,pt⟩:=xh M;have C:(n:Int)<=12:=by lia
 rw[hs]at e;refine⟨n,cE (SetT.m_ ps),O,?_,hn,lu ⋯ C pt⟩;rw[e0,ai];show(PS.then _ λe s=>((n7 _ _ _:Xd [4]).p e s).then _).fin=_;rw[F,st,PU.af,ai,aR];simp![aI,q3,Pg,n6,og,PU.af,ai,gC,cD,xv,t0,if_true,dL,dq,q4,dX,Pf];rw[e];simp![PU.af,bf,jT,bS];rw[IV ⟨λk hk=>by obtain⟨a,b,rfl,_⟩:=pt k hk;simp,m6 C pt⟩];simp[ae]
def Hs(a:WP)(x:D):Bool:=match gK x with
 |some k=>!decide (k∈a)
 |none=>T
@[simp]theorem Us{ks:WP}{k:WN}:Hs ks (kD k)=!decide (k∈ks):=by simp[Hs,gD]
def fo(a:WP)(f:WN):WP:=(aA a f).filter λk=>!decide (k∈a)
def u7{ks:WP}:∀(a:WP),(((a.map kD).filter (Hs ks)).map λx=>x)=(a.filter λk=>!decide (k∈ks)).map kD
 |[]=>rfl
 |k::a=>by
  have f:=u7 (ks:=ks) a;by_cases z:k∈ks<;>simp[z]at f ⊢<;>exact f
def Td(f:WP)(a b:Int):Prop:=[a,b]∈f\/[b,a]∈f
def Td.symm{f:WP}{a b:Int}(h:Td f a b):Td f b a:=h.elim .inr .inl
inductive Wy(ks:WP)(P:Int->Prop):Int->Int->Prop where
 |tie{a b:Int}:Td ks a b->Wy ks P a b
 |thru{a b c:Int}:Wy ks P a c->P c->Wy ks P c b->Wy ks P a b
def Wy.symm{f:WP}{P:Int->Prop}{a b:Int}(h:Wy f P a b):Wy f P b a:=by
 induction h with
 |tie t=>exact .tie t.symm
 |thru _ p _ i j=>exact .thru j p i
def Wy.mono{f:WP}{P Q:Int->Prop}(l:∀x,P x->Q x){a b:Int}(h:Wy f P a b):Wy f Q a b:=by
 induction h with
 |tie t=>exact .tie t
 |thru _ p _ i j=>exact .thru i (l _ p) j
def Wy.cut{f:WP}{P Q:Int->Prop}{v:Int}(y:∀x,Q x->P x\/x=v){a b:Int}(h:Wy f Q a b):Wy f P a b\/(Wy f P a v/\Wy f P v b):=by
 induction h with
 |tie t=>exact .inl (.tie t)
 |@thru a b c _ p _ i j =>
  rcases y _ p with p|rfl
  .rcases i with i|⟨l,u⟩<;>rcases j with j|⟨z,r⟩
   .exact .inl (.thru i p j)
   .exact .inr ⟨.thru i p z,r⟩
   .exact .inr ⟨l,.thru u p j⟩
   .exact .inr ⟨l,r⟩
  .exact .inr ⟨i.elim id (·.1),j.elim id (·.2)⟩
def c9{n:Int}{f:WP}(w:h8 n f){a b:Int}(h:Td f a b):a≠b/\(0<=a/\a<n)/\0<=b/\b<n:=by rcases h with h|h<;>obtain⟨x,y,e,i,j,l⟩:=w.tie _ h<;>injection e with e1 e<;>injection e with e2 _<;>subst e1 e2<;>ext
def bT{n v x:Int}{i:WP}(w:h8 n i):x∈mn v i↔Td i v x:=by
 delta mn Td below above;rw[ml,Fh,Fh];constructor
 .rintro (⟨k,f,e⟩|⟨k,f,e⟩)<;>obtain⟨a,b,rfl,_⟩:=w.tie k f
  .by_cases z:b=v
   .simp[z]at e;subst e z;exact .inr f
   .simp[z]at e
  .by_cases z:a=v
   .simp[z]at e;subst e z;exact .inl f
   .simp[z]at e
 .rintro (h|h)
  .exact .inr ⟨_,h,by simp⟩
  .exact .inl ⟨_,h,by simp⟩
def jp{ns:WN}(y:ns.Pairwise (·<·)){a b:Int}:[a,b]∈aM ns ns.length↔a∈ns/\b∈ns/\a<b:=by
 delta aM;rw[Ic];constructor
 .rintro⟨i,f,h⟩;rw[EG]at f;obtain⟨c,r,e⟩:=mm.mp h;injection e with e1 e
  injection e with e2 _
  subst e1 e2;have e1:ns.getD i 0=ns[i]:=by simp[f]
  rw[e1];obtain⟨j,l,u⟩:=Jh r;rw[Eo]at l;rw[EX]at u;have lt:=HR.mp y i (i+1+j) f (by ext) (by ext);rw[u]at lt;exact⟨Ee f,Jf r,lt⟩
 .rintro⟨C,B,lt⟩;obtain⟨i,f,rfl⟩:=Jh C;obtain⟨j,l,rfl⟩:=Jh B;have E:i<j:=by
   rcases Nat.lt_trichotomy i j with z|z | z
   .exact z
   .subst z;ext
   .have:=HR.mp y j i l f z;ext
  refine⟨i,EG.mpr f,mm.mpr ⟨ns[j],?_,by simp[f]⟩⟩;rw[HU];exact⟨j-(i+1),by rw[Eo];ext,by rw[EX];congr 1;ext⟩
def Bb{n v:Int}{left:WN}{B:WP}(w:h8 n B){x y:Int}:Td (o7 left v B) x y↔(Td B x y/\x≠v/\y≠v)\/(x≠y/\x∈left/\y∈left/\Td B v x/\Td B v y):=by
 obtain⟨C,E,F⟩:=jK w;have mem:∀a b:Int,[a,b]∈o7 left v B↔([a,b]∈B/\a≠v/\b≠v)\/(a<b/\a∈left/\b∈left/\Td B v a/\Td B v b):=λa b=>by
  delta o7;rw[(cS _).mem_iff,SetT.gA,ml,jp C];delta Fd Aj;rw[wl,wl,wl,bT w,bT w];simp only[lb,HZ,or_false,Fj,decide_eq_false_iff_not,decide_eq_true_eq,not_or];constructor
  .rintro (⟨q,i,u⟩|⟨⟨f,r⟩,⟨l,j⟩,lt⟩)
   .exact .inl ⟨q,λz=>i z.symm,λz=>u z.symm⟩
   .exact .inr ⟨lt,r,j,f,l⟩
  .rintro (⟨q,i,u⟩|⟨lt,r,j,f,l⟩)
   .exact .inl ⟨q,λz=>i z.symm,λz=>u z.symm⟩
   .exact .inr ⟨⟨f,r⟩,⟨l,j⟩,lt⟩
 delta Td;rw[mem,mem];constructor
 .rintro ((⟨q,i,u⟩|⟨lt,r,j,f,l⟩)|⟨q,i,u⟩|⟨lt,r,j,f,l⟩)
  .exact .inl ⟨.inl q,i,u⟩
  .exact .inr ⟨by ext,r,j,f,l⟩
  .exact .inl ⟨.inr q,u,i⟩
  .exact .inr ⟨by ext,j,r,l,f⟩
 .rintro (⟨q|q,i,u⟩|⟨ne,r,j,f,l⟩)
  .exact .inl (.inl ⟨q,i,u⟩)
  .exact .inr (.inl ⟨q,u,i⟩)
  .rcases Jk ne with lt|lt
   .exact .inl (.inr ⟨lt,r,j,f,l⟩)
   .exact .inr (.inr ⟨lt,j,r,l,f⟩)
def pC{n:Nat}{r:WP}{f:WN}(w:h8 n r)(nd:f.Nodup):∀j,j<=f.length->(∀x y:Int,x≠y->x∈f.drop j->y∈f.drop j->(Td (gk r f j) x y↔Wy r (·∈f.take j) x y))/\∀x y:Int,x∈f.take j->¬Td (gk r f j) x y
 |0,_=>by
  refine⟨λx y _ _ _=>⟨.tie,λh=>?_⟩,λx y h=>by simp at h⟩
  have:∀a b,Wy r (·∈f.take 0) a b->Td r a b:=λa b h=>by
   induction h with
   |tie t=>exact t
   |thru _ p=>simp at p
  exact this _ _ h
 |j+1,hj=>by
  obtain⟨H,io⟩:=pC w nd j (by ext);have l:j<f.length:=by ext
  have M:=ll (qs:=f) w j;have U:f.getD j 0=f[j]:=by simp[List.getD,l]
  have L:f.drop j=f[j]::f.drop (j+1):=HQ l;have F:f.take (j+1)=f.take j++[f[j]]:=by rw[Er];simp[l]
  have R:f[j]∉f.drop (j+1):=by
   have:=List.Nodup.sublist (QN j f) nd
   rw[L]at this;exact(Fz.mp this).1
  have Z:∀x,x∈f.take j->x∉f.drop j:=λx C B=>by
   have:=nd
   rw[<-EW j f,Fi]at this;exact this.2.2 x C x B rfl
  have mv:f[j]∈f.drop j:=by rw[L];exact xg
  have u:∀x,x∈f.drop (j+1)->x∈f.drop j:=λx h=>by rw[L];exact mw _ h
  have Q:∀x,x∈f.take (j+1)->x∈f.take j\/x=f[j]:=λx h=>by
   rw[F]at h;rcases ml.mp h with h|h
   .exact .inl h
   .exact .inr (by simpa using h)
  have G:∀x,x∈f.take j->x∈f.take (j+1):=λx h=>by rw[F];exact rT _ h
  have qv:f[j]∈f.take (j+1):=by rw[F];exact n2 _ xg
  refine⟨λx y ne i E=>?_,λx y i h=>?_⟩
  .have O:x≠f[j]:=λz=>R (z▸i);have X:y≠f[j]:=λz=>R (z▸E);rw[gk,Bb M,U];have S:=H x y ne (u x i) (u y E);have P:=H f[j] x (Ne.symm O) mv (u x i);have W:=H f[j] y (Ne.symm X) mv (u y E);constructor
   .rintro (⟨h,_⟩|⟨_,_,_,C,B⟩)
    .exact (S.mp h).mono G
    .exact .thru ((P.mp C).mono G).symm qv ((W.mp B).mono G)
   .intro h;rcases h.cut Q with h|⟨C,B⟩
    .exact .inl ⟨S.mpr h,O,X⟩
    .exact .inr ⟨ne,u x i,u y E,P.mpr C.symm,W.mpr B⟩
  .rw[gk,Bb M,U]at h;rcases Q x i with i|rfl
   .rcases h with⟨h,_⟩|⟨_,h,_⟩
    .exact io x y i h
    .exact Z x i h
   .rcases h with⟨_,h,_⟩|⟨_,_,_,h,_⟩
    .exact h rfl
    .exact (c9 M h).1 rfl
def o6{a:WP}{f:WN}{k:WN}:∀j,k∈fI a f j↔∃i≤j,k∈gk a f i
 |0=>⟨λh=>⟨0,i4 _,h⟩,λ⟨i,l,h⟩=>by
  have z:i=0:=by ext
  subst z;exact h⟩
 |j+1=>by
  rw[fI,ml,o6 j]
  grind
def ko{n:Nat}{u:WP}{f:WN}(w:h8 n u)(nd:f.Nodup){i j:Nat}{a b:Int}(F:f[i]?=J a)(B:f[j]?=J b)(ne:a≠b):Td (aA u f) a b↔Wy u (·∈f.take (min i j)) a b:=by
 obtain⟨L,Q⟩:=kx.mp B;have y:∀{m i:Nat}{a:Int},f[i]?=J a->m<=i->a∈f.drop m:=λ{m i a} h C=>by
  obtain⟨r,l⟩:=kx.mp h;rw[HU];exact⟨i-m,by rw[Eo];ext,by rw[EX,<-l];congr 1;ext⟩
 have mt:∀{m i:Nat}{a:Int},f[i]?=J a->i<m->a∈f.take m:=λ{m i a} h C=>by
  obtain⟨r,l⟩:=kx.mp h;rw[HU];exact⟨i,by rw[HY];ext,by rw[RX];exact l⟩
 have mem:∀k,k∈aA u f↔∃m≤f.length,k∈gk u f m:=λk=>by
  delta aA;rw[(cS _).mem_iff,SetT.gA,o6]
 have H:Td (aA u f) a b↔∃m≤f.length,Td (gk u f m) a b:=by
  delta Td;rw[mem,mem];constructor
  .rintro (⟨m,r,l⟩|⟨m,r,l⟩)
   .exact⟨m,r,.inl l⟩
   .exact⟨m,r,.inr l⟩
  .rintro⟨m,r,l|l⟩
   .exact .inl ⟨m,r,l⟩
   .exact .inr ⟨m,r,l⟩
 rw[H];constructor
 .rintro⟨m,C,h⟩;obtain⟨E,G⟩:=pC w nd m C;have O:m<=i:=Nv λz=>G a b (mt F z) h;have P:m<=j:=Nv λz=>G b a (mt B z) h.symm;exact((E a b ne (y F O) (y B P)).mp h).mono λx M=>(QA f (by ext)) M
 .intro h;obtain⟨E,G⟩:=pC w nd (min i j) (by ext);exact⟨min i j,by ext,(E a b ne (y F (by ext)) (y B (by ext))).mpr h⟩
def aw(a:WN)(x:Int):Nat:=(eZ x a).getD 0
def bK:∀{f:WN}{x:Int},x∈f->eZ x f=J (aw f x)/\f[aw f x]?=J x
 |q::f,x,h=>by
  delta aw;by_cases z:q=x
  .simp[eZ,z]
  .have i:x∈f:=by
    rcases lb.mp h with h|h
    .exact absurd h.symm z
    .exact h
   obtain⟨a,b⟩:=bK i;simp[eZ,z,a,b]
def dZ{a:WN}(nd:a.Nodup){x:Int}(h:x∈a){m:Nat}:x∈a.take m↔aw a x<m:=by
 obtain⟨_,e⟩:=bK h;obtain⟨l,f⟩:=kx.mp e;rw[HU];constructor
 .rintro⟨i,j,e2⟩;rw[HY]at j;rw[RX]at e2
  have:=(HX (i:=i) ⋯ nd).mp (by rw[e,q_ ⋯,e2])
  lia
 .intro lt;exact⟨aw a x,by rw[HY];lia,by rw[RX];exact f⟩
def z3(n:Nat)(a:WN):D:=.lst ((d_ n).map λv=>.int (aw a v:Int))
def qi{n:Nat}{qs:WN}{x:Int}(a:0<=x)(f:x<n):l0 ((d_ n).map λv=>D.int (aw qs v:Int)) x=J (.int (aw qs x:Int)):=by obtain⟨k,rfl⟩:=dG a;exact L2.cG (by simp[d_,show k<n by lia])
def xn{n:Nat}{ks:WP}{x:Int}(a:0<=x)(f:x<n):l0 ((List.range n).map λ(v:Nat)=>D.lst ((below (v:Int) ks++above (v:Int) ks).map .int)) x=J (.lst ((mn x ks).map .int)):=by obtain⟨k,rfl⟩:=dG a;exact L2.cG (by simp[mn,show k<n by lia])
def jl(a:WN)(m:Nat)(fs:WN)(x:D):Bool:=match x with
 |.int i=>decide (aw a i<m) && !decide (i∈fs)
 |_=>T
def kO(a:WN)(m:Nat)(fs:WN)(ns:WN):WN:=ns.filter λi=>decide (aw a i<m) && !decide (i∈fs)
def pj{qs:WN}{m:Nat}{fs:WN}:∀(ns:WN),(((ns.map D.int).filter (jl qs m fs)).map λx=>x)=(kO qs m fs ns).map D.int
 |[]=>rfl
 |i::ns=>by
  have a:=pj (qs:=qs) (m:=m) (fs:=fs) ns;unfold kO at a ⊢;rw[oI,Ie,Ie];by_cases z:(decide (aw qs i<m) && !decide (i∈fs))=I
  .rw[c_ z,c_ (show jl qs m fs (.int i)=I from z),oI,a,oI]
  .rw[f_ z,f_ (show ¬jl qs m fs (.int i)=I from z),a]
structure Sea(n:Nat)(ks:WP)(P:Int->Prop)(a:Int)(m:Nat)(fs:WN):Prop where
 nd:fs.Nodup
 bd:∀x∈fs,0<=x/\x<n
 st:a∈fs
 rc:∀x∈fs,x=a\/(Wy ks P a x/\P x)
 le:m<=fs.length
 cl:∀x∈fs.take m,∀y,Td ks x y->P y->y∈fs
def Sea.len{n:Nat}{i:WP}{P:Int->Prop}{a:Int}{m:Nat}{fs:WN}(h:Sea n i P a m fs):fs.length<=n:=by
 have:=List.Nodup.length_le_of_subset h.nd λx f=>aH.mpr (h.bd x f)
 simpa [d_]using this
def Sea.step{n:Nat}{j:WP}{i:WN}{l m:Nat}{a:Int}{fs:WN}(w:h8 n j)(o:Ord n i)(E:m<fs.length)(h:Sea n j (·∈i.take l) a m fs):Sea n j (·∈i.take l) a (m+1) (fs++kO i l fs (mn fs[m] j)):=by
 have G:=o.pm.symm.nodup (cZ n);have F:∀y,0<=y/\y<(n:Int)->y∈i:=λy C=>o.pm.mem_iff.mpr (aH.mpr C);have r:∀y,y∈kO i l fs (mn fs[m] j)↔Td j fs[m] y/\y∈i.take l/\y∉fs:=λy=>by
  delta kO;rw[wl,bT w];simp only[MP,decide_eq_true_eq,Fj,decide_eq_false_iff_not];constructor
  .rintro⟨t,B,u⟩;exact⟨t,(dZ G (F y (c9 w t).2.2)).mpr B,u⟩
  .rintro⟨t,B,u⟩;exact⟨t,(dZ G (F y (c9 w t).2.2)).mp B,u⟩
 have L:=Ee E;refine⟨?_,λx f=>?_,rT _ h.st,λx f=>?_,by rw[Em];lia,λx f y t py=>?_⟩
 .rw[Fi];refine⟨h.nd,((ld w).1).filter _,λx f y C z=>?_⟩;subst z;exact((r x).mp C).2.2 f
 .rcases ml.mp f with f|f
  .exact h.bd x f
  .exact (c9 w ((r x).mp f).1).2.2
 .rcases ml.mp f with f|f
  .exact h.rc x f
  .obtain⟨t,p,_⟩:=(r x).mp f;refine .inr ⟨?_,p⟩;rcases h.rc _ L with z|⟨z,H⟩
   .rw[<-z];exact .tie t
   .exact .thru z H (.tie t)
 .rw[UE ⋯,Er]at f;rcases ml.mp f with f|f
  .exact rT _ (h.cl x f y t py)
  .have:x=fs[m]:=by simpa [E]using f
   subst this;by_cases z:y∈fs
   .exact rT _ z
   .exact n2 _ ((r y).mpr ⟨t,py,z⟩)
def Sea.all{n:Nat}{f:WP}{P:Int->Prop}{a b:Int}{fs:WN}(h:Sea n f P a fs.length fs)(t:Wy f P a b):∃z∈fs,Td f z b:=by
 have:∀x y,Wy f P x y->x∈fs->∃z∈fs,Td f z y:=λx y t=>by
  induction t with
  |@tie x y t=>exact λl=>⟨x,l,t⟩
  |thru _ p _ i j =>
   intro l;obtain⟨z,r,t⟩:=i l;exact j (h.cl z (by rw[Ft (i4 _)];exact r) _ t p)
 exact this a b t h.st
def Sea.one{n:Nat}{i:WP}{P:Int->Prop}{a:Int}(h:0<=a/\a<n):Sea n i P a 0 [a]:=by
 refine⟨by simp,λx f=>?_,by simp,λx f=>.inl (by simpa using f),by simp,λx f=>by simp at f⟩
 have:x=a:=by simpa using f
 subst this;exact h
abbrev Qf:Xt []:=xB (ac B_ (aa 6) (jj bV (ab (aa 5) a_)))
abbrev Ut:Xd []:=(au (n7 (xB (ac (n3 T) (aa 3) (ac il (aa 0) (ac il (aa 5) (aa 6))))) (aO (xC (.bl I))) im)
 (au (aG 5 (ac aQ (aa 5) (aJ 1 [4,5,1] (aL (ac il (aa 0) (ac il (aa 5) (aa 6)))) (ws':=[]) (iw 0) (eU (xB (ac B_ (ac il (aa 3) (aa 0)) (aa 1))) (xB (ac (n3 I) (aa 0) (aa 2)))) (aa 0))))
 (aG 6 (ac aQ (aa 6) (xC (.int 1))))))
abbrev Fe(n:Nat)(ks:WP)(qs:WN)(a b:Int)(m0:Nat)(fs:WN)(m:Nat):az:=[J (bg n ks),J (z3 n qs),J (.int a),J (.int b),J (.int (m0:Int)),J (.lst (fs.map .int)),J (.int (m:Int))]
def A6{n:Nat}{f:WP}{qs:WN}{a b:Int}{m0:Nat}{s:g_}(w:h8 n f)(o:Ord n qs):∀(d N m:Nat)(fs:WN),n-m<=d->d+1<=N->Sea n f (·∈qs.take m0) a m fs->(∀x∈fs.take m,¬Td f x b) ->
  (cR Qf.p Ut.p N (Fe n f qs a b m0 fs m) s=.rt (.bl I) s/\Wy f (·∈qs.take m0) a b)\/(∃l,cR Qf.p Ut.p N (Fe n f qs a b m0 fs m) s=.nx l s/\¬Wy f (·∈qs.take m0) a b):=by
 intro d
 induction d with
 |zero =>
  intro N m fs hd hN h r;obtain⟨N,rfl⟩:∃k,N=k+1:=⟨N-1,⋯⟩;have U:=h.len
  have:=h.le
  have em:m=fs.length:=by lia
  refine .inr ⟨Fe n f qs a b m0 fs m,?_,λt=>?_⟩
  .rw[cR]
   have:Qf.p (Fe n f qs a b m0 fs m) s=.ok T s:=by simp[em]
   rw[this,Pg,f_ (by simp)]
  .subst em;obtain⟨z,B,t⟩:=h.all t;exact r z (by rw[Ft (i4 _)];exact B) t
 |succ d R =>
  intro N m fs hd hN h r;obtain⟨N,rfl⟩:∃k,N=k+1:=⟨N-1,⋯⟩;have U:=h.len;have n12:=o.n12;by_cases em:m<fs.length
  .have L:fs[m]∈fs:=Ee em;have M:=h.bd _ L;have C:l0 (fs.map D.int) (m:Int)=J (.int fs[m]):=L2.cG (by simp[em]);have G:=xn (ks:=f) M.1 M.2;have P:=n4 (v:=fs[m]) w;have O:Qf.p (Fe n f qs a b m0 fs m) s=.ok I s:=by simp[em]
   rw[cR,O,Pg,c_ rfl];have u:=fO (neg:=T) (x:=b) (d:=.lst ((mn fs[m] f).map .int)) (xs:=mn fs[m] f) rfl;have E:(xB (ac (n3 T) (aa 3) (ac il (aa 0) (ac il (aa 5) (aa 6)))):Xt []).p (Fe n f qs a b m0 fs m) s=.ok (decide (b∈mn fs[m] f)) s:=by dsimp![dA,aE,av,am,fU,C,bg,G,IR,u,Pl,nw,if_false]
   by_cases z:b∈mn fs[m] f
   .left;have t:=(bT w).mp z;refine⟨?_,?_⟩
    .rw[ai,bp,E,Pg,c_ (by simp[z])];rfl
    .rcases h.rc _ L with q|⟨q,p⟩
     .rw[<-q];exact .tie t
     .exact .thru q p (.tie t)
   .have q:=cH (ws:=[]) (ws':=[]) (env:=Fe n f qs a b m0 fs m) (s:=s) (fm:=[4,5,1]) (i:=aL (ac il (aa 0) (ac il (aa 5) (aa 6)))) (t:=eU (xB (ac B_ (ac il (aa 3) (aa 0)) (aa 1))) (xB (ac (n3 I) (aa 0) (aa 2)))) (e:=aa 0) (ds:=(mn fs[m] f).map .int) (jl qs m0 fs) (λx=>x) (by
      dsimp![dq,aE,av,am,fU,C,bg,G,dX]) (by rw[oF];delta mn;lia) (λx j=>by
      obtain⟨i,S,rfl⟩:=mm.mp j;have F:=(c9 w ((bT w).mp S)).2.2;have H:=qi (qs:=qs) F.1 F.2;refine⟨?_,λ_=>rfl⟩;show(eU _ _:Xt []).p [J (.int i),J (.int (m0:Int)),J (.lst (fs.map .int)),J (z3 n qs)] s=_;have Q:=fO (neg:=I) (x:=i) (d:=.lst (fs.map .int)) (xs:=fs) rfl;by_cases y:aw qs i<m0
      .simp[z3,H,y,Q,jl]
      .simp[z3,H,y,jl])
    rw[pj]at q;have ad:(kO qs m0 fs (mn fs[m] f)).length<=12:=ny (Fv _ _) P;have st:Ut.p (Fe n f qs a b m0 fs m) s=.nx (Fe n f qs a b m0 (fs++kO qs m0 fs (mn fs[m] f)) (m+1)) s:=by rw[ai,bp,E,Pg,f_ (by simp[z]),bM,PU.af,ai,aR,aE];rw[oJ (i:=5) (d:=.lst (fs.map .int)) rfl,Pb,q,Pb,cW (by simp;lia),<-Ig];simp
    rw[st];refine R N (m+1) _ ⋯ ⋯ (h.step w o em) λx j t=>?_;rw[UE ⋯,Er]at j;rcases ml.mp j with j|j
    .exact r x j t
    .have:x=fs[m]:=by simpa [em]using j
     subst this;exact z ((bT w).mpr t)
  .have:=h.le
   have em:m=fs.length:=by lia
   refine .inr ⟨Fe n f qs a b m0 fs m,?_,λt=>?_⟩
   .rw[cR]
    have:Qf.p (Fe n f qs a b m0 fs m) s=.ok T s:=by simp[em]
    rw[this,Pg,f_ (by simp)]
   .subst em;obtain⟨z,B,t⟩:=h.all t;exact r z (by rw[Ft (i4 _)];exact B) t
open Classical in
theorem Ht{n:Nat}{i:WP}{f:WN}{a b:Int}{s:g_}(w:h8 n i)(o:Ord n f)(j:0<=a/\a<n)(l:0<=b/\b<n):gE.p [bg n i,z3 n f,.int a,.int b] s=.ok (.bl (decide (Wy i (·∈f.take (min (aw f a) (aw f b))) a b))) s:=by
 rw[Af (by rfl)];delta iT;have C:i_ 7 [bg n i,z3 n f,.int a,.int b]=[J (bg n i),J (z3 n f),J (.int a),J (.int b),Y,Y,Y]:=rfl;have B:=qi (qs:=f) j.1 j.2;have y:=qi (qs:=f) l.1 l.2;have em:(if((aw f b:Nat):Int)<(aw f a:Int)then(aw f b:Int)else(aw f a:Int))=((min (aw f a) (aw f b):Nat):Int):=by split<;>lia
 have r:=A6 (qs:=f) (a:=a) (b:=b) (m0:=min (aw f a) (aw f b)) (s:=s) w o n 400 0 [a] ⋯ (by have:=o.n12;lia) (Sea.one j) (by simp);have pre:∀k:az->g_->PS,(aG 4 (jj jf (ab (ac il (aa 1) (aa 2)) (ab (ac il (aa 1) (aa 3)) a_))):Xd []).p (i_ 7 [bg n i,z3 n f,.int a,.int b]) s=.nx [J (bg n i),J (z3 n f),J (.int a),J (.int b),J (.int ((min (aw f a) (aw f b):Nat):Int)),Y,Y] s:=λ_=>by
  rw[C];simp![aR,bS,aE,z3,fU,B,y,Pf,xY,em,Pg,n6,og]
 rw[ai,pre (λ_ _=>.bad),PU.af,ai,aR];simp![cD,pk,xv,show(0+1:Nat)<=100000 by decide,if_true,Pg,n6,og,PU.af,ai,aR,bz,aS];rcases r with⟨r,t⟩|⟨u,r,t⟩
 .refine (congrArg (λz:PS=>(z.then _).fin) r).trans ?_;simp[t]
 .refine (congrArg (λz:PS=>(z.then _).fin) r).trans ?_;simp[t]
def IY(k f:WN):Prop:=∃a b c d:Int,k=[a,b]/\f=[c,d]/\(a<c\/(a=c/\b<d))
def Hu{k f:WN}(h:IY k f):ce f k=T:=by
 obtain⟨a,b,c,d,rfl,rfl,h⟩:=h;simp only[ce];by_cases z:c=a
 .rw[c_ z];simp;lia
 .rw[f_ z];simp;lia
def Ma{k f:WN}(h:IY k f):k≠f:=by
 obtain⟨a,b,c,d,rfl,rfl,h⟩:=h;intro e;injection e with e1 e
 injection e with e2 _
 lia
def sZ{ns:WN}(l:ns.Pairwise (·<·)):∀j,j<=ns.length->(aM ns j).Pairwise IY/\∀k∈aM ns j,∃i<j,∃b,k=[ns.getD i 0,b]
 |0,_=>by simp[aM]
 |j+1,B=>by
  obtain⟨y,u⟩:=sZ l j ⋯;rw[pG];refine⟨QF.mpr ⟨y,?_,λk a z f=>?_⟩,λk a=>?_⟩
  .rw[Nt];exact(l.sublist (QN _ _)).imp λ{b c} h=>⟨_,_,_,_,rfl,rfl,.inr ⟨rfl,h⟩⟩
  .obtain⟨i,r,b,rfl⟩:=u k a;obtain⟨c,_,rfl⟩:=mm.mp f
   have:=HR.mp l i j ⋯ ⋯ r
   exact⟨_,_,_,_,rfl,rfl,.inl (by simp[show i<ns.length by lia,show j<ns.length by lia];exact this)⟩
  .rcases ml.mp a with a|a
   .obtain⟨i,r,b,rfl⟩:=u k a;exact⟨i,⋯,b,rfl⟩
   .obtain⟨c,_,rfl⟩:=mm.mp a;exact⟨j,⋯,c,rfl⟩
open Classical in
def lV(i:WP)(f:WN)(k:WN):Bool:=match k with
 |[a,b]=>decide (Wy i (·∈f.take (min (aw f a) (aw f b))) a b)
 |_=>T
def si(a:WP)(f:WN)(x:D):Bool:=match gK x with
 |some k=>lV a f k
 |none=>T
def wK{ks:WP}{qs:WN}:∀(a:WP),(((a.map kD).filter (si ks qs)).map λx=>x)=(a.filter (lV ks qs)).map kD
 |[]=>rfl
 |k::a=>by
  have f:=wK (ks:=ks) (qs:=qs) a;have e:si ks qs (kD k)=lV ks qs k:=by simp[si,gD]
  rw[oI]
  grind
def Dy{n:Nat}{j:WP}{i:WN}(w:h8 n j)(o:Ord n i):(aM (d_ n) n).filter (lV j i)=aA j i:=by
 have G:=o.pm.symm.nodup (cZ n);have E:(d_ n).length=n:=by simp[d_]
 have wf:=dw (qs:=i) w;have lt:=(sZ (jw n) n ⋯).1.filter (lV j i);refine lA (lt.imp Hu) wf.ris ((Qx (lt.imp Ma) wf.nd).mpr λk=>?_);have key:∀a b:Int,0<=a->a<b->b<n->(lV j i [a,b]=I↔[a,b]∈aA j i):=λa b L C B=>by
  have H:=o.pm.mem_iff.mpr (aH.mpr ⟨L,⋯⟩);have F:=o.pm.mem_iff.mpr (aH.mpr ⟨⋯,B⟩);have f:=ko w G (bK H).2 (bK F).2 ⋯;delta lV;simp only[decide_eq_true_eq];rw[<-f];refine⟨λh=>?_,.inl⟩;rcases h with h|h
  .exact h
  .obtain⟨x,y,e,_,c,_⟩:=wf.tie _ h;injection e with e1 e
   injection e with e2 _
   lia
 rw[wl];constructor
 .rintro⟨C,B⟩;have z:k∈aM (d_ n) (d_ n).length:=by rw[E];exact C
  obtain⟨a,b,rfl,r,u,l⟩:=gT (jw n) (λx M=>aH.mp M) k z;exact(key a b r u l).mp B
 .intro h;obtain⟨a,b,rfl,r,u,l⟩:=wf.tie _ h;refine⟨?_,(key a b r u l).mpr h⟩
  have:=(jp (jw n)).mpr ⟨aH.mpr ⟨r,⋯⟩,aH.mpr ⟨⋯,l⟩,u⟩
  rw[E]at this;exact this
def dB:WW->D
 |none=>.non
 |some x=>.int x
def cL(F:WP)(a:WN)(v:Int):WW:=(a.drop (aw a v+1)).find? λx=>decide (x∈mn v F)
def bE(n:Nat)(F:WP)(a:WN)(j:Nat):WR:=(d_ n).map λv=>if aw a v<j then dB (cL F a v)else .non
def dC(n:Nat)(F:WP)(a:WN):D:=.lst ((d_ n).map λv=>dB (cL F a v))
def dW{n:Nat}{F:WP}{a:WN}{j:Nat}:(bE n F a j).length=n:=by simp[bE,d_]
def jD{a:WN}(nd:a.Nodup){j:Nat}(f:j<a.length):aw a a[j]=j:=by have e:=(bK (Ee f)).2;obtain⟨i,l⟩:=kx.mp e;exact(HX i nd).mp (by rw[e,q_ f])
def tq{p:Int->Bool}(l:WN):l.find? p=(l.filter p).head?:=by rw[List.head?_filter]
def xp{n:Nat}{F:WP}{a:WN}{j:Nat}(o:Ord n a)(f:j<a.length):bE n F a (j+1)=(bE n F a j).set (a[j]).toNat (dB (cL F a a[j])):=by
 have nd:=o.pm.symm.nodup (cZ n);have b:=o.bd _ (Ee f);apply Fw;intro i;by_cases l:i<n
 .have e1:∀m,(bE n F a m)[i]?=J (if aw a (i:Int)<m then dB (cL F a (i:Int))else .non):=λm=>by simp[bE,d_,l]
  rw[e1];by_cases z:(a[j]).toNat=i
  .have r:(i:Int)=a[j]:=by lia
   rw[z,y4 (by rw[dW];exact l),r,jD nd f,c_ ⋯]
  .rw[n9 z]
   have ne:aw a (i:Int)≠j:=λh=>z (by
    have e:=(bK (o.pm.mem_iff.mpr (aH.mpr ⟨⋯,show(i:Int)<n by lia⟩))).2;rw[h,q_ f]at e;injection e with e
    lia)
   grind
 .rw[EF (by rw[dW];lia),EF (by rw[List.length_set,dW];lia)]
def xO{n:Nat}{F:WP}{a:WN}(o:Ord n a):bE n F a n=(d_ n).map λv=>dB (cL F a v):=by
 refine No λv hv=>?_;have e:=(bK (o.pm.mem_iff.mpr hv)).2
 have:=(kx.mp e).1
 rw[c_ (by rw[o.len]at this;exact this)]
def tR{n:Nat}{f:WP}{a:WN}{s:g_}(w:h8 n f)(o:Ord n a):eY.p [ae n f,.lst (a.map .int)] s=.ok (dC n (aA f a) a) s:=by
 have W:=o.len;have n12:=o.n12;have wf:=dw (qs:=a) w;have nd:a.Nodup:=o.pm.symm.nodup (cZ n);rw[yH (by rfl)];delta iN;rw[show i_ 8 [ae n f,.lst (a.map .int)]=[J (ae n f),J (.lst (a.map .int)),Y,Y,Y,Y,Y,Y]from rfl]
 obtain⟨O,l,e,E,G,C,u,rfl,r⟩:=di (g:=(vf (mq (iw 4) (mq (iw 5) u_)) 2:Xg [3]).p) (b:=(au (aG 6 (aj aY (ab (aa 2) (ab (aa 5) a_))))
 (au (aG 7 (aJ 1 [6] (aL (yP (aa 1) (yI (ac aQ (aa 4) (xC (.int 1)))) yv)) (ws':=[]) (iw 0) (xB (ac (n3 T) (aa 0) (aa 1))) (aa 0)))
 (n7 (EQ (aa 7)) (pV 3 (ac il (aa 7) (xC (.int 0))) (aa 5)) im)):Xd [3]).p)
  (λj env l=>∃E G C u,env=[J (ae n f),J (.lst (a.map .int)),J (ae n (aA f a)),J (.lst (bE n (aA f a) a j)),E,G,C,u]/\l=s) (eR (a.map .int)) 0 [J (ae n f),J (.lst (a.map .int)),J (ae n (aA f a)),J (.lst (bE n (aA f a) a 0)),Y,Y,Y,Y] s ⟨Y,Y,Y,Y,rfl,rfl⟩ (λj env l d ⟨E,G,C,u,R,hS⟩ hd=>by
   rw[o0]at R ⊢;subst R hS;obtain⟨x,M,rfl⟩:=iP hd;obtain⟨rfl,B⟩:=hU M;have ev:a.getD j 0=a[j]:=by simp[List.getD,B]
   have b:=o.bd _ (Ee B);rw[ev];have nb:=uy (s:=l) wf b.1 b.2;have Q:=g6 (ns:=a) (j:=j+1) ⋯;push_cast at Q
   have q:=cH (ws:=[3]) (ws':=[]) (env:=[J (ae n f),J (.lst (a.map .int)),J (ae n (aA f a)),J (.lst (bE n (aA f a) a j)),J (.int (j:Int)),J (.int a[j]),J (.lst ((mn a[j] (aA f a)).map .int)),u]) (s:=l) (fm:=[6]) (i:=aL (yP (aa 1) (yI (ac aQ (aa 4) (xC (.int 1)))) yv)) (t:=xB (ac (n3 T) (aa 0) (aa 1))) (e:=aa 0) (ds:=(a.drop (j+1)).map .int) (Qe (mn a[j] (aA f a))) (λx=>x) (by simp[Q]) (by simp;lia) (λx M=>by
     obtain⟨i,P,rfl⟩:=mm.mp M
     exact⟨by simp[fO (d:=.lst ((mn a[j] (aA f a)).map .int)) rfl],λ_=>by simp⟩)
   rw[kw]at q;have U:cL (aA f a) a a[j]=((a.drop (j+1)).filter λx=>decide (x∈mn a[j] (aA f a))).head?:=by delta cL;rw[jD nd B,tq]
   have r:=xp (F:=aA f a) o B;rw[U]at r;generalize ((a.drop (j+1)).filter λx=>decide (x∈mn a[j] (aA f a)))=bs at q r;refine⟨[J (ae n f),J (.lst (a.map .int)),J (ae n (aA f a)),J (.lst (bE n (aA f a) a j)),J (.int (j:Int)),J (.int a[j]),C,u],[J (ae n f),J (.lst (a.map .int)),J (ae n (aA f a)),J (.lst (bE n (aA f a) a (j+1))),J (.int (j:Int)),J (.int a[j]),J (.lst ((mn a[j] (aA f a)).map .int)),J (.lst (bs.map .int))],l,by simp,?_,_,_,_,_,rfl,rfl⟩;rw[ai,aR];simp![aI,nb,Pg,n6,og,PU.af];rw[ai,aR,q];simp only[Pg,n6,og,PU.af];rw[bp]
   cases bs with
   |nil =>
    have H:bE n (aA f a) a (j+1)=bE n (aA f a) a j:=by
     rw[r];apply Fw;intro i;by_cases z:(a[j]).toNat=i
     .subst z;rw[y4 (by rw[dW];lia)]
      have:(bE n (aA f a) a j)[(a[j]).toNat]?=J (if aw a a[j]<j then dB (cL (aA f a) a a[j])else .non):=by
       have Z:(((a[j]).toNat:Nat):Int)=a[j]:=by lia
       have P:(a[j]).toNat<n:=by lia
       simp[bE,d_,P,Z]
      rw[this,jD nd B,f_ ⋯];rfl
     .rw[n9 z]
    rw[H];simp[gf]
   |cons y L =>
    have ix:qp (bE n (aA f a) a j).length a[j]=J (a[j]).toNat:=by obtain⟨k,hk⟩:=dG b.1;rw[hk,dW,oD ⋯];simp
    have S:(EQ (aa 7):Xt [3]).p [J (ae n f),J (.lst (a.map .int)),J (ae n (aA f a)),J (.lst (bE n (aA f a) a j)),J (.int (j:Int)),J (.int a[j]),J (.lst ((mn a[j] (aA f a)).map .int)),J (.lst ((y::L).map .int))] l=.ok I l:=by simp[gf]
    rw[S,Pg,c_ rfl,B0,rA (v:=.int y) (s1:=l) (j:=a[j]) (s2:=l) (ds:=bE n (aA f a) a j) (n:=(a[j]).toNat) (by simp) (by simp) rfl ix,r]
    rfl)
 rw[gv,oF,o0,r]at e;have e3:pH.p (.lst [.non]) (.int (n:Int))=J (.lst (bE n (aA f a) a 0)):=by
  have X:(List.replicate n [D.non]).flatten=bE n (aA f a) a 0:=by
   delta bE;rw[show((d_ n).map λv=>if aw a v<0 then dB (cL (aA f a) a v)else D.non)=List.replicate n .non from MD.mpr ⟨by simp[d_],by simp⟩];clear e
   induction n with
   |zero=>rfl
   |succ n ih=>simp[MF]at ih ⊢
  show(if _ then _ else _)=_;rw[z_,X,c_ ⟨⋯,by rw[dW];lia⟩]
 rw[ai,aR];simp![aI,lM w o,Pg,n6,og,PU.af];have i0:il.p (ae n f) (.int 0)=J (.int (n:Int)):=rfl;rw[ai,gC];dsimp![aE,cD,ah,bz,lz,ao,pk,xv,show(0+1:Nat)<=100000 by decide,if_true,am,aS,i0,e3,Pg,n6,og,PU.af];rw[ai,dL];simp![fh,G7,Pf,Pg];rw[e,PU.af,kW (d:=.lst (bE n (aA f a) a a.length)) rfl,PU.bY,W,xO o];rfl
inductive Ch(F:WP)(qs:WN):WW->WN->Prop where
 |nil:Ch F qs Y []
 |cons{x:Int}{l:WN}:Ch F qs (cL F qs x) l->Ch F qs (J x) (x::l)
def lJ{n:Nat}{F:WP}{a:WN}(wf:h8 n F)(nd:a.Nodup){u x:Int}(E:u∈a)(h:cL F a u=J x):x∈a/\aw a u<aw a x/\Td F u x/\∀y∈a,aw a u<aw a y->Td F u y->aw a x<=aw a y:=by
 obtain⟨p,i,f,e,l⟩:=List.find?_eq_some_iff_getElem.mp h;have B:=f;rw[Eo]at B;have ex:aw a x=aw a u+1+i:=by rw[EX]at e;rw[<-e];exact jD nd ⋯
 refine⟨by rw[<-e];exact Jf (Ee f),⋯,(bT wf).mp (of_decide_eq_true p),λy r lt t=>?_⟩;refine Nv λz=>?_
 have:=l (aw a y-(aw a u+1)) ⋯
 obtain⟨C,j⟩:=kx.mp (bK r).2;rw[EX]at this;have e2:a[aw a u+1+(aw a y-(aw a u+1))]'⋯=y:=by
  have e3:aw a u+1+(aw a y-(aw a u+1))=aw a y:=by lia
  simp only[e3];exact j
 rw[e2]at this;simp[(bT wf).mpr t]at this
def DV{n:Nat}{F:WP}{a:WN}(wf:h8 n F){u y:Int}(f:y∈a)(lt:aw a u<aw a y)(t:Td F u y):cL F a u≠Y:=λh=>by
 unfold cL at h;rw[List.find?_eq_none]at h;refine h y ?_ (by simp[(bT wf).mpr t]);obtain⟨j,i⟩:=kx.mp (bK f).2;rw[HU]
 exact⟨aw a y-(aw a u+1),by rw[Eo];lia,by
  have e3:aw a u+1+(aw a y-(aw a u+1))=aw a y:=by lia
  rw[EX]
  simp only[e3];exact i⟩
def Wy.first{r:WP}{P Q:Int->Prop}{a b:Int}(h:Wy r Q a b):∃y,(y=b\/(Q y/\¬P y))/\Wy r P a y:=by
 induction h with
 |@tie a b t=>exact⟨b,.inl rfl,.tie t⟩
 |@thru a b c _ q _ i j =>
  obtain⟨y,l,f⟩:=i;rcases l with rfl|l
  .by_cases p:P y
   .obtain⟨z,u,B⟩:=j;exact⟨z,u,.thru f p B⟩
   .exact⟨y,.inr ⟨q,p⟩,f⟩
  .exact⟨y,.inr l,f⟩
def pi{n:Nat}{f:WP}{a:WN}(w:h8 n f)(nd:a.Nodup){u x:Int}(j:u∈a)(i:x∈a)(lt:aw a u<aw a x):Td (aA f a) u x↔Wy f (·∈a.take (aw a u)) u x:=by
 have:=ko w nd (bK j).2 (bK i).2 (λz=>by subst z;lia)
 grind
def Mb{n:Nat}{f:WP}{a:WN}(w:h8 n f)(nd:a.Nodup){v:Int}{o:WW}{l:WN}(c:Ch (aA f a) a o l):∀u∈a,cL (aA f a) a u=o->v∈l->aw a u<aw a v/\v∈a/\Wy f (·∈a.take (aw a v)) u v:=by
 have wf:=dw (qs:=a) w
 induction c with
 |nil=>intro u _ _ h;cases h
 |@cons x l c C =>
  intro u r e hv;obtain⟨i,lt,t,_⟩:=lJ wf nd r e;have z:=(pi w nd r i lt).mp t;rcases lb.mp hv with rfl|hv
  .exact⟨lt,i,z.mono λy j=>QA a ⋯ j⟩
  .obtain⟨E,B,F⟩:=C x i rfl hv;exact⟨⋯,B,.thru (z.mono λy j=>QA a ⋯ j) ((dZ nd i).mpr E) F⟩
def Mc{n:Nat}{r:WP}{f:WN}(w:h8 n r)(nd:f.Nodup)(X:∀y,0<=y/\y<(n:Int)->y∈f){v:Int}(hv:v∈f){o:WW}{l:WN}(c:Ch (aA r f) f o l):∀u∈f,cL (aA r f) f u=o->aw f u<aw f v->Wy r (·∈f.take (aw f v)) u v->v∈l:=by
 have wf:=dw (qs:=f) w;have key:∀u∈f,aw f u<aw f v->Wy r (·∈f.take (aw f v)) u v->∃y∈f,aw f u<aw f y/\aw f y<=aw f v/\Td (aA r f) u y:=λu j lt B=>by
  obtain⟨y,i,R⟩:=B.first (P:=(·∈f.take (aw f u+1)));have F:y∈f:=by
   rcases i with rfl|⟨i,_⟩
   .exact hv
   .exact RQ i
  have G:aw f u<aw f y/\aw f y<=aw f v:=by
   rcases i with rfl|⟨M,L⟩
   .exact⟨lt,i4 _⟩
   .rw[dZ nd F]at M L;lia
  refine⟨y,F,G.1,G.2,(pi w nd j F G.1).mpr ?_⟩;have c:=R.cut (P:=(·∈f.take (aw f u))) λx C=>by
   have E:=RQ C;rw[dZ nd E]at C ⊢;by_cases z:aw f x<aw f u
   .exact .inl z
   .right;have e:aw f x=aw f u:=by lia
    have a:=(bK E).2;rw[e,(bK j).2]at a;injection a with a
    exact a.symm
  exact c.elim id (·.2)
 induction c with
 |nil =>
  intro u j e lt B;obtain⟨y,i,H,_,t⟩:=key u j lt B;exact absurd e (DV wf i H t)
 |@cons x l c S =>
  intro u j e lt B;obtain⟨C,H,t,O⟩:=lJ wf nd j e;obtain⟨y,i,W,l3,U⟩:=key u j lt B;have l4:=O y i W U;by_cases z:x=v
  .subst z;exact xg
  .have ne:aw f x≠aw f v:=λe=>z (by
    have a:=(bK C).2;rw[e,(bK hv).2]at a;injection a with a
    exact a.symm)
   refine mw _ (S x C rfl ⋯ ?_);have Q:=(pi w nd j C H).mp t;exact .thru (Q.symm.mono λy i=>QA f ⋯ i) ((dZ nd j).mpr lt) B
abbrev VF:Xt [2]:=xB (ac (z9 I) (aa 3) (xC .non))
abbrev VG:Xd [2]:=(au (vu kv 2 (ab (aa 3) a_)) (aG 3 (ac il (aa 0) (aa 3))))
def AD{n:Nat}{F:WP}{qs:WN}{x:Int}(a:0<=x)(f:x<n):l0 ((d_ n).map λv=>dB (cL F qs v)) x=J (dB (cL F qs x)):=by obtain⟨k,rfl⟩:=dG a;exact L2.cG (by simp[d_,show k<n by lia])
def BC{n:Nat}{F:WP}{f:WN}{z:WC}{s:g_}(wf:h8 n F)(i:Ord n f):∀(d N:Nat)(o:WW)(a:WN),(∀x,o=J x->x∈f/\n-aw f x<=d)->d+1<=N->a.length+d<=1000 ->
  ∃l,Ch F f o l/\cR VF.p VG.p N [J (dC n F f),z,J (.lst (a.map .int)),J (dB o)] s=.nx [J (dC n F f),z,J (.lst ((a++l).map .int)),J .non] s:=by
 have nd:f.Nodup:=i.pm.symm.nodup (cZ n);intro d
 induction d with
 |zero =>
  intro N o a u hN _;obtain⟨N,rfl⟩:∃k,N=k+1:=⟨N-1,⋯⟩
  cases o with
  |none=>exact⟨[],.nil,by rw[cR];simp[dB,z9]⟩
  |some x =>
   obtain⟨j,h⟩:=u x rfl
   have:=(kx.mp (bK j).2).1
   rw[i.len]at this;lia
 |succ d H =>
  intro N o a u hN Q;obtain⟨N,rfl⟩:∃k,N=k+1:=⟨N-1,⋯⟩
  cases o with
  |none=>exact⟨[],.nil,by rw[cR];simp[dB,z9]⟩
  |some x =>
   obtain⟨j,h⟩:=u x rfl;have B:=i.bd x j;have L:=(kx.mp (bK j).2).1;rw[i.len]at L;have E:=AD (F:=F) (qs:=f) B.1 B.2
   obtain⟨l,c,e⟩:=H N (cL F f x) (a++[x]) (λy O=>by
    obtain⟨G,P,_⟩:=lJ wf nd j O
    exact⟨G,⋯⟩) ⋯ (by simp;lia)
   refine⟨x::l,.cons c,?_⟩;have C:VF.p [J (dC n F f),z,J (.lst (a.map .int)),J (dB (J x))] s=.ok I s:=by simp[dB,z9]
   have bb:VG.p [J (dC n F f),z,J (.lst (a.map .int)),J (dB (J x))] s=.nx [J (dC n F f),z,J (.lst ((a++[x]).map .int)),J (dB (cL F f x))] s:=by rw[ai,eI (s1:=s) (as:=[.int x]) (ds:=a.map .int) (ds':=(a++[x]).map .int) (r:=.non) (by simp[show dB (J x)=.int x from rfl]) rfl (by rw[iV (by simp;lia)];simp),PU.af];have M:dB (J x)=.int x:=rfl;simp[M,dC,E]
   rw[cR,C,Pg,c_ rfl,bb];refine e.trans ?_;simp
def Hv{n:Nat}{F:WP}{a:WN}{u:Int}{s:g_}(wf:h8 n F)(o:Ord n a)(f:0<=u)(i:u<n):∃l,Ch F a (cL F a u) l/\cX.p [dC n F a,.int u] s=.ok (.lst (l.map .int)) s:=by have nd:=o.pm.symm.nodup (cZ n);have y:=o.pm.mem_iff.mpr (aH.mpr ⟨f,i⟩);obtain⟨l,c,e⟩:=BC wf o n 400 (cL F a u) [] (λx r=>⟨(lJ wf nd y r).1,⋯⟩) (by have:=o.n12;lia) (by have:=o.n12;simp;lia);refine⟨l,c,?_⟩;rw[qk (by rfl)];delta dH;rw[show i_ 4 [dC n F a,.int u]=[J (dC n F a),J (.int u),Y,Y]from rfl];have j:=AD (F:=F) (qs:=a) f i;rw[ai,gC];simp only[cD,ao,Pb,xv,t0,if_true,Pg,n6,PU.af,ai,aR,aE,av,am,dC,fU,j];refine(congrArg (λz:PS=>(z.then _).fin) e).trans ?_;rw[PU.af,kW (d:=.lst (l.map .int)) rfl,PU.bY]
open Classical in
def IZ(f:WP)(a:WN)(v u:Int):Bool:=decide (aw a u<aw a v/\Wy f (·∈a.take (aw a v)) u v)
def Ry(f:WP)(a:WN)(v:Int)(x:D):Bool:=match x with
 |.int u=>IZ f a v u
 |_=>T
def oN(n:Nat)(a:WP)(f:WN)(v:Int):WN:=(d_ n).filter (IZ a f v)
def yn{ks:WP}{qs:WN}{v:Int}:∀(ns:WN),(((ns.map D.int).filter (Ry ks qs v)).map λx=>x)=(ns.filter (IZ ks qs v)).map D.int
 |[]=>rfl
 |i::ns=>by
  have a:=yn (ks:=ks) (qs:=qs) (v:=v) ns;rw[oI,Ie,Ie];by_cases z:IZ ks qs v i=I
  .rw[c_ z,c_ (show Ry ks qs v (.int i)=I from z),oI,a,oI]
  .rw[f_ z,f_ (show ¬Ry ks qs v (.int i)=I from z),a]
def Hw{n:Nat}{j:WP}{f:WN}{v:Int}{s:g_}(w:h8 n j)(o:Ord n f)(E:0<=v)(C:v<n):ln.p [ae n j,.lst (f.map .int),.int v] s=.ok (.lst ((oN n j f v).map .int)) s:=by
 have nd:=o.pm.symm.nodup (cZ n);have z:∀y,0<=y/\y<(n:Int)->y∈f:=λy O=>o.pm.mem_iff.mpr (aH.mpr O);have n12:=o.n12;have wf:=dw (qs:=f) w;have L:il.p (ae n j) (.int 0)=J (.int (n:Int)):=rfl;rw[DG (by rfl)];delta lr;rw[show i_ 4 [ae n j,.lst (f.map .int),.int v]=[J (ae n j),J (.lst (f.map .int)),J (.int v),Y]from rfl]
 have q:=cH (ws:=[]) (ws':=[]) (env:=[J (ae n j),J (.lst (f.map .int)),J (.int v),J (dC n (aA j f) f)]) (fm:=[2,3]) (i:=bO Fa (ab (ac il (aa 0) (xC (.int 0))) a_)) (t:=xB (ac (n3 T) (aa 1) (aj cX (ab (aa 2) (ab (aa 0) a_))))) (e:=aa 0) (Ry j f v) (λx=>x) (by
   dsimp![fh,ah,aE,am,bz,aS,L,ao]
   rw[qg ⋯,dU];rfl) (by simp[d_];lia) (λx M=>by
   obtain⟨u,G,rfl⟩:=mm.mp M;have B:=aH.mp G;have r:=z u B;obtain⟨l,c,e⟩:=Hv (s:=s) wf o B.1 B.2;refine⟨?_,λ_=>by simp⟩;have H:=fO (neg:=T) (x:=v) (d:=.lst (l.map .int)) rfl;have em:decide (v∈l)=IZ j f v u:=by delta IZ;rw[decide_eq_decide];exact⟨λh=>let⟨a,_,b⟩:=Mb w nd c u r rfl h;⟨a,b⟩,λ⟨a,b⟩=>Mc w nd z (z v ⟨E,C⟩) c u r rfl a b⟩
   show(xB _:Xt []).p [J (.int u),J (.int v),J (dC n (aA j f) f)] s=.ok (IZ j f v u) s
   simp[e,H,em])
 rw[yn]at q;have F:(eP (aj aU (ab (ac il (aa 0) (xC (.int 0))) (ab (aa 2) a_))):Xd []).p [J (ae n j),J (.lst (f.map .int)),J (.int v),Y] s=.nx [J (ae n j),J (.lst (f.map .int)),J (.int v),Y] s:=by simp[ae,nY E C]
 rw[ai,F,PU.af,ai,aR];simp![aI,tR w o,Pg,n6,og,PU.af];rw[bf,q];rfl
abbrev Rz:Xt []:=xB (ac B_ (aa 4) (jj bV (ab (aa 3) a_)))
abbrev VH:Xd []:=(au (aG 3 (ac aQ (aa 3) (aJ 1 [3,1,2] (aL (ac il (aa 0) (ac il (aa 3) (aa 4)))) (ws':=[]) (iw 0) (eU (xB (ac B_ (ac il (aa 2) (aa 0)) (ac il (aa 2) (aa 3)))) (xB (ac (n3 I) (aa 0) (aa 1)))) (aa 0))))
 (aG 4 (ac aQ (aa 4) (xC (.int 1)))))
abbrev I0(n:Nat)(ks:WP)(qs:WN)(v:Int)(fs:WN)(m:Nat):az:=[J (bg n ks),J (z3 n qs),J (.int v),J (.lst (fs.map .int)),J (.int (m:Int))]
def Md{n:Nat}{j:WP}{a:WN}{v:Int}{s:g_}(w:h8 n j)(o:Ord n a)(hv:0<=v/\v<n):∀(d N m:Nat)(fs:WN),n-m<=d->d+1<=N->Sea n j (·∈a.take (aw a v)) v m (v::fs) ->
  ∃l,cR Rz.p VH.p N (I0 n j a v (v::fs) m) s=.nx (I0 n j a v (v::l) (v::l).length) s/\Sea n j (·∈a.take (aw a v)) v (v::l).length (v::l):=by
 intro d
 induction d with
 |zero =>
  intro N m fs hd hN h;obtain⟨N,rfl⟩:∃k,N=k+1:=⟨N-1,⋯⟩;have F:=h.len
  have:=h.le
  have em:m=(v::fs).length:=by lia
  subst em;refine⟨fs,?_,h⟩;rw[cR]
  have:Rz.p (I0 n j a v (v::fs) (v::fs).length) s=.ok T s:=by simp
  rw[this,Pg,f_ (by simp)]
 |succ d P =>
  intro N m fs hd hN h;obtain⟨N,rfl⟩:∃k,N=k+1:=⟨N-1,⋯⟩;have F:=h.len;have n12:=o.n12;by_cases em:m<(v::fs).length
  .have E:(v::fs)[m]∈v::fs:=Ee em;have r:=h.bd _ E;have st:=h.step w o em;generalize C:v::fs=f at em E r F h st ⊢;have H:l0 (f.map D.int) (m:Int)=J (.int f[m]):=L2.cG (by simp[em]);have M:=xn (ks:=j) r.1 r.2;have L:=n4 (v:=f[m]) w;have G:Rz.p (I0 n j a v f m) s=.ok I s:=by simp[em]
   rw[cR,G,Pg,c_ rfl];have u:=qi (qs:=a) hv.1 hv.2
   have q:=cH (ws:=[]) (ws':=[]) (env:=I0 n j a v f m) (s:=s) (fm:=[3,1,2]) (i:=aL (ac il (aa 0) (ac il (aa 3) (aa 4)))) (t:=eU (xB (ac B_ (ac il (aa 2) (aa 0)) (ac il (aa 2) (aa 3)))) (xB (ac (n3 I) (aa 0) (aa 1)))) (e:=aa 0) (ds:=(mn f[m] j).map .int) (jl a (aw a v) f) (λx=>x) (by
     dsimp![dq,aE,av,am,fU,H,bg,M,dX]) (by rw[oF];delta mn;lia) (λx R=>by
     obtain⟨i,Q,rfl⟩:=mm.mp R;have z:=(c9 w ((bT w).mp Q)).2.2;have B:=qi (qs:=a) z.1 z.2;refine⟨?_,λ_=>rfl⟩;show(eU _ _:Xt []).p [J (.int i),J (.lst (f.map .int)),J (z3 n a),J (.int v)] s=_;have O:=fO (neg:=I) (x:=i) (d:=.lst (f.map .int)) (xs:=f) rfl;by_cases y:aw a i<aw a v
     .simp[z3,B,u,y,O,jl]
     .simp[z3,B,u,y,jl])
   rw[pj]at q;have ad:(kO a (aw a v) f (mn f[m] j)).length<=12:=ny (Fv _ _) L;have bb:VH.p (I0 n j a v f m) s=.nx (I0 n j a v (f++kO a (aw a v) f (mn f[m] j)) (m+1)) s:=by rw[ai,aR,aE,oJ (i:=3) (d:=.lst (f.map .int)) rfl,Pb,q,Pb,cW (by simp;lia),<-Ig];simp
   rw[bb]
   have:=P N (m+1) (fs++kO a (aw a v) f (mn f[m] j)) ⋯ ⋯ (by rw[<-List.cons_append,C];exact st)
   rw[<-List.cons_append,C]at this;exact this
  .have:=h.le
   have em:m=(v::fs).length:=by lia
   subst em;refine⟨fs,?_,h⟩;rw[cR]
   have:Rz.p (I0 n j a v (v::fs) (v::fs).length) s=.ok T s:=by simp
   rw[this,Pg,f_ (by simp)]
def Av{n:Nat}{f:WP}{a:WN}{v:Int}{s:g_}(w:h8 n f)(o:Ord n a)(C:0<=v)(u:v<n):iM.p [bg n f,z3 n a,.int v] s=.ok (.lst ((oN n f a v).map .int)) s:=by
 have B:a.Nodup:=o.pm.symm.nodup (cZ n);have E:∀y,0<=y/\y<(n:Int)->y∈a:=λy M=>o.pm.mem_iff.mpr (aH.mpr M);have n12:=o.n12;obtain⟨fs,e,h⟩:=Md (s:=s) w o ⟨C,u⟩ n 400 0 [] ⋯ ⋯ (Sea.one ⟨C,u⟩);have Q:=h.len;have nd:=Fz.mp h.nd;have P:fg fs=oN n f a v:=by
  refine iA (lT _) ((vM n).filter _) ((iX fs).trans ?_);refine(Qx nd.2 ((cZ n).filter _)).mpr λx=>?_;have L:IZ f a v x=I↔aw a x<aw a v/\Wy f (·∈a.take (aw a v)) x v:=by exact⟨λh=>@of_decide_eq_true _ (_) h,λh=>@decide_eq_true _ (_) h⟩
  rw[wl,L,aH];constructor
  .intro r;have i:=h.bd x (mw _ r);rcases h.rc x (mw _ r)with z|⟨z,p⟩
   .subst z;exact absurd r nd.1
   .exact⟨i,(dZ B (E x i)).mp p,z.symm⟩
  .rintro⟨i,lt,F⟩;have G:=(dZ B (E x i)).mpr lt;obtain⟨z,H,t⟩:=h.all F.symm
   have:=h.cl z (by rw[Ft (i4 _)];exact H) x t G
   rcases lb.mp this with y|y
   .subst y;lia
   .exact y
 rw[zU (by rfl)];delta iH;rw[show i_ 5 [bg n f,z3 n a,.int v]=[J (bg n f),J (z3 n a),J (.int v),Y,Y]from rfl];simp![cD,pk,xv,show(0+1:Nat)<=100000 by decide,if_true,Pg,n6,og,PU.af,ai,aR,bz,aS];refine(congrArg (λz:PS=>(z.then _).fin) e).trans ?_;have O:=g6 (ns:=v::fs) (j:=1) (by simp);have l:kQ ((v::fs).map D.int) (J 1) Y=fs.map .int:=O;simp![PU.af,bf,bS,zO,zr,bz,aS,zw,Am,l,Pf];rw[tY (by simp at Q;lia),P];rfl
def AF{n:Nat}{ks:WP}{qs:WN}{v:Int}(a:n<=12):(oN n ks qs v).length<=12:=by
 have:(oN n ks qs v).length<=(d_ n).length:=Fv _ _
 simp[d_]at this;lia
def p9(m k:Nat):Nat:=if k+1=m then 0 else k+1
def Me(f:WN)(a b:Int):Prop:=∃k,k<f.length/\f[k]?=J a/\f[p9 f.length k]?=J b
def mD(f:WN)(a b:Int):Prop:=Me f a b\/Me f b a
def mD.symm{f:WN}{a b:Int}(h:mD f a b):mD f b a:=h.elim .inr .inl
structure Rg(n:Nat)(rs:WN):Prop where
 nd:rs.Nodup
 bd:∀x∈rs,0<=x/\x<(n:Int)
 n12:n<=12
 l3:3<=rs.length
def Rg.len{n:Nat}{a:WN}(g:Rg n a):a.length<=12:=by
 have:=List.Nodup.length_le_of_subset (l₂:=d_ 12) g.nd λx f=>by
  rw[aH];have:=g.bd x f;have:=g.n12;lia
 simpa [d_]using this
def Rg.ne{n:Nat}{f:WN}(g:Rg n f){a b:Int}(h:Me f a b):a≠b/\a∈f/\b∈f:=by
 obtain⟨k,l,i,j⟩:=h;have l3:=g.l3;refine⟨λz=>?_,wj i,wj j⟩;subst z
 have:=(HX l g.nd).mp (i.trans j.symm)
 unfold p9 at this
 split at this<;>lia
def BW{m k:Nat}(h:k<m):p9 m k<m:=by
 delta p9
 split<;>lia
def Mf{m k:Nat}(h:k<m):∃q,q<m/\p9 m q=k:=by
 delta p9;by_cases z:k=0
 .exact⟨m-1,⋯,by rw[c_ ⋯,z]⟩
 .exact⟨k-1,⋯,by rw[f_ ⋯];lia⟩
def kX(m k:Nat):(p9 m k=k+1/\k+1≠m)\/(p9 m k=0/\k+1=m):=by
 delta p9;split
 .exact .inr ⟨rfl,by assumption⟩
 .exact .inl ⟨rfl,by assumption⟩
def Qg{m k:Nat}(h:k<m):p9 m (if k=0 then m-1 else k-1)=k:=by
 delta p9;by_cases z:k=0
 .rw[c_ z,c_ ⋯,z]
 .rw[f_ z,f_ ⋯];lia
def Qh{m k:Nat}(h:k<m):(if p9 m k=0 then m-1 else p9 m k-1)=k:=by
 rcases kX m k with⟨e,z⟩|⟨e,z⟩
 .rw[e,f_ ⋯];rfl
 .rw[e,c_ rfl];lia
def iD(a:WN):WP:=(List.range a.length).map λk=>[a.getD (if k=0 then a.length-1 else k-1) 0,a.getD k 0]
def o5{f:WN}{a b:Int}:[a,b]∈iD f↔Me f a b:=by
 delta iD Me;rw[mm];constructor
 .rintro⟨k,i,e⟩;rw[EG]at i;injection e with e1 e
  injection e with e2 _
  have j:(if k=0 then f.length-1 else k-1)<f.length:=by split<;>lia
  refine⟨if k=0 then f.length-1 else k-1,j,?_,?_⟩
  .rw[<-e1];simp[List.getD,j]
  .rw[Qg i,<-e2];simp[List.getD,i]
 .rintro⟨k,i,l,r⟩;refine⟨p9 f.length k,EG.mpr (BW i),?_⟩;rw[Qh i];simp[List.getD,l,r]
def Dq{n:Nat}{f:WN}(g:Rg n f):∀k∈iD f,∃a b,k=[a,b]/\Me f a b:=λk l=>by
 have j:=l;obtain⟨i,_,rfl⟩:=mm.mp l;exact⟨_,_,rfl,o5.mp j⟩
def lG{n:Nat}{f:WN}(g:Rg n f):∀k∈iD f,IsT n k:=λk l=>by
 obtain⟨a,b,rfl,h⟩:=Dq g k l;obtain⟨ne,r,j⟩:=g.ne h;have i:=g.bd a r;have bb:=g.bd b j;exact⟨a,b,rfl,i.1,i.2,bb.1,bb.2,ne⟩
def qq{n:Int}{i:WP}(h:∀k∈i,IsT n k):∀k∈i.map zL,∃a b:Int,k=[a,b]/\0<=a/\a<b/\b<n:=λk u=>by
 obtain⟨B,f,rfl⟩:=mm.mp u;obtain⟨a,b,rfl,j,r,l,y,ne⟩:=h B f;rcases Jk ne with z|z
 .rw[nB z];exact⟨a,b,rfl,j,z,y⟩
 .rw[pY z];exact⟨b,a,rfl,l,z,r⟩
def BS{f:WP}{n:Int}(h:∀k∈f,IsT n k){a b:Int}(lt:a<b):[a,b]∈f.map zL↔[a,b]∈f\/[b,a]∈f:=by
 rw[mm];constructor
 .rintro⟨k,i,e⟩;obtain⟨c,d,rfl,_,_,_,_,ne⟩:=h k i;rcases Jk ne with z|z
  .rw[nB z]at e;rw[<-e];exact .inl i
  .rw[pY z]at e
   simp_all
 .rintro (h|h)
  .exact⟨_,h,nB lt⟩
  .exact⟨_,h,pY lt⟩
def fC(a:WN):WP:=cE (SetT.m_ ((iD a).map zL))
def vB{n:Nat}{f:WN}(g:Rg n f){a b:Int}(lt:a<b):[a,b]∈fC f↔mD f a b:=by delta fC mD;rw[(cS _).mem_iff,SetT.gA,BS (lG g) lt,o5,o5]
def v7{n:Nat}{a:WN}(g:Rg n a):h8 n (fC a):=lu ⋯ (by have:=g.n12;lia) (qq (lG g))
def xU{n:Nat}{a:WN}{s:g_}(g:Rg n a):gz.p [.lst (a.map .int)] s=.ok (.tup ((fC a).map kD)) s:=by
 have F:=g.len
 have q:=oU (ws:=[]) (ws':=[]) (env:=[J (.lst (a.map .int))]) (s:=s) (fm:=[0]) (i:=bO iE (ab (aa 0) a_)) (t:=i3) (e:=bw (ab (ac il (aa 2) (ac eL (aa 0) (xC (.int 1)))) (ab (aa 1) a_))) (ds:=eR (a.map .int)) (λ_=>I) (λx=>match x with|.tup [.int k,.int v]=>kD [a.getD (if k=0 then a.length-1 else (k-1).toNat) 0,v]|_=>.non) (by simp) (by rw[gv];simp;lia) (λx B=>by
  obtain⟨j,f⟩:=vv.mp B;obtain⟨y,C,rfl⟩:=iP f;obtain⟨rfl,E⟩:=hU C;refine⟨_,_,rfl,rfl,λ_=>?_⟩;have u:l0 (a.map D.int) ((j:Int)-1)=J (.int (a.getD (if(j:Int)=0 then a.length-1 else((j:Int)-1).toNat) 0)):=by
   delta l0 qp;rw[oF];by_cases z:j=0
   .subst z;rw[f_ (by decide),c_ ⋯,c_ (show((0:Nat):Int)=0 from rfl)];have e1:(((0:Nat):Int)-1+(a.length:Int)).toNat=a.length-1:=by lia
    rw[Aa,e1,oe,q_ ⋯];simp[List.getD,show a.length-1<a.length by lia]
   .rw[c_ ⋯,c_ ⋯,f_ ⋯,Aa,oe,q_ ⋯];simp[List.getD,show j-1<a.length by lia]
  show(bw _:Xe []).p [J (.int (j:Int)),J (.int (a.getD j 0)),J (.lst (a.map .int))] s=_
  simp[u,kD])
 have l:((eR (a.map D.int)).filter λ_=>I).map (λx=>match x with|.tup [.int k,.int v]=>kD [a.getD (if k=0 then a.length-1 else(k-1).toNat) 0,v]|_=>.non)=(iD a).map kD:=by
  rw[cA];apply Fw;intro j;delta iD;rw[oe,CA,oe];by_cases f:j<a.length
  .have e1:(eR (a.map D.int))[j]?=J (.tup [.int (j:Int),.int (a.getD j 0)]):=by
    delta eR;rw[oe,RT,oe,q_ f];simp[List.getD,f]
   rw[e1,RU f];simp only[Jo,Function.comp_apply];congr 3;by_cases z:j=0
   .subst z;rfl
   .rw[f_ ⋯,f_ z];congr 1;lia
  .rw[EF (by rw[gv];simp;lia),EF (by simp;lia)];rfl
 rw[l]at q;have dl:(SetT.m_ ((iD a).map zL)).length<=66:=m6 (n:=n) (by have:=g.n12;lia) (qq (lG g));have r:=mf (n:=n) (d:=.lst ((iD a).map kD)) (s:=s) rfl (lG g) (by delta iD;simp;lia) dl;rw[CD (by rfl)];delta lg;rw[show i_ 1 [D.lst (a.map .int)]=[J (.lst (a.map .int))]from rfl,bf,aI,ah,q];simp only[Pb,ao,r,Pg,PU.bY];rfl
def j9{n:Nat}{a:WN}(g:Rg n a):∀k∈aM a a.length,IsT n k:=λk l=>by
 obtain⟨i,f,l⟩:=Ic.mp l;rw[EG]at f;obtain⟨b,y,rfl⟩:=mm.mp l;obtain⟨j,B,u⟩:=Jh y;rw[Eo]at B;rw[EX]at u;have e1:a.getD i 0=a[i]:=by simp[f]
 have r:=g.bd _ (Ee f);have bb:=g.bd b (Jf y);refine⟨_,_,rfl,by rw[e1];exact r.1,by rw[e1];exact r.2,bb.1,bb.2,λz=>?_⟩;rw[e1,<-u]at z
 have:=(HX (j:=i+1+j) f g.nd).mp (by rw[q_ f,q_ ⋯,z])
 lia
def Bo{n:Nat}{f:WN}(g:Rg n f){a b:Int}(lt:a<b):[a,b]∈(aM f f.length).map zL↔a∈f/\b∈f:=by
 rw[BS (j9 g) lt];have r:∀{a b:Int},[a,b]∈aM f f.length->a∈f/\b∈f:=λ{a b} h=>by
  obtain⟨i,l,h⟩:=Ic.mp h;rw[EG]at l;obtain⟨c,y,e⟩:=mm.mp h;injection e with e1 e
  injection e with e2 _
  subst e1 e2;exact⟨by simp[l],Jf y⟩
 constructor
 .rintro (h|h)
  .exact r h
  .exact (r h).symm
 .rintro⟨C,B⟩;obtain⟨i,l,rfl⟩:=Jh C;obtain⟨j,u,rfl⟩:=Jh B;have mk:∀i j (l:i<f.length) (u:j<f.length),i<j->[f[i],f[j]]∈aM f f.length:=λi j l u E=>by
   delta aM;rw[Ic];refine⟨i,EG.mpr l,mm.mpr ⟨f[j],?_,by simp[l]⟩⟩;rw[HU];exact⟨j-(i+1),by rw[Eo];lia,by rw[EX];congr 1;lia⟩
  rcases Nat.lt_trichotomy i j with z|z | z
  .exact .inl (mk i j l u z)
  .subst z;lia
  .exact .inr (mk j i u l z)
def vL(a:WN):WP:=(cE (SetT.m_ ((aM a a.length).map zL))).filter λk=>!decide (k∈fC a)
def RB(f:WP)(a:WN):WP:=(vL a).filter λk=>decide (k∈f)
def sM{n:Nat}{a:WN}(g:Rg n a):h8 n (cE (SetT.m_ ((aM a a.length).map zL))):=lu ⋯ (by have:=g.n12;lia) (qq (j9 g))
def Hx{n:Nat}{f:WN}(g:Rg n f){a b:Int}(lt:a<b):[a,b]∈vL f↔a∈f/\b∈f/\¬mD f a b:=by delta vL;rw[wl,(cS _).mem_iff,SetT.gA,Bo g lt];simp only[Fj,decide_eq_false_iff_not,vB g lt,and_assoc]
def vJ(a:WP)(x:D):Bool:=match gK x with
 |some k=>!decide (k∈a)
 |none=>T
def uT(a:WP)(x:D):Bool:=match gK x with
 |some k=>decide (k∈a)
 |none=>T
def we{ks:WP}:∀(a:WP),(((a.map kD).filter (vJ ks)).map λx=>x)=(a.filter λk=>!decide (k∈ks)).map kD
 |[]=>rfl
 |k::a=>by
  have f:=we (ks:=ks) a;have e:vJ ks (kD k)=!decide (k∈ks):=by simp[vJ,gD]
  rw[oI,Ie,e];by_cases z:k∈ks<;>simp[z]at f ⊢<;>exact f
def vY{ks:WP}:∀(a:WP),(((a.map kD).filter (uT ks)).map λx=>x)=(a.filter λk=>decide (k∈ks)).map kD
 |[]=>rfl
 |k::a=>by
  have f:=vY (ks:=ks) a;have e:uT ks (kD k)=decide (k∈ks):=by simp[uT,gD]
  rw[oI,Ie,e];by_cases z:k∈ks<;>simp[z]at f ⊢<;>exact f
def Hy{n:Nat}{a:WN}{s:g_}(g:Rg n a):dj.p [.lst (a.map .int)] s=.ok (.lst ((vL a).map kD)) s:=by
 have j:=g.len;have f:=sM g;have u:=fA f.n12 f.tie f.nd;have y:=d5 j a.length;have r:=mf (d:=.lst ((aM a a.length).map kD)) (s:=s) rfl (j9 g) ⋯ (m6 (by have:=g.n12;lia) (qq (j9 g)));rw[rl (by rfl)];delta eA;rw[show i_ 2 [D.lst (a.map .int)]=[J (.lst (a.map .int)),Y]from rfl,ai,aR];simp only[aI,ah,am,Pb,ao,xU g,Pg,n6,og,PU.af]
 have q:=cH (ws:=[]) (ws':=[]) (env:=[J (.lst (a.map .int)),J (.tup ((fC a).map kD))]) (s:=s) (fm:=[1]) (i:=aL (aj bm (ab (aj cN (ab (aa 0) a_)) a_))) (t:=xB (ac (n3 I) (aa 0) (aa 1))) (e:=aa 0) (vJ (fC a)) (λx=>x) (by
   simp only[dq,aI,ah,am,Pb,ao,xu j,r];rfl) (by simp;lia) (λx l=>by
   obtain⟨k,z,rfl⟩:=mm.mp l
   exact⟨by simp[vJ,gD,kT (d:=.tup ((fC a).map kD)) rfl],λ_=>by simp⟩)
 rw[we]at q;rw[bf,q];rfl
def Hz{n:Nat}{f:WN}(g:Rg n f):(vL f).length<=66:=by have a:=sM g;exact ny (Fv _ _) (fA a.n12 a.tie a.nd)
def Cy{n:Nat}{m:Int}{a:WP}{f:WN}{s:g_}(g:Rg n f):fN.p [ae m a,.lst (f.map .int)] s=.ok (.lst ((RB a f).map kD)) s:=by
 have l:=Hz g;rw[u4 (by rfl)];delta fM;rw[show i_ 2 [ae m a,.lst (f.map .int)]=[J (ae m a),J (.lst (f.map .int))]from rfl]
 have q:=cH (ws:=[]) (ws':=[]) (env:=[J (ae m a),J (.lst (f.map .int))]) (s:=s) (fm:=[0]) (i:=aL (aj dj (ab (aa 1) a_))) (t:=xB (ac (n3 T) (aa 0) (ac il (aa 1) (xC (.int 1))))) (e:=aa 0) (uT a) (λx=>x) (by
   simp![dq,aI,Hy g];rfl) (by simp;lia) (λx j=>by
   obtain⟨k,r,rfl⟩:=mm.mp j
   exact⟨by simp[ae,uT,gD,kT (d:=.tup (a.map kD)) rfl],λ_=>by simp⟩)
 rw[vY]at q;rw[bf,q];rfl
def xA:∀(bs:List Bool),gZ (bs.map .bl)=J bs
 |[]=>rfl
 |b::bs=>by rw[oI,gZ,xA bs];rfl
def I_{a:WR}{f:D->Bool}(h:∀x∈a,f x=I):kM.p [.lst (a.map λx=>.bl (f x))]=J (.bl I):=by
 show((J (a.map λx=>D.bl (f x))).bind gZ).map _=_
 have:(a.map λx=>D.bl (f x))=(a.map f).map .bl:=by rw[CA];rfl
 have i:(a.map f).all id=I:=by rw[List.all_map];exact QO.mpr λx j=>h x j
 rw[this,Aa,xA,Jo,<-i]
def Bz{n:Nat}{j:WP}{a:WN}{s:g_}(g:Rg n a)(L:∀k∈fC a,k∈j):gn.p [ae n j,.lst (a.map .int)] s=.ok (.bl I) s:=by
 have M:=g.len;have l3:=g.l3;have r:=v7 g;have sl:=fA r.n12 r.tie r.nd;rw[zP (by rfl)];delta iR;rw[show i_ 2 [ae n j,.lst (a.map .int)]=[J (ae n j),J (.lst (a.map .int))]from rfl]
 have u:=cH (ws:=[]) (ws':=[]) (env:=[J (ae n j),J (.lst (a.map .int))]) (s:=s) (fm:=[0]) (i:=aL (aa 1)) (t:=i3) (e:=(aj cc (ab (ac il (aa 1) (xC (.int 0))) (ab (aa 0) a_)))) (ds:=a.map .int) (λ_=>I) (λ_=>.bl I) (by simp) (by simp;lia) (λx l=>by
   obtain⟨i,F,rfl⟩:=mm.mp l
   have:=g.bd i F
   exact⟨rfl,λ_=>by simp[ae,rS,this.1,this.2]⟩)
 rw[cA]at u
 have z:=cH (ws:=[]) (ws':=[]) (env:=[J (ae n j),J (.lst (a.map .int))]) (s:=s) (fm:=[0]) (i:=aL (aj gz (ab (aa 1) a_))) (t:=i3) (e:=ac (n3 T) (aa 0) (ac il (aa 1) (xC (.int 1)))) (ds:=(fC a).map kD) (λ_=>I) (λ_=>.bl I) (by
   simp![dq,aI,xU g];rfl) (by simp;lia) (λx l=>by
   obtain⟨k,E,rfl⟩:=mm.mp l
   exact⟨rfl,λ_=>by simp[ae,kT (d:=.tup (j.map kD)) rfl,L k E]⟩)
 rw[cA]at z;have H:kM.p [.lst ((a.map D.int).map λ_=>.bl I)]=J (.bl I):=I_ (f:=λ_=>I) λ_ _=>rfl;have G:kM.p [.lst (((fC a).map kD).map λ_=>.bl I)]=J (.bl I):=I_ (f:=λ_=>I) λ_ _=>rfl;have B:(cu ["list"]).p (.lst (a.map .int))=J (.bl I):=by simp[c7]
 have C:wz a=a.length:=Hb.mpr g.nd;have y:=Ph (ns:=a) ⋯;rw[C]at y;rw[ai,bp];simp![IN,jU,dA,mH,B,Pf,Pl,ET,nw,if_false,aE,bS,lc,oF,bz,aS,Lp,show ¬(a.length:Int)<3 by lia,decide_false,Pg,bM,PU.af];rw[ai,bp,jU,dA,bS,ah,u];dsimp![ao,H,Pl,ET,Pg,nw,if_false,bM,PU.af];rw[ai,bp];simp![dA,aE,bS,y,lc,oF,Pf,O6,m4,if_true,decide_true,ET,Pl,Pg,nw,if_false,bM,PU.af];rw[bf,bS,ah,z];dsimp![ao,G,Pg,PU.bY]
def Mh{n:Nat}{f:WP}{a:WN}{s:g_}(g:Rg n a)(i:∀k∈fC a,k∈f):eT.p [ae n f,.lst (a.map .int)] s=.ok (.bl (decide (4<=(a.length:Int))&&(RB f a).isEmpty)) s:=by
 rw[yM (by rfl)];delta iQ;rw[show i_ 2 [ae n f,.lst (a.map .int)]=[J (ae n f),J (.lst (a.map .int))]from rfl];simp![bf,k9,aI,Bz g i,lc,oF,Hc,Cy g];by_cases z:4<=(a.length:Int)
 .simp[z,gf]
 .simp[z]
def o4{g:D->az->Option az}{b:az->g_->PS}(l:Nat->az->g_->Prop)(R:D->g_->Prop):∀(u:WR)(j:Nat)(env:az)(s:g_),l j env s ->
  (∀m env s d,l (j+m) env s->u[m]?=J d->∃f,g d env=J f/\((∃a i,b f s=.nx a i/\l (j+m+1) a i)\/∃r i,b f s=.rt r i/\R r i)) ->
  (∃a i,D_ g b u env s=.nx a i/\l (j+u.length) a i)\/∃r i,D_ g b u env s=.rt r i/\R r i
 |[],j,env,s,E,_=>.inl ⟨env,s,rfl,E⟩
 |d::u,j,env,s,E,st=>by
  obtain⟨f,e1,h⟩:=st 0 env s d E rfl;rcases h with⟨y,C,e2,F⟩|⟨r,C,e2,B⟩
  .rcases o4 l R u (j+1) y C F (λm a i x q z=>by
    have:=st (m+1) a i x (by rw[show j+(m+1)=j+1+m by lia];exact q) (by simpa using z)
    rw[show j+(m+1)+1=j+1+m+1 by lia]at this
    exact this)with⟨env3,s3,e3,I3⟩|⟨r,s3,e3,B⟩
   .refine .inl ⟨env3,s3,?_,by rw[pk,show j+(u.length+1)=j+1+u.length by lia];exact I3⟩;rw[lL e1,e2];exact e3
   .refine .inr ⟨r,s3,?_,B⟩;rw[lL e1,e2];exact e3
  .refine .inr ⟨r,C,?_,B⟩;rw[lL e1,e2];rfl
inductive Iw(ks:WP)(ps:WN)(a:Int):WN->Int->Prop where
 |one:Iw ks ps a [a] a
 |more{wy:WN}{e p:Int}:Iw ks ps a wy e->Td ks e p->p∈ps->p∉wy->(∀x∈wy,x≠e->¬Td ks x p)->Iw ks ps a (wy++[p]) p
inductive Rc(ks:WP)(ps:WN)(a:Int):Int->Prop where
 |base:Rc ks ps a a
 |step{x y:Int}:Rc ks ps a x->Td ks x y->y∈ps->Rc ks ps a y
def Iw.last{i:WP}{l:WN}{a e:Int}{f:WN}(h:Iw i l a f e):∃j,f=j++[e]:=by
 cases h with
 |one=>exact⟨[],rfl⟩
 |@more w e p=>exact⟨w,rfl⟩
def Iw.nd{l:WP}{r:WN}{a e:Int}{f:WN}(h:Iw l r a f e):f.Nodup:=by
 induction h with
 |one=>simp
 |@more f e p _ _ _ j _ i =>
  rw[Fi];refine⟨i,by simp,λx u y B z=>j ?_⟩
  simp_all
def Ds{a:WR}{d:D}:l0 (a++[d]) (-1)=J d:=by
 delta l0 qp;rw[f_ (by decide),c_ (by simp;lia)]
 have:((-1:Int)+((a++[d]).length:Int)).toNat=a.length:=by simp;lia
 rw[this];simp
structure Bf(n:Nat)(ks:WP)(ps:WN)(a b:Int)(pd:WN)(qu:List (WN×Int))(sn:WN):Prop where
 eq:sn=pd++qu.map (·.2)
 nd:sn.Nodup
 bd:∀x∈sn,0<=x/\x<(n:Int)
 st:a∈sn
 gw:∀q∈qu,Iw ks ps a q.1 q.2/\∀x∈q.1,x≠q.2->x∈pd
 cl:∀x∈pd,∀y,Td ks x y->y∈ps->y∈sn
 nb:b∉pd
def b9(f a ns:WN):WN:=ns.filter λp=>decide (p∈f) && !decide (p∈a)
def jF{f a ns:WN}{p:Int}:p∈b9 f a ns↔p∈ns/\p∈f/\p∉a:=by simp[b9]
def Bf.len{n:Nat}{r:WP}{u:WN}{a b:Int}{f:WN}{i:List (WN×Int)}{j:WN}(h:Bf n r u a b f i j):f.length+i.length<=n:=by
 have:=List.Nodup.length_le_of_subset h.nd λx l=>aH.mpr (h.bd x l)
 rw[h.eq]at this;simpa [d_]using this
def Bf.step{n:Nat}{l:WP}{B:WN}{a b e:Int}{C E:WN}{M:List (WN×Int)}{j:WN}(w:h8 n l)(h:Bf n l B a b C ((E,e)::M) j)(ne:e≠b):Bf n l B a b (C++[e]) (M++(b9 B j (mn e l)).map λp=>(E++[p],p)) (j++b9 B j (mn e l)):=by
 obtain⟨W,F⟩:=h.gw (E,e) xg;have U:e∈j:=by rw[h.eq];simp
 have H:∀x∈C,x∈j:=λx f=>by rw[h.eq];exact rT _ f
 refine⟨?_,?_,λx f=>?_,rT _ h.st,λq u=>?_,λx f y t py=>?_,λr=>?_⟩
 .have e1:=h.eq;rw[e1];simp[Function.comp_def]
 .rw[Fi];refine⟨h.nd,((ld w).1).filter _,λx f y S z=>?_⟩;subst z;exact(jF.mp S).2.2 f
 .rcases ml.mp f with f|f
  .exact h.bd x f
  .exact (c9 w ((bT w).mp (jF.mp f).1)).2.2
 .rcases ml.mp u with u|u
  .obtain⟨P,Q⟩:=h.gw q (mw _ u);exact⟨P,λx f i=>rT _ (Q x f i)⟩
  .obtain⟨p,O,rfl⟩:=mm.mp u;obtain⟨R,L,G⟩:=jF.mp O;refine⟨.more W ((bT w).mp R) L (λz=>?_) λx f i t=>G (h.cl x (F x f i) p t L),λx f i=>?_⟩
   .by_cases y:p=e
    .exact G (y▸U)
    .exact G (H p (F p z y))
   .rcases ml.mp f with f|f
    .by_cases y:x=e
     .subst y;simp
     .exact rT _ (F x f y)
    .exact absurd (by simpa using f) i
 .rcases ml.mp f with f|f
  .exact rT _ (h.cl x f y t py)
  .have:x=e:=by simpa using f
   subst this;by_cases z:y∈j
   .exact rT _ z
   .exact n2 _ (jF.mpr ⟨(bT w).mpr t,py,z⟩)
 .rcases ml.mp r with r|r
  .exact h.nb r
  .have:b=e:=by simpa using r
   exact ne this.symm
def Bf.stop{n:Nat}{i:WP}{j:WN}{a b:Int}{l f:WN}(h:Bf n i j a b l [] f):¬Rc i j a b:=λr=>by
 have e:f=l:=by rw[h.eq];simp
 have:∀y,Rc i j a y->y∈f:=λy r=>by
  induction r with
  |base=>exact h.st
  |step _ t py u=>exact h.cl _ (e▸u) _ t py
 exact h.nb (e▸this b r)
def RC(q:WN×Int):D:=.lst (q.1.map .int)
abbrev Dv(n:Nat)(ks:WP)(ps:WN)(a b:Int)(qu:List (WN×Int))(sn:WN)(z6 z7:WC):az:=[J (ae n ks),J (.lst (ps.map .int)),J (.int a),J (.int b),J (.lst (qu.map RC)),J (.lst (sn.map .int)),z6,z7]
abbrev Uu:Xd [4,5]:=(n7 (eU (xB (ac (n3 T) (aa 7) (aa 1))) (xB (ac (n3 I) (aa 7) (aa 5)))) (au (vu kv 5 (ab (aa 7) a_))
 (vu kv 4 (ab (ac aQ (aa 6) (br (ab (aa 7) a_))) a_))) im)
abbrev RD:Xd [4,5]:=(au (wg 6 Ea 4 (ab (xC (.int 0)) a_))
 (au (n7 (xB (ac o_ (ac il (aa 6) (p8 nj (xC (.int 1)))) (aa 3))) (aO (aa 6)) im)
 (dy (aL (aj aY (ab (aa 0) (ab (ac il (aa 6) (p8 nj (xC (.int 1)))) a_)))) (iw 7) Uu)))
abbrev Qi:Xt [4,5]:=EQ (aa 4)
def Mi{n:Nat}{ks:WP}{ps:WN}{a b:Int}{qu:List (WN×Int)}{sn wy ns:WN}{z7:WC}{s:g_}(nd:ns.Nodup)(U:ns.length<=12)(W:qu.length<=100)(l3:sn.length<=100)(l4:wy.length<=100):
  ∃i,D_ (iw 7:Xg [4,5]).p Uu.p (ns.map .int) (Dv n ks ps a b qu sn (J (.lst (wy.map .int))) z7) s=.nx (Dv n ks ps a b (qu++(b9 ps sn ns).map λp=>(wy++[p],p)) (sn++b9 ps sn ns) (J (.lst (wy.map .int))) i) s:=by
 obtain⟨B,f,e,i,rfl,rfl⟩:=di (g:=(iw 7:Xg [4,5]).p) (b:=Uu.p)
  (λj env f=>∃i,env=Dv n ks ps a b (qu++(b9 ps sn (ns.take j)).map λp=>(wy++[p],p)) (sn++b9 ps sn (ns.take j)) (J (.lst (wy.map .int))) i/\f=s) (ns.map .int) 0 (Dv n ks ps a b qu sn (J (.lst (wy.map .int))) z7) s ⟨z7,by simp[b9],rfl⟩ (λj env f d ⟨i,C,M⟩ hd=>by
   rw[o0]at C ⊢;subst C M;obtain⟨rfl,y⟩:=hU hd;have Q:ns.getD j 0=ns[j]:=by simp[List.getD,y]
   rw[Q];have H:ns.take (j+1)=ns.take j++[ns[j]]:=by rw[Er];simp[y]
   have E:ns[j]∉ns.take j:=λz=>by
    have:=nd
    rw[<-EW j ns,Fi]at this;exact this.2.2 _ z _ (by rw[HQ y];exact xg) rfl
   have S:(b9 ps sn (ns.take j)).length<=12:=by
    have:=Fv (λp=>decide (p∈ps) && !decide (p∈sn)) (ns.take j)
    delta b9;rw[HY]at this;lia
   have L:=fO (neg:=T) (x:=ns[j]) (d:=.lst (ps.map .int)) (xs:=ps) rfl;have R:=fO (neg:=I) (x:=ns[j]) (d:=.lst ((sn++b9 ps sn (ns.take j)).map .int)) (xs:=sn++b9 ps sn (ns.take j)) rfl;refine⟨Dv n ks ps a b (qu++(b9 ps sn (ns.take j)).map λp=>(wy++[p],p)) (sn++b9 ps sn (ns.take j)) (J (.lst (wy.map .int))) (J (.int ns[j])),Dv n ks ps a b (qu++(b9 ps sn (ns.take (j+1))).map λp=>(wy++[p],p)) (sn++b9 ps sn (ns.take (j+1))) (J (.lst (wy.map .int))) (J (.int ns[j])),f,rfl,?_,_,rfl,rfl⟩;have O:b9 ps sn (ns.take (j+1))=b9 ps sn (ns.take j)++(if ns[j]∈ps/\ns[j]∉sn then [ns[j]]else []):=by delta b9;rw[H,List.filter_append];by_cases l:ns[j]∈ps<;>by_cases u:ns[j]∈sn<;>simp[l,u]
   have P:ns[j]∈sn++b9 ps sn (ns.take j)↔ns[j]∈sn:=by rw[ml];exact⟨λh=>h.elim id λh=>absurd (jF.mp h).1 E,.inl⟩
   have F:(eU (xB (ac (n3 T) (aa 7) (aa 1))) (xB (ac (n3 I) (aa 7) (aa 5))):Xt [4,5]).p (Dv n ks ps a b (qu++(b9 ps sn (ns.take j)).map λp=>(wy++[p],p)) (sn++b9 ps sn (ns.take j)) (J (.lst (wy.map .int))) (J (.int ns[j]))) f=.ok (decide (ns[j]∈ps/\ns[j]∉sn)) f:=by
    dsimp![Lo,dA,aE,av,am,IR,L,R,Pl,nw,if_false,if_true];by_cases l:ns[j]∈ps
    .simp only[l,decide_true,if_true,true_and,decide_not];by_cases u:ns[j]∈sn<;>simp[P,u]
    .simp[l]
   rw[bp,F,Pg,O];by_cases z:ns[j]∈ps/\ns[j]∉sn
   .rw[c_ (by simpa using z),c_ z,ai];rw[eI (s1:=f) (as:=[.int ns[j]]) (ds:=(sn++b9 ps sn (ns.take j)).map .int) (ds':=(sn++(b9 ps sn (ns.take j)++[ns[j]])).map .int) (r:=.non) (by simp) rfl (by rw[iV (by simp;lia)];simp),PU.af];have G:aQ.p (.lst (wy.map .int)) (.lst [.int ns[j]])=J (.lst ((wy++[ns[j]]).map .int)):=by
     rw[cW (by simp;lia)];simp
    rw[eI (s1:=f) (as:=[.lst ((wy++[ns[j]]).map .int)]) (ds:=(qu++(b9 ps sn (ns.take j)).map λp=>(wy++[p],p)).map RC) (ds':=(qu++(b9 ps sn (ns.take j)++[ns[j]]).map λp=>(wy++[p],p)).map RC) (r:=.non) (by
     simp![n6,og,aE,cD,pk,xv,show(0+1:Nat)<=100000 by decide,if_true,G,Pf]) rfl (by rw[iV (by simp;lia)];simp[RC])]
    rfl
   .rw[f_ (by simpa using z),f_ z,Jn]
    rfl)
 rw[oF,o0,Ia]at e;exact⟨i,e⟩
def Mj{n:Nat}{f:WP}{u:WN}{a b:Int}{s:g_}(w:h8 n f):∀(N:Nat)(F:WN)(B:List (WN×Int))(j:WN)(E C:WC),n-F.length+1<=N->Bf n f u a b F B j ->
  (∃i,cR Qi.p RD.p N (Dv n f u a b B j E C) s=.rt (.lst (i.map .int)) s/\Iw f u a i b)\/(∃G,cR Qi.p RD.p N (Dv n f u a b B j E C) s=.nx G s/\¬Rc f u a b):=by
 intro N
 induction N with
 |zero=>intro _ _ _ _ _ h;lia
 |succ N ih =>
  intro F B j E C hd h;have Q:=h.len;have n12:=w.n12
  cases B with
  |nil=>exact .inr ⟨Dv n f u a b [] j E C,by rw[cR,show Qi.p (Dv n f u a b [] j E C) s=.ok T s by simp[gf]];rfl,h.stop⟩
  |cons q B =>
   obtain⟨i,e⟩:=q;obtain⟨M,Z⟩:Iw f u a i e/\∀x∈i,x≠e->x∈F:=h.gw (i,e) xg;have es:e∈j:=by rw[h.eq];simp
   have P:=h.bd e es;have S:Qi.p (Dv n f u a b ((i,e)::B) j E C) s=.ok I s:=by simp[gf]
   rw[cR,S,Pg,c_ rfl];obtain⟨w0,L⟩:=M.last;have H:nj.p (.int 1)=J (.int (-1)):=rfl;have O:l0 (i.map D.int) (-1)=J (.int e):=by rw[L,Ig];exact Ds
   have R:(wg 6 Ea 4 (ab (xC (.int 0)) a_):Xd [4,5]).p (Dv n f u a b ((i,e)::B) j E C) s=.nx (Dv n f u a b B j (J (.lst (i.map .int))) C) s:=by refine Eq.trans (show _=Ey Ea 4 (ab (xC (.int 0)) a_:Xs [4,5]).p (Dv n f u a b ((i,e)::B) j E C) s (λr env s=>.nx (env.set 6 (J r)) s)from rfl) ?_;rfl
   by_cases z:e=b
   .subst z;refine .inl ⟨i,?_,M⟩;rw[ai,R,PU.af,ai,bp];dsimp![dA,aE,av,am,mH,bz,aS,H,fU,O,qS,m4,decide_true,Pl,Pg,if_true,bf,PU.g7,nw,if_false];rfl
   .have X:i.length<=100:=by
     have l:=List.Nodup.length_le_of_subset (l₂:=d_ n) M.nd λx hx=>aH.mpr (by
      by_cases y:x=e
      .subst y;exact P
      .exact h.bd x (by rw[h.eq];exact rT _ (Z x hx y)))
     simp[d_]at l;lia
    have sl:j.length<=100:=by
     have:=congrArg List.length h.eq
     simp at this Q;lia
    have W:(mn e f).length<=12:=n4 (v:=e) w;obtain⟨y7,U⟩:=Mi (n:=n) (ks:=f) (ps:=u) (a:=a) (b:=b) (qu:=B) (sn:=j) (wy:=i) (z7:=C) (s:=s) (ld (v:=e) w).1 W (by simp at Q;lia) sl X;have st:RD.p (Dv n f u a b ((i,e)::B) j E C) s=.nx (Dv n f u a b (B++(b9 u j (mn e f)).map λp=>(i++[p],p)) (j++b9 u j (mn e f)) (J (.lst (i.map .int))) y7) s:=by rw[ai,R,PU.af,ai,bp];dsimp![dA,aE,av,am,mH,bz,aS,H,fU,O,qS,m4,z,decide_false,Pl,Pg,nw,if_false,bM,PU.af];rw[dL];simp![dq,aI,aE,mH,bz,aS,H,Pf,fU,O,uy w P.1 P.2,dX,Pg];exact U
    rw[st];exact ih (F++[e]) _ _ _ _ (by simp at Q ⊢;lia) (h.step w z)
def HA{n:Nat}{f:WP}{ps:WN}{a b:Int}{s:g_}(w:h8 n f)(z:0<=a/\a<(n:Int)):
  (∃i,bD.p [ae n f,.lst (ps.map .int),.int a,.int b] s=.ok (.lst (i.map .int)) s/\Iw f ps a i b)\/(bD.p [ae n f,.lst (ps.map .int),.int a,.int b] s=.ok .non s/\¬Rc f ps a b):=by
 have B:Bf n f ps a b [] [([a],a)] [a]:=by
  refine⟨rfl,by simp,λx l=>?_,by simp,λq y=>?_,by simp,by simp⟩
  .have:x=a:=by simpa using l
   subst this;exact z
  .have:q=([a],a):=by simpa using y
   subst this;exact⟨.one,λx l j=>absurd (by simpa using l) j⟩
 have r:=Mj (s:=s) w 400 [] [([a],a)] [a] Y Y (by have:=w.n12;simp;lia) B;have pre:bD.p [ae n f,.lst (ps.map .int),.int a,.int b] s=((cR Qi.p RD.p 400 (Dv n f ps a b [([a],a)] [a] Y Y) s).then (aO (xC .non):Xd [4,5]).p).fin:=by rw[qM (by rfl)];delta dJ;rw[show i_ 8 [ae n f,.lst (ps.map .int),.int a,.int b]=[J (ae n f),J (.lst (ps.map .int)),J (.int a),J (.int b),Y,Y,Y,Y]from rfl];simp![cD,pk,xv,show(0+1:Nat)<=100000 by decide,if_true,Pg,n6,og,PU.af,ai,gC];rfl
 rw[pre];rcases r with⟨i,r,t⟩|⟨u,r,t⟩
 .refine .inl ⟨i,?_,t⟩;rw[r];rfl
 .refine .inr ⟨?_,t⟩;rw[r];rfl
def qh(w:h8 n ks)(lt:a<b)(h:Td ks a b):[a,b]∈ks:=by
 rcases h with h|h
 .exact h
 .obtain⟨x,y,e,f,i,j⟩:=w.tie _ h;injection e with e1 e
  injection e with e2 _
  lia
def eN(left:WN)(v:Int)(a:WP):WP:=(aM (Aj left v a) (Aj left v a).length).filter λk=>!decide (k∈a)
def wc(w:h8 n i):∀k∈eN left v i,∃a b:Int,k=[a,b]/\0<=a/\a<b/\b<n:=λk l=>by
 obtain⟨f,j,r⟩:=jK w;exact gT f j k (wl.mp l).1
def jQ(w:h8 n ks):[a,b]∈eN left v ks↔a<b/\a∈left/\b∈left/\Td ks v a/\Td ks v b/\¬Td ks a b:=by
 obtain⟨r,u,y⟩:=jK w;delta eN;rw[wl,jp r];delta Aj;rw[wl,wl,bT w,bT w];simp only[Fj,decide_eq_false_iff_not,decide_eq_true_eq];constructor
 .rintro⟨⟨⟨i,f⟩,⟨j,l⟩,lt⟩,no⟩;exact⟨lt,f,l,i,j,λt=>no (qh w lt t)⟩
 .rintro⟨lt,f,l,i,j,no⟩;exact⟨⟨⟨i,f⟩,⟨j,l⟩,lt⟩,λt=>no (.inl t)⟩
def Ja(w:h8 n ks)(a:0<=v)(hv:v<n):bW.p [ae n ks,.lst (left.map .int),.int v] s=.ok (.lst ((eN left v ks).map kD)) s:=by
 obtain⟨u,y,l⟩:=jK (v:=v) (left:=left) w;have z:=d5 l (Aj left v ks).length;rw[uK (by rfl)];delta fL;have j:i_ 3 [ae n ks,.lst (left.map .int),.int v]=[J (ae n ks),J (.lst (left.map .int)),J (.int v)]:=rfl
 have q:=cH (ws:=[]) (ws':=[]) (env:=[J (ae n ks),J (.lst (left.map .int)),J (.int v)]) (s:=s) (fm:=[0]) (i:=aL (aj ci (ab (aa 0) (ab (aa 1) (ab (aa 2) a_))))) (t:=xB (ac (n3 I) (aa 0) (ac il (aa 1) (xC (.int 1))))) (e:=aa 0) (ds:=(aM (Aj left v ks) (Aj left v ks).length).map kD) (Hs ks) (λx=>x) (by simp[xx w a hv]) (by simp;lia) (λx f=>by
   obtain⟨k,r,rfl⟩:=mm.mp f
   exact⟨by simp[ae,kT (d:=.tup (ks.map kD)) rfl],λ_=>by simp⟩)
 rw[u7]at q;rw[j,bf,q];rfl
structure Bare(n:Nat)(ks:WP)(rs:WN):Prop where
 g:Rg n rs
 l4:4<=rs.length
 on:∀a b,Me rs a b->Td ks a b
 no:∀a b,a∈rs->b∈rs->Td ks a b->mD rs a b
def Bare.side{n:Nat}{f:WP}{i:WN}(w:h8 n f)(h:Bare n f i):∀k∈fC i,k∈f:=λk j=>by
 obtain⟨a,b,rfl,_,lt,_⟩:=(v7 h.g).tie k j;exact qh w lt (((vB h.g lt).mp j).elim (h.on a b) λz=>(h.on b a z).symm)
def Bare.ch{n:Nat}{i:WP}{f:WN}(h:Bare n i f):RB i f=[]:=by delta RB;rw[RM];intro k j z;have z:=of_decide_eq_true z;obtain⟨a,b,rfl,_,lt,_⟩:=(sM h.g).tie k (wl.mp j).1;obtain⟨l,u,r⟩:=(Hx h.g lt).mp j;exact r (h.no a b l u (.inl z))
def Bare.yes{n:Nat}{a:WP}{f:WN}{s:g_}(w:h8 n a)(h:Bare n a f):gn.p [ae n a,.lst (f.map .int)] s=.ok (.bl I) s/\eT.p [ae n a,.lst (f.map .int)] s=.ok (.bl I) s:=by
 refine⟨Bz h.g (h.side w),?_⟩;rw[Mh h.g (h.side w),h.ch]
 have:=h.l4
 grind
def Iw.ix(h:Iw ks ps a f e):0<f.length/\f[0]?=J a/\f[f.length-1]?=J e/\(∀i x,0<i->f[i]?=J x->x∈ps)/\(∀i x y,f[i]?=J x->f[i+1]?=J y->Td ks x y)/\∀i j x y,i+1<j->f[i]?=J x->f[j]?=J y->¬Td ks x y:=by
 induction h with
 |one =>
  refine⟨by simp,rfl,rfl,λi x u e=>?_,λi x y _ e=>?_,λi j x y B _ e=>?_⟩
  .have:=(kx.mp e).1;simp at this;lia
  .have:=(kx.mp e).1;simp at this
  .have:=(kx.mp e).1;simp at this;lia
 |@more f e p C t E Q F H =>
  obtain⟨L,M,r,O,P,G⟩:=H;have nd:=C.nd;have low:∀i x,(f++[p])[i]?=J x->(i<f.length/\f[i]?=J x)\/(i=f.length/\x=p):=λi x e=>by
   by_cases z:i<f.length
   .rw[q7 z]at e;exact .inl ⟨z,e⟩
   .have l:=(kx.mp e).1;simp at l;have z:i=f.length:=by lia
    subst z;exact .inr ⟨rfl,by simpa using e.symm⟩
  refine⟨by simp,by rw[q7 L];exact M,by simp,λi x u e=>?_,λi x y e1 e2=>?_,λi j x y B e1 e2=>?_⟩
  .rcases low i x e with⟨_,q⟩|⟨_,rfl⟩
   .exact O i x u q
   .exact E
  .rcases low (i+1) y e2 with⟨l,q⟩|⟨l,rfl⟩
   .rw[q7 ⋯]at e1;exact P i x y e1 q
   .rw[q7 ⋯,show i=f.length-1 by lia,r]at e1;injection e1 with e1
    subst e1;exact t
  .rcases low j y e2 with⟨l,q⟩|⟨l,rfl⟩
   .rw[q7 ⋯]at e1;exact G i j x y B e1 q
   .rw[q7 ⋯]at e1;refine F x (wj e1) λz=>?_;subst z
    have:=(HX (i:=i) (j:=f.length-1) ⋯ nd).mp (e1.trans r.symm)
    lia
def eX(n:Nat)(v:Int)(a:WP):WN:=(d_ n).filter λx=>!decide (x=v) && !decide (x∈mn v a)
def ot{n:Nat}{v x:Int}{a:WP}(w:h8 n a):x∈eX n v a↔(0<=x/\x<(n:Int))/\x≠v/\¬Td a v x:=by delta eX;rw[wl,aH];simp only[MP,Fj,decide_eq_false_iff_not,bT w]
def HD{n:Nat}{v a b:Int}{u:WP}{f:WN}(w:h8 n u)(hv:0<=v/\v<(n:Int))(R:[a,b]∈eN (d_ n) v u)(h:Iw u (eX n v u++[b]) a f b):Bare n u (v::f):=by
 obtain⟨lt,ma,mb,L,tb,Q⟩:=(jQ w).mp R;obtain⟨i0,G,B,U,P,O⟩:=h.ix;have nd:=h.nd;have n12:=w.n12;have l3:3<=f.length:=by
  refine Nv λz=>?_
  have:f.length=1\/f.length=2:=by lia
  rcases this with z|z
  .rw[z,G]at B;injection B with B;lia
  .rw[z]at B;exact Q (P 0 a b G B)
 have mem:∀i x,f[i]?=J x->x=a\/x=b\/x∈eX n v u:=λi x e=>by
  by_cases z:i=0
  .subst z;rw[G]at e;injection e with e;exact .inl e.symm
  .rcases ml.mp (U i x ⋯ e)with q|q
   .exact .inr (.inr q)
   .exact .inr (.inl (by simpa using q))
 have bd:∀i x,f[i]?=J x->(0<=x/\x<(n:Int))/\x≠v:=λi x e=>by
  rcases mem i x e with rfl|rfl|q
  .exact⟨(c9 w L).2.2,λz=>(c9 w L).1 z.symm⟩
  .exact⟨(c9 w tb).2.2,λz=>(c9 w tb).1 z.symm⟩
  .exact⟨((ot w).mp q).1,((ot w).mp q).2.1⟩
 have nx:∀i,(v::f)[i+1]?=f[i]?:=λi=>by simp
 refine⟨⟨?_,?_,⋯,by simp;lia⟩,by simp;lia,?_,?_⟩
 .rw[Fz];refine⟨λz=>?_,nd⟩;obtain⟨i,r⟩:=vv.mp z;exact(bd i v r).2 rfl
 .intro x E;rcases lb.mp E with rfl|E
  .exact hv
  .obtain⟨i,r⟩:=vv.mp E;exact(bd i x r).1
 .rintro x y ⟨k,S,e1,e2⟩;rw[pk]at S e2;unfold p9 at e2
  cases k with
  |zero =>
   rw[f_ ⋯,nx,G]at e2;simp at e1 e2;subst e1 e2;exact L
  |succ k =>
   rw[nx]at e1;by_cases z:k+1+1=f.length+1
   .rw[c_ z]at e2;rw[show k=f.length-1 by lia,B]at e1;simp at e1 e2;subst e1 e2;exact tb.symm
   .rw[f_ z,nx]at e2;exact P k x y e1 e2
 .have key:∀x y,x∈f->y∈f->Td u x y->mD (v::f) x y:=λx y E F t=>by
   obtain⟨i,r⟩:=vv.mp E;obtain⟨j,l⟩:=vv.mp F;have X:=(kx.mp r).1;have lj:=(kx.mp l).1;have Z:¬i+1<j:=λz=>O i j x y z r l t;have c2:¬j+1<i:=λz=>O j i y x z l r t.symm;have W:i≠j:=λz=>by
    subst z;rw[r]at l;injection l with l
    exact(c9 w t).1 l
   by_cases z:j=i+1
   .refine .inl ⟨i+1,by simp;lia,by rw[nx];exact r,?_⟩;delta p9;rw[pk,f_ ⋯,nx,<-z];exact l
   .refine .inr ⟨j+1,by simp;lia,by rw[nx];exact l,?_⟩;delta p9;rw[pk,f_ ⋯,nx,show j+1=i by lia];exact r
  have M:∀y,y∈f->Td u v y->mD (v::f) v y:=λy F t=>by
   obtain⟨j,l⟩:=vv.mp F;rcases mem j y l with rfl|rfl|q
   .refine .inl ⟨0,by simp,rfl,?_⟩;delta p9;rw[pk,f_ ⋯,nx];exact G
   .refine .inr ⟨f.length-1+1,by simp;lia,by rw[nx];exact B,?_⟩;delta p9;rw[pk,c_ ⋯];rfl
   .exact absurd t ((ot w).mp q).2.2
  intro x y E F t;rcases lb.mp E with H|H
  .subst H;rcases lb.mp F with C|C
   .exact absurd C.symm (c9 w t).1
   .exact M y C t
  .rcases lb.mp F with C|C
   .rw[C]at t ⊢;exact(M x H t.symm).symm
   .exact key x y H C t
def u9(v:Int)(ns:WN)(x:D):Bool:=match x with
 |.int i=>!decide (i=v) && !decide (i∈ns)
 |_=>T
def wL:∀(a:WN),(((a.map D.int).filter (u9 v ns)).map λx=>x)=(a.filter λx=>!decide (x=v) && !decide (x∈ns)).map D.int
 |[]=>rfl
 |i::a=>by
  have f:=wL (v:=v) (ns:=ns) a;rw[oI,Ie,Ie];by_cases z:(!decide (i=v) && !decide (i∈ns))=I
  .rw[c_ z,c_ (show u9 v ns (.int i)=I from z),oI,f,oI]
  .rw[f_ z,f_ (show ¬u9 v ns (.int i)=I from z),f]
abbrev Uv:Xd []:=(au (aG 7 (aj bD (ab (aa 0) (ab (ac aQ (aa 4) (br (ab (aa 6) a_))) (ab (aa 5) (ab (aa 6) a_))))))
 (n7 (xB (ac (z9 I) (aa 7) (xC .non))) (aO (ac aQ (br (ab (aa 2) a_)) (aa 7))) im))
abbrev Uw:Xd []:=(au (aG 3 (aj aY (ab (aa 0) (ab (aa 2) a_))))
 (au (aG 4 (aJ 1 [2,3] (aL (aa 1)) (ws':=[]) (iw 0) (eU (xB (ac EV (aa 0) (aa 1))) (xB (ac (n3 I) (aa 0) (aa 2)))) (aa 0)))
 (dy (aL (aj bW (ab (aa 0) (ab (aa 1) (ab (aa 2) a_))))) (vf (mq (iw 5) (mq (iw 6) u_)) 2) Uv)))
abbrev Fs(n:Nat)(ks:WP)(v:Int)(x0 x1 x2:WC):az:=[J (ae n ks),J (.lst ((d_ n).map .int)),J (.int v),J (.lst ((mn v ks).map .int)),J (.lst ((eX n v ks).map .int)),x0,x1,x2]
abbrev Ux:=D_ (vf (mq (iw 5) (mq (iw 6) u_)) 2:Xg []).p Uv.p
def Qj{n:Nat}{f:WP}{v:Int}{z5 z6 z7:WC}{s:g_}(w:h8 n f)(hv:0<=v/\v<(n:Int)):
  (∃y z l,Ux ((eN (d_ n) v f).map kD) (Fs n f v z5 z6 z7) s=.nx (Fs n f v y z l) s/\∀a b,[a,b]∈eN (d_ n) v f->¬Rc f (eX n v f++[b]) a b) \/
  (∃u,Ux ((eN (d_ n) v f).map kD) (Fs n f v z5 z6 z7) s=.rt (.lst (u.map .int)) s/\Bare n f u):=by
 have n12:=w.n12;have fl:(eX n v f).length<=12:=by
  have:=Fv (λx=>!decide (x=v) && !decide (x∈mn v f)) (d_ n)
  delta eX;simp[d_]at this ⊢;lia
 have r:=o4 (g:=(vf (mq (iw 5) (mq (iw 6) u_)) 2:Xg []).p) (b:=Uv.p)
  (λj env i=>∃y z l,env=(Fs n f v y z l)/\i=s/\∀a b,[a,b]∈(eN (d_ n) v f).take j->¬Rc f (eX n v f++[b]) a b) (λr i=>∃u,r=.lst (u.map .int)/\i=s/\Bare n f u)
  ((eN (d_ n) v f).map kD) 0 (Fs n f v z5 z6 z7) s ⟨z5,z6,z7,rfl,rfl,by simp⟩ (λj env i d ⟨y,z,l,X,W,F⟩ hd=>by
   rw[o0]at F ⊢;subst X W;rw[oe,tr]at hd;obtain⟨k,M,rfl⟩:=hd;have mk:=wj M;obtain⟨a,b,rfl,Q,lt,bn⟩:=wc (v:=v) (left:=d_ n) w k mk;refine⟨(Fs n f v (J (.int a)) (J (.int b)) l),by simp[kD],?_⟩;have P:aQ.p (.lst ((eX n v f).map .int)) (.lst [.int b])=J (.lst ((eX n v f++[b]).map .int)):=by rw[cW (by simp;lia)];simp
   have R:(eN (d_ n) v f).take (j+1)=(eN (d_ n) v f).take j++[[a,b]]:=by rw[Er,M];rfl
   have G:∀{r:D},bD.p [ae n f,.lst ((eX n v f++[b]).map .int),.int a,.int b] i=.ok r i->(aG 7 (aj bD (ab (aa 0) (ab (ac aQ (aa 4) (br (ab (aa 6) a_))) (ab (aa 5) (ab (aa 6) a_))))):Xd []).p (Fs n f v (J (.int a)) (J (.int b)) l) i=.nx (Fs n f v (J (.int a)) (J (.int b)) (J r)) i:=λ{r} E=>by
    simp![aR,aI,aE,cD,pk,xv,show(0+1:Nat)<=100000 by decide,if_true,P,Pf,E,Pg,n6,og]
   rcases HA (ps:=eX n v f++[b]) (b:=b) (s:=i) w ⟨Q,show a<(n:Int) by lia⟩with⟨C,E,S⟩|⟨E,Z⟩
   .right;have B:=HD w hv mk S;have bl:=B.g.len;refine⟨.lst ((v::C).map .int),i,?_,v::C,rfl,rfl,B⟩;have U:aQ.p (.lst [.int v]) (.lst (C.map .int))=J (.lst ((v::C).map .int)):=by
     rw[cW (by simp at bl ⊢;lia)];simp
    rw[ai,G E,PU.af,bp];simp![dA,aE,bz,lz,show(z9 I).p (.lst (C.map .int)) .non=J (.bl I)from rfl,Pf,Pl,Pg,if_true,bf,cD,pk,xv,show(0+1:Nat)<=100000 by decide,U]
   .left;refine⟨(Fs n f v (J (.int a)) (J (.int b)) (J .non)),i,?_,_,_,_,rfl,rfl,λH O h=>?_⟩
    .rw[ai,G E,PU.af,bp];dsimp![dA,aE,am,av,bz,lz,show(z9 I).p .non .non=J (.bl T)from rfl,Pl,Pg,nw,if_false,bM]
    .rw[R]at h;rcases ml.mp h with h|h
     .exact F H O h
     .have:H=a/\O=b:=by simpa using h
      rw[this.1,this.2];exact Z)
 rcases r with⟨L,i,e,y,z,l,rfl,rfl,F⟩|⟨r,i,e,u,rfl,rfl,B⟩
 .rw[oF,o0,Ia]at F;exact .inl ⟨y,z,l,e,F⟩
 .exact .inr ⟨u,e,B⟩
def w9{n:Nat}{f:WP}{s:g_}(w:h8 n f):(∃u,cz.p [ae n f] s=.ok (.lst (u.map .int)) s/\Bare n f u)\/(cz.p [ae n f] s=.ok .non s/\∀v∈d_ n,∀a b,[a,b]∈eN (d_ n) v f->¬Rc f (eX n v f++[b]) a b):=by
 have n12:=w.n12;have r:=o4 (g:=(iw 2:Xg []).p) (b:=Uw.p)
  (λj env l=>∃M L F y E C,env=[J (ae n f),J (.lst ((d_ n).map .int)),M,L,F,y,E,C]/\l=s/\∀v∈(d_ n).take j,∀a b,[a,b]∈eN (d_ n) v f->¬Rc f (eX n v f++[b]) a b) (λr l=>∃u,r=.lst (u.map .int)/\l=s/\Bare n f u)
  ((d_ n).map .int) 0 [J (ae n f),J (.lst ((d_ n).map .int)),Y,Y,Y,Y,Y,Y] s ⟨_,_,_,_,_,_,rfl,rfl,by simp⟩ (λj env l d ⟨M,L,F,y,E,C,Z,U,H⟩ hd=>by
   rw[o0]at H ⊢;subst Z U;rw[oe,tr]at hd;obtain⟨v,Q,rfl⟩:=hd;have hv:=aH.mp (wj Q);have R:(d_ n).take (j+1)=(d_ n).take j++[v]:=by rw[Er,Q];rfl
   refine⟨[J (ae n f),J (.lst ((d_ n).map .int)),J (.int v),L,F,y,E,C],rfl,?_⟩
   have q:=cH (ws:=[]) (ws':=[]) (env:=[J (ae n f),J (.lst ((d_ n).map .int)),J (.int v),J (.lst ((mn v f).map .int)),F,y,E,C]) (s:=l) (fm:=[2,3]) (i:=aL (aa 1)) (t:=eU (xB (ac EV (aa 0) (aa 1))) (xB (ac (n3 I) (aa 0) (aa 2)))) (e:=aa 0) (ds:=(d_ n).map .int) (u9 v (mn v f)) (λx=>x) (by simp) (by simp[d_];lia) (λx X=>by
    obtain⟨i,hi,rfl⟩:=mm.mp X;refine⟨?_,λ_=>by simp⟩;have S:=fO (neg:=I) (x:=i) (d:=.lst ((mn v f).map .int)) (xs:=mn v f) rfl
    by_cases z:i=v<;>simp[z,S,u9])
   rw[wL]at q;have pre:Uw.p [J (ae n f),J (.lst ((d_ n).map .int)),J (.int v),L,F,y,E,C] l=Ux ((eN (d_ n) v f).map kD) (Fs n f v y E C) l:=by rw[ai,aR];simp![aI,uy w hv.1 hv.2,Pg,n6,og,PU.af];rw[ai,aR,q];simp only[Pg,n6,og,PU.af];rw[dL];simp![dq,aI,Ja w hv.1 hv.2,dX,Pf,Pg];rfl
   rw[pre];rcases Qj (z5:=y) (z6:=E) (z7:=C) (s:=l) w hv with⟨x5,x6,x7,e,no⟩|⟨u,e,B⟩
   .refine .inl ⟨_,l,e,_,_,_,_,_,_,rfl,rfl,λO G=>?_⟩;rw[R]at G;rcases ml.mp G with h|h
    .exact H O h
    .have:O=v:=by simpa using h
     rw[this];exact no
   .exact .inr ⟨_,l,e,u,rfl,rfl,B⟩)
 have pre:cz.p [ae n f] s=((D_ (iw 2:Xg []).p Uw.p ((d_ n).map .int) [J (ae n f),J (.lst ((d_ n).map .int)),Y,Y,Y,Y,Y,Y] s).then (aO (xC .non):Xd []).p).fin:=by rw[uI (by rfl)];delta fP;rw[show i_ 8 [ae n f]=[J (ae n f),Y,Y,Y,Y,Y,Y,Y]from rfl];have W:il.p (ae n f) (.int 0)=J (.int (n:Int)):=rfl;rw[ai,aR];simp![bS,aE,bz,aS,W,Pf];rw[oo ⋯,z_,dU];dsimp![Pg,n6,og,PU.af,ai,dL,dq,av,am,dX]
 rw[pre];rcases r with⟨P,l,e,M,L,F,y,E,C,rfl,rfl,H⟩|⟨r,l,e,u,rfl,rfl,B⟩
 .rw[oF,o0,Ia]at H;exact .inr ⟨by rw[e];rfl,H⟩
 .exact .inl ⟨u,by rw[e];rfl,B⟩
def Rc.on{f:WP}{i j:WN}{a t y:Int}(h:Rc f i a t)(sub:∀x∈j,x∈i)(r:Rc f j t y):Rc f i a y:=by
 induction r with
 |base=>exact h
 |step _ t py l=>exact .step l t (sub _ py)
structure Gd'(ks:WP)(ls T:WN):Prop where
 sub:∀t∈T,t∈ls
 nd:T.Nodup
 ne:T≠[]
 con:∀x∈T,∀y∈T,Rc ks T x y
 ex:∃r∈ls,r∉T/\∀t∈T,¬Td ks t r
def A5{ks:WP}{ls:WN}:∀(k:Nat)(a:WN),Gd' ks ls a->ls.length-a.length<=k->∃a,Gd' ks ls a/\∀f,Gd' ks ls f->f.length<=a.length
 |0,a,g,h=>⟨a,g,λf i=>by
  have:=List.Nodup.length_le_of_subset i.nd λx j=>i.sub x j
  lia⟩
 |k+1,a,g,h=>by
  by_cases z:∃f,Gd' ks ls f/\a.length<f.length
  .obtain⟨f,i,lt⟩:=z;exact A5 k f i ⋯
  .exact⟨a,g,λf i=>Nv λq=>z ⟨f,i,q⟩⟩
open Classical in
theorem Jb{n:Nat}{j:WP}(w:h8 n j)(nb:∀v∈d_ n,∀a b,[a,b]∈eN (d_ n) v j->¬Rc j (eX n v j++[b]) a b):∀(m:Nat)(l:WN),l.length<=m->l≠[]->(∀v∈l,0<=v/\v<(n:Int))->∃v∈l,∀x∈l,∀y∈l,Td j v x->Td j v y->x≠y->Td j x y
 |0,l,hm,ne,_=>absurd (Je.mp ⋯) ne
 |m+1,l,hm,ne,P=>by
  by_cases cq:∀x∈l,∀y∈l,x≠y->Td j x y
  .obtain⟨v,hv⟩:=UF l ne;exact⟨v,hv,λx i y C _ _=>cq x i y C⟩
  .obtain⟨u,hu,z,hz,uz,nt⟩:∃u∈l,∃z∈l,u≠z/\¬Td j u z:=Classical.byContradiction λq=>cq λx i y C e=>Classical.byContradiction λt=>q ⟨x,i,y,C,e,t⟩;have one:∀{t:Int},t∈[u]->t=u:=λh=>by simpa using h
   obtain⟨f,g,mx⟩:=A5 (ks:=j) (ls:=l) l.length [u] ⟨λt h=>by rw[one h];exact hu,by simp,by simp,λx i y C=>by rw[one i,one C];exact .base,z,hz,by simpa using uz.symm,λt h=>by rw[one h];exact nt⟩ ⋯;have A:∀s∈l,s∉f->(∃t∈f,Td j t s)->∀r∈l,r∉f->(∀t∈f,¬Td j t r)->Td j s r:=λs hs sT ⟨t,E,X⟩ r O S M=>by
    refine Classical.byContradiction λno=>?_;have up:∀x∈f,x∈s::f:=λx i=>mw _ i;have ms:s∈s::f:=xg;have fr:∀x∈f,Rc j (s::f) s x:=λx i=>Rc.on (.step .base X.symm (up t E)) up (g.con t E x i);have to:∀x∈f,Rc j (s::f) x s:=λx i=>.step (Rc.on .base up (g.con x i t E)) X ms
    have:=mx (s::f) ⟨λx i=>by
      rcases lb.mp i with rfl|i
      .exact hs
      .exact g.sub x i,Fz.mpr ⟨sT,g.nd⟩,by simp,λx i y C=>by
      rcases lb.mp i with U|U<;>rcases lb.mp C with R|R
      .rw[U,R];exact .base
      .rw[U];exact fr y R
      .rw[R];exact to x U
      .exact Rc.on .base up (g.con x U y R),r,O,λq=>by
      rcases lb.mp q with h|h
      .subst h;exact M t E X
      .exact S h,λx i q=>by
      rcases lb.mp i with h|h
      .subst h;exact no q
      .exact M x h q⟩
    rw[pk]at this;lia
   have B:∀s∈l,s∉f->(∃t∈f,Td j t s)->∀F∈l,F∉f->(∃t∈f,Td j t F)->s<F->Td j s F:=λs hs sT W F al a0 G lt=>by
    refine Classical.byContradiction λno=>?_;obtain⟨r,O,S,M⟩:=g.ex;have t1:=A s hs sT W r O S M;have t2:=A F al a0 G r O S M;obtain⟨t,E,X⟩:=W;obtain⟨t',ay,as⟩:=G;have Z:∀x∈f,x∈eX n r j++[F]:=λx i=>rT _ ((ot w).mpr ⟨P x (g.sub x i),λq=>S (q▸i),λq=>M x i q.symm⟩);exact nb r (aH.mpr (P r O)) s F ((jQ w).mpr ⟨lt,aH.mpr (P s hs),aH.mpr (P F al),t1.symm,t2.symm,no⟩) (.step (Rc.on (.step .base X.symm (Z t E)) Z (g.con t E t' ay)) as (by simp))
   have inR:∀x,x∈(l.filter λx=>decide (x∉f/\∀t∈f,¬Td j t x))↔x∈l/\x∉f/\∀t∈f,¬Td j t x:=λx=>by
    rw[wl];exact and_congr_right λ_=>by rw[decide_eq_true_eq]
   obtain⟨r0,ax,an,ap⟩:=g.ex
   obtain⟨v,hv,fv⟩:=Jb w nb m (l.filter λx=>decide (x∉f/\∀t∈f,¬Td j t x)) (by
    obtain⟨t,E⟩:=UF f g.ne;refine HW (oy ?_ hm);refine Nat.lt_of_le_of_ne (Fv _ _) λe=>?_
    have:=List.length_filter_eq_length_iff.mp e t (g.sub t E)
    rw[decide_eq_true_eq]at this
    exact this.1 E) (List.ne_nil_of_mem ((inR r0).mpr ⟨ax,an,ap⟩)) (λv hv=>P v ((inR v).mp hv).1)
   obtain⟨vl,vT,nv⟩:=(inR v).mp hv;refine⟨v,vl,λx i y C tx ty ne=>?_⟩
   have cs:∀x∈l,Td j v x->x∉f/\((∃t∈f,Td j t x)\/∀t∈f,¬Td j t x):=λx i t=>⟨λq=>nv x q t.symm,by
    by_cases q:∃t∈f,Td j t x
    .exact .inl q
    .exact .inr λt E h=>q ⟨t,E,h⟩⟩
   obtain⟨Q,H⟩:=cs x i tx;obtain⟨yT,L⟩:=cs y C ty;rcases H with H|H<;>rcases L with L|L
   .rcases Jk ne with lt|lt
    .exact B x i Q H y C yT L lt
    .exact (B y C yT L x i Q H lt).symm
   .exact A x i Q H y C yT L
   .exact (A y C yT L x i Q H).symm
   .exact fv x ((inR x).mpr ⟨i,Q,H⟩) y ((inR y).mpr ⟨C,yT,L⟩) tx ty ne
abbrev VI:Xe [1,2]:=(aJ 1 [0,2] (aL (aa 2)) (ws':=[2]) (iw 0) (eM (EQ (lU bW (ab (aa 1) (ab (aa 2) (ab (aa 0) a_)))))) (aa 0))
abbrev VJ:Xd [1,2]:=(au (aG 3 VI)
 (au (vu kv 1 (ab (ac il (aa 3) (xC (.int 0))) a_))
 (vu Dg 2 (ab (ac il (aa 3) (xC (.int 0))) a_))))
abbrev Uy:Xt [1,2]:=EQ (aa 2)
def RE(a:WP)(f:WN):Prop:=∀i v,f[i]?=J v->∀x∈f.drop (i+1),∀y∈f.drop (i+1),Td a v x->Td a v y->x≠y->Td a x y
def Ap:∀{ls:WN}{v:Int},v∈ls->∃j,eZ v ls=J j/\ls[j]?=J v
 |[],v,h=>nomatch h
 |x::ls,v,h=>by
  unfold eZ;by_cases z:x=v
  .exact⟨0,by rw[c_ z],by simp[z]⟩
  .obtain⟨j,e,a⟩:=Ap (ls:=ls) (v:=v) ((lb.mp h).elim (λe=>absurd e.symm z) id);exact⟨j+1,by rw[f_ z,e];rfl,by simpa using a⟩
def vy:∀(ns:WN),bR (ns.map .int)=J ns
 |[]=>rfl
 |i::ns=>by rw[oI,bR,vy ns];rfl
def ES(a:WP)(f:WN)(v:Int):Bool:=(eN f v a).isEmpty
def Uz(a:WP)(f:WN):D->Bool
 |.int v=>ES a f v
 |_=>T
def Ah:∀(l:WP),nc (l.map kD)=I:=by
 have f:∀k:WN,nc (k.map .int)=I:=λk=>by
  induction k with
  |nil=>rfl
  |cons i k a=>simp[nc,flat,a]
 intro l
 induction l with
 |nil=>rfl
 |cons i k a=>simp[nc,flat,a,kD,f]
def Mk{n:Nat}{f:WP}{a:WN}{env:az}{s:g_}(w:h8 n f)(j:∀v∈a,0<=v/\v<(n:Int))(z:a.length<=12)(y:env[0]?=J (J (ae n f)))(e2:env[2]?=J (J (.lst (a.map .int)))):VI.p env s=.ok (.lst ((a.filter (ES f a)).map .int)) s:=by
 have q:=cH (ws:=[1,2]) (ws':=[2]) (env:=env) (s:=s) (fm:=[0,2]) (i:=aL (aa 2)) (t:=(eM (EQ (lU bW (ab (aa 1) (ab (aa 2) (ab (aa 0) a_))))))) (e:=aa 0) (ds:=a.map .int) (Uz f a) (λx=>x) (by rw[dq,oJ e2];rfl) (by simp;lia) (λx r=>by
   obtain⟨v,hv,rfl⟩:=mm.mp r;have b:=j v hv;have u:=Ja (left:=a) (s:=s) w b.1 b.2;have l:EN (D.lst ((eN a v f).map kD))=I:=Ah _;simp![oI,R_,y,e2,Option.getD_some,jU,O8,yz,u,l,if_true,gf,Pf,Uz,ES]
   simp)
 have e3:((a.map D.int).filter (Uz f a)).map (λx=>x)=(a.filter (ES f a)).map .int:=by rw[List.filter_map,CA];rfl
 rw[e3]at q;exact q
def Bl{n:Nat}{f:WP}{i:WN}{v:Int}(w:h8 n f):ES f i v=I↔∀x∈i,∀y∈i,Td f v x->Td f v y->x≠y->Td f x y:=by
 delta ES;rw[List.isEmpty_iff];constructor
 .intro h x l y r u ty ne;refine Classical.byContradiction λz=>?_;rcases Jk ne with lt|lt
  .have:=(jQ w).mpr ⟨lt,l,r,u,ty,z⟩
   rw[h]at this;cases this
  .have:=(jQ w).mpr ⟨lt,r,l,ty,u,λt=>z t.symm⟩
   rw[h]at this;cases this
 .intro h;refine List.eq_nil_iff_forall_not_mem.mpr λk j=>?_;obtain⟨a,b,rfl,_,lt,_⟩:=wc w k j;obtain⟨_,F,C,E,tb,B⟩:=(jQ w).mp j
  grind
def HE{n:Nat}{B:WP}(w:h8 n B)(hf:∀f:WN,f≠[]->(∀v∈f,0<=v/\v<(n:Int))->∃v∈f,∀x∈f,∀y∈f,Td B v x->Td B v y->x≠y->Td B x y){s:g_}:∀(d N:Nat)(f fs:WN)(E:WC),f.length=d->d+1<=N->(fs++f).Perm (d_ n)->(∀i v,fs[i]?=J v->∀x∈fs.drop (i+1)++f,∀y∈fs.drop (i+1)++f,Td B v x->Td B v y->x≠y->Td B x y) ->
  ∃L U,cR Uy.p VJ.p N [J (ae n B),J (.lst (fs.map .int)),J (.lst (f.map .int)),E] s=.nx [J (ae n B),J (.lst (L.map .int)),J (.lst []),U] s/\L.Perm (d_ n)/\RE B L:=by
 have n12:=w.n12;intro d
 induction d with
 |zero =>
  intro N f fs E O hN pm kp
  have:f=[]:=Je.mp O
  subst this;obtain⟨N,rfl⟩:∃k,N=k+1:=⟨N-1,⋯⟩;refine⟨fs,E,?_,by simpa using pm,λi v G x C y M=>kp i v G x (by simpa using C) y (by simpa using M)⟩;have W:Uy.p [J (ae n B),J (.lst (fs.map .int)),J (.lst (([]:WN).map .int)),E] s=.ok T s:=by simp[gf]
  rfl
 |succ d ih =>
  intro N f fs E O hN pm kp;obtain⟨N,rfl⟩:∃k,N=k+1:=⟨N-1,⋯⟩;have H:f≠[]:=λz=>by rw[z]at O;cases O
  have al:fs.length+f.length=n:=by have:=pm.length_eq;simpa [d_]using this
  have X:∀v∈f,0<=v/\v<(n:Int):=λv hv=>aH.mp (pm.mem_iff.mp (n2 _ hv));have S:f.filter (ES B f)≠[]:=by obtain⟨v,hv,h⟩:=hf f H X;exact List.ne_nil_of_mem (a:=v) (wl.mpr ⟨hv,(Bl w).mpr h⟩)
  have fl:0<(f.filter (ES B f)).length:=QK.mpr S;generalize hv:(f.filter (ES B f))[0]=v;have Z:l0 ((f.filter (ES B f)).map D.int) 0=J (.int v):=L2.cG (j:=0) (by rw[oe,q_ fl,hv];rfl);have vm:v∈f.filter (ES B f):=by rw[<-hv];exact Ee fl
  obtain⟨vl,R⟩:=wl.mp vm;have R:=(Bl w).mp R;obtain⟨j,ej,hj⟩:∃j,eZ v f=J j/\f[j]?=J v:=Ap vl;obtain⟨Q,P⟩:=kx.mp hj;have F:(v::f.eraseIdx j).Perm f:=by
   rw[UD];have e2:f=f.take j++v::f.drop (j+1):=by rw[<-P,<-HQ Q,EW]
   exact(H_ (a:=v) (l₁:=f.take j) (l₂:=f.drop (j+1))).symm.trans (by rw[<-e2])
  have el:(f.eraseIdx j).length=d:=by have:=F.length_eq;simp at this;lia
  have sub:∀x,x∈[v]++f.eraseIdx j->x∈f:=λx C=>F.mem_iff.mp (by simpa using C)
  obtain⟨L,U,q,pg,kg⟩:=ih N (f.eraseIdx j) (fs++[v]) (J (.lst ((f.filter (ES B f)).map .int))) el ⋯ (by
   have:(fs++[v]++f.eraseIdx j)=fs++(v::f.eraseIdx j):=by simp
   rw[this]
   exact(List.Perm.append_left fs F).trans pm) (λi u G x C y M=>by
   by_cases z:i<fs.length
   .rw[q7 z]at G;have mv:∀x,x∈(fs++[v]).drop (i+1)++f.eraseIdx j->x∈fs.drop (i+1)++f:=λx C=>by
     rw[List.drop_append_of_le_length ⋯,En]at C;rcases ml.mp C with h|h
     .exact rT _ h
     .exact n2 _ (sub x h)
    exact kp i u G x (mv x C) y (mv y M)
   .have l:=(kx.mp G).1;simp at l;have z2:i=fs.length:=by lia
    subst z2;rw[Eb ⋯]at G
    have:v=u:=by simpa using G
    subst this;have mv:∀x,x∈(fs++[v]).drop (fs.length+1)++f.eraseIdx j->x∈f:=λx C=>by
     rw[MB (by simp)]at C;exact sub x (n2 _ (by simpa using C))
    exact R x (mv x C) y (mv y M))
  refine⟨L,U,?_,pg,kg⟩;have W:Uy.p [J (ae n B),J (.lst (fs.map .int)),J (.lst (f.map .int)),E] s=.ok I s:=by simp[gf,H]
  have bb:VJ.p [J (ae n B),J (.lst (fs.map .int)),J (.lst (f.map .int)),E] s=.nx [J (ae n B),J (.lst ((fs++[v]).map .int)),J (.lst ((f.eraseIdx j).map .int)),J (.lst ((f.filter (ES B f)).map .int))] s:=by
   rw[ai,aR,Mk w X ⋯ rfl rfl];simp only[Pg,n6,og,PU.af];rw[ai,eI (s1:=s) (as:=[.int v]) (ds:=fs.map .int) (ds':=(fs++[v]).map .int) (r:=.non) (by simp![aE,bz,aS,fU,Z,Pf]) rfl (by rw[iV (by simp;lia)];simp),PU.af];simp only[n6,og]
   rw[eI (s1:=s) (as:=[.int v]) (ds:=f.map .int) (ds':=(f.eraseIdx j).map .int) (r:=.non) (by simp![aE,bz,aS,fU,Z,Pf]) rfl (by
    show(bR (f.map .int)).bind _=_
    rw[vy,Aa,ej];rfl)]
   rfl
  rw[cR,W,Pg,c_ rfl,bb];exact q
def Qk{n:Nat}{a:WP}{s:g_}(w:h8 n a)(r:n<=12)(hf:∀i:WN,i≠[]->(∀v∈i,0<=v/\v<(n:Int))->∃v∈i,∀x∈i,∀y∈i,Td a v x->Td a v y->x≠y->Td a x y):∃f,bL.p [ae n a] s=.ok (.lst (f.map .int)) s/\Ord n f/\RE a f:=by obtain⟨f,u,e,pm,l⟩:=HE w hf n 400 (d_ n) [] Y (by simp[d_]) ⋯ (by simp) (by simp);refine⟨f,?_,⟨r,pm⟩,l⟩;rw[lw (by rfl)];delta b8;rw[show i_ 4 [ae n a]=[J (ae n a),Y,Y,Y]from rfl];have j:il.p (ae n a) (.int 0)=J (.int (n:Int)):=rfl;dsimp![cD,ao,xv,t0,if_true,Pg,n6,PU.af,ai,gC,bS,ah,aE,am,bz,aS,j];rw[oo ⋯,dU];simp only[Pf,Pg];refine(congrArg (λz:PS=>(z.then _).fin) e).trans ?_;rw[PU.af,kW rfl,PU.bY]
def AC{n:Nat}{a:WP}{f:WN}{s:g_}(e:cz.p [ae n a] s=.ok (.lst (f.map .int)) s):cm.p [ae n a] s=.ok (.tup [.str "ring",.lst (f.map .int)]) s:=by rw[j7 (by rfl)];delta cY;rw[show i_ 2 [ae n a]=[J (ae n a),Y]from rfl];simp![ai,aR,aI,e,Pg,n6,og,PU.af,bp,dA,aE,bz,lz,nk,show(z9 I).p (.lst (f.map .int)) .non=J (.bl I)from rfl,Pf,Pl,if_true,bf,jT,pk,xv,show(0+1+1:Nat)<=100000 by decide,PU.g7,PU.bY]
def BU{n:Nat}{a:WP}{f:WN}{s:g_}(i:cz.p [ae n a] s=.ok .non s)(e:bL.p [ae n a] s=.ok (.lst (f.map .int)) s):cm.p [ae n a] s=.ok (.tup [.str "order",.lst (f.map .int)]) s:=by rw[j7 (by rfl)];delta cY;rw[show i_ 2 [ae n a]=[J (ae n a),Y]from rfl];simp![ai,aR,aI,i,Pg,n6,og,PU.af,bp,dA,aE,bz,lz,nk,show(z9 I).p .non .non=J (.bl T)from rfl,Pf,Pl,nw,if_false,bM,bf,jT,e,pk,xv,show(0+1+1:Nat)<=100000 by decide,if_true,PU.bY]
def vE{l:WP}{f:WN}(nd:f.Nodup)(F:RE l f):∀m,m<=f.length->∀x y,x∈f.drop m->y∈f.drop m->x≠y->Wy l (·∈f.take m) x y->Td l x y
 |0,_,x,y,_,_,_,h=>by
  have:∀a b,Wy l (·∈f.take 0) a b->Td l a b:=λa b h=>by
   induction h with
   |tie t=>exact t
   |thru _ p=>simp at p
  exact this _ _ h
 |j+1,O,x,y,u,B,ne,h=>by
  have C:=vE nd F j ⋯;have i:j<f.length:=by lia
  have E:f.drop j=f[j]::f.drop (j+1):=HQ i;have L:f.take (j+1)=f.take j++[f[j]]:=by rw[Er];simp[i]
  have G:f[j]∉f.drop (j+1):=by
   have:=List.Nodup.sublist (QN j f) nd
   rw[E]at this;exact(Fz.mp this).1
  have mv:f[j]∈f.drop j:=by rw[E];exact xg
  have r:∀x,x∈f.drop (j+1)->x∈f.drop j:=λx h=>by rw[E];exact mw _ h
  have H:x≠f[j]:=λz=>G (z▸u);have M:y≠f[j]:=λz=>G (z▸B)
  rcases h.cut (P:=(·∈f.take j)) (v:=f[j]) (λx h=>by
   rw[L]at h;rcases ml.mp h with h|h
   .exact .inl h
   .exact .inr (by simpa using h))with h|⟨h1,h2⟩
  .exact C x y (r x u) (r y B) ne h
  .exact F j f[j] (by simp[i]) x u y B (C x _ (r x u) mv H h1).symm (C _ y mv (r y B) (Ne.symm M) h2) ne
def nh{n:Nat}{f:WN}(o:Ord n f){a:Int}(h:0<=a/\a<(n:Int)):f[aw f a]?=J a:=(bK (o.pm.mem_iff.mpr (aH.mpr h))).2
def Cq{n:Nat}{l:WP}{f:WN}(w:h8 n l)(o:Ord n f)(z:RE l f):fo l f=[]:=by
 have nd:=o.pm.symm.nodup (cZ n);delta fo;rw[RM];intro k y;obtain⟨a,b,rfl,E,lt,F⟩:=(dw w).tie k y;have j:=nh o ⟨E,show a<(n:Int) by lia⟩;have u:=nh o ⟨show 0<=b by lia,F⟩;have t:=(ko w nd j u ⋯).mp (.inl y);have r:∀{m i:Nat}{a:Int},f[i]?=J a->m<=i->a∈f.drop m:=λ{m i a} h G=>by
  obtain⟨H,C⟩:=kx.mp h;rw[HU];exact⟨i-m,by rw[Eo];lia,by rw[EX,<-C];congr 1;lia⟩
 have L:=(kx.mp j).1;have B:=vE nd z (min (aw f a) (aw f b)) ⋯ a b (r j ⋯) (r u ⋯) ⋯ t;simp[qh w lt B]
def v5(r:Int->Nat):∀(f:WN),f≠[]->∃v∈f,∀x∈f,r v<=r x
 |[a],_=>⟨a,by simp,by simp⟩
 |a::b::f,_=>by
  obtain⟨v,hv,h⟩:=v5 r (b::f) (by simp)
  grind
def Ql{m k:Nat}(h:k<m)(a:3<=m):p9 m (p9 m k)≠k:=by
 have:=kX m k
 have:=kX m (p9 m k)
 lia
def UA{m k:Nat}(h:k<m)(a:4<=m):p9 m (p9 m (p9 m k))≠k:=by
 have:=kX m k
 have:=kX m (p9 m k)
 have:=kX m (p9 m (p9 m k))
 lia
def A7{n:Nat}{r:WP}{l f:WN}(w:h8 n r)(o:Ord n l)(h:Bare n r f):fo r l≠[]:=by
 have nd:l.Nodup:=o.pm.symm.nodup (cZ n);have l4:=h.l4;obtain⟨u,hu,R⟩:=v5 (aw l) f (λz=>by rw[z]at l4;simp at l4);obtain⟨k,O⟩:=vv.mp hu;have B:=(kx.mp O).1;have inj:∀{i j:Nat}{x:Int},f[i]?=J x->f[j]?=J x->i=j:=λ{i j x} e1 e2=>(HX (i:=i) (j:=j) (kx.mp e1).1 h.g.nd).mp (e1.trans e2.symm);have hn:=BW B;obtain⟨p,Q,H⟩:=Mf B;have pn:p≠p9 f.length k:=λz=>Ql B ⋯ (by rw[<-z,H]);have nn:p9 f.length (p9 f.length k)≠p:=λz=>UA B l4 (by rw[z,H]);have Z:k≠p9 f.length k:=λz=>Ql B ⋯ (by rw[<-z,<-z]);obtain⟨x,C⟩:∃x,f[p9 f.length k]?=J x:=⟨_,q_ hn⟩;obtain⟨y,E⟩:∃y,f[p]?=J y:=⟨_,q_ Q⟩;have L:Td r u x:=h.on u x ⟨k,B,O,C⟩;have ty:Td r y u:=h.on y u ⟨p,Q,E,by rw[H];exact O⟩;have U:x≠y:=λz=>by subst z;exact pn (inj E C)
 have P:¬Td r x y:=λt=>by
  rcases h.no x y (wj C) (wj E) t with⟨i,hi,e1,e2⟩|⟨i,hi,e1,e2⟩
  .have:=inj e1 C
   subst this;exact nn (inj e2 E)
  .have:=inj e1 E
   subst this;rw[H]at e2;exact Z (inj e2 C)
 have bx:=(c9 w L).2.2;have W:=(c9 w L).2.1;have M:=(c9 w ty).2.1;have X:=nh o W;have ix:=nh o bx;have S:=nh o M;have mem:∀{a:Int},0<=a/\a<(n:Int)->a∈l:=λ{a} ha=>o.pm.mem_iff.mpr (aH.mpr ha);have F:∀{a:Int},l[aw l a]?=J a->a≠u->aw l a≠aw l u:=λ{a} G ne z=>by
  rw[z,X]at G;injection G with G
  exact ne G.symm
 have px:=R x (wj C);have py:=R y (wj E);have al:=F ix (Ne.symm (c9 w L).1);have an:=F S (c9 w ty).1;have t:Td (aA r l) x y:=(ko w nd ix S U).mpr (.thru (.tie L.symm) ((dZ nd (mem W)).mpr ⋯) (.tie ty.symm));have wf:=dw (qs:=l) w;intro z;unfold fo at z;rw[RM]at z;rcases Jk U with lt|lt
 .exact z _ (qh wf lt t) (by simp;exact λq=>P (.inl q))
 .exact z _ (qh wf lt t.symm) (by simp;exact λq=>P (.inr q))
def Ml{n:Nat}{F:WP}(w:h8 n F){v x:Int}(ne:v≠x):zL [v,x]∈F↔x∈mn v F:=by
 rw[bT w];have no:∀{a b:Int},b<a->[a,b]∉F:=λ{a b} h m=>by
  obtain⟨c,d,e,_,f,_⟩:=w.tie _ m;injection e with e1 e
  injection e with e2 _
  ext
 rcases Jk ne with h|h
 .rw[nB h];exact⟨.inl,λt=>t.elim id λz=>absurd z (no h)⟩
 .rw[pY h];exact⟨.inr,λt=>t.elim (λz=>absurd z (no h)) id⟩
def rank_p'{n:Nat}{a:WN}{env:az}{s:g_}{i:Xi [5]}(o:Ord n a)(e2:env[2]?=J (J (.lst (a.map .int))))(j:i.p env s=.ok (dg 0 n) s):
  (aJ 1 [2] i (ws':=[]) (iw 0) i3 (Nb zV (aa 1) (ab (aa 0) a_)):Xe [5]).p env s=.ok (z3 n a) s:=by
 have q:=cH (ws':=[]) (fm:=[2]) (i:=i) (t:=i3) (e:=Nb zV (aa 1) (ab (aa 0) a_)) (ds:=dg 0 n) (λ_=>I) (λx=>match x with|.int v=>.int (aw a v:Int)|_=>.non) j (by rw[ff];have:=o.n12;ext) (λx z=>by
  obtain⟨v,rfl,y,B⟩:=lY z;have f:=o.pm.mem_iff.mpr (aH.mpr ⟨y,by ext⟩);have l:bR (a.map .int)=J a:=by
   clear f j e2 o
   induction a with
   |nil=>rfl
   |cons i k u=>rw[oI,bR,u];rfl
  have r:zV.p (a.map .int) [.int v]=J (.int (aw a v:Int)):=by show(bR (a.map .int)).bind _=_;rw[l,Aa,(bK f).1];rfl
  simp[e2,r])
 rw[q,cA,dU,CA];rfl
def UB{n:Nat}{F:WP}{v i:Int}{s:g_}(w:h8 n F)(ne:v≠i):(xB (ac (n3 T) (bw (ab (jj jf (ab (aa 2) (ab (aa 0) a_))) (ab (jj nS (ab (aa 2) (ab (aa 0) a_))) a_))) (aa 1)):Xt []).p [J (.int i),J (.lst (F.map kD)),J (.int v)] s=.ok (decide (i∈mn v F)) s:=by
 have a:=kT (neg:=T) (k:=zL [v,i]) (d:=.lst (F.map kD)) rfl;have e1:decide (zL [v,i]∈F)=decide (i∈mn v F):=by rw[decide_eq_decide];exact Ml w ne
 rw[<-e1];refine(congrArg (λz=>(PR.of z s).bl) a).trans ?_;simp
abbrev V9:Xd [5]:=(au (aG 8 (aJ 1 [4,7] (aL (yP (aa 2) (yI (ac aQ (aa 6) (xC (.int 1)))) yv)) (ws':=[]) (iw 0) (xB (ac (n3 T) (bw (ab (jj jf (ab (aa 2) (ab (aa 0) a_))) (ab (jj nS (ab (aa 2) (ab (aa 0) a_))) a_))) (aa 1))) (aa 0)))
 (pV 5 (ac il (ac aQ (aa 8) (br (ab (xC .non) a_))) (xC (.int 0))) (aa 7)))
abbrev Mm(n:Nat)(ks:WP)(qs:WN)(j:Nat)(z6 z7 z8:WC):az:=[J (ae n ks),J (bg n ks),J (.lst (qs.map .int)),J (z3 n qs),J (.lst ((aA ks qs).map kD)),J (.lst (bE n (aA ks qs) qs j)),z6,z7,z8]
def Qm{n:Nat}{l:WP}{f:WN}{s:g_}(w:h8 n l)(o:Ord n f):k5.p [ae n l,bg n l,.lst (f.map .int)] s=.ok (.tup [z3 n f,ae n (aA l f),dC n (aA l f) f]) s:=by
 have W:=o.len;have n12:=o.n12;have wf:=dw (qs:=f) w;have nd:f.Nodup:=o.pm.symm.nodup (cZ n);have P:il.p (ae n l) (.int 0)=J (.int (n:Int)):=rfl;have X:(d_ n).length=n:=by simp[d_]
 have pl:=d5 (ns:=d_ n) (by simp[d_];exact n12) n
 have rk:=rank_p' (env:=[J (ae n l),J (bg n l),J (.lst (f.map .int)),Y,Y,Y,Y,Y,Y]) (s:=s) (i:=bO Fa (ab (ac il (aa 0) (xC (.int 0))) a_)) o rfl (by
  simp![fh,aE,bz,aS,P,Pf]
  rw[qg (by ext),z_,Pf])
 have S:=oU (ws:=[5]) (ws':=[]) (env:=[J (ae n l),J (bg n l),J (.lst (f.map .int)),J (z3 n f),Y,Y,Y,Y,Y]) (s:=s) (fm:=[1,3]) (i:=aL (aj cB (ab (jj Fp (ab (ac il (aa 0) (xC (.int 0))) a_)) a_))) (t:=xB (aj gE (ab (aa 2) (ab (aa 3) (ab (aa 0) (ab (aa 1) a_)))))) (e:=bw (ab (aa 0) (ab (aa 1) a_))) (ds:=(aM (d_ n) n).map kD) (si l f) (λx=>x) (by
   have:=oK (ns:=d_ n) (s:=s) (by ext)
   rw[X]at this;simp![dq,aI,bS,aE,bz,aS,P,Pf];rw[oo (by ext),z_,dU]
   simp[this]) (by simp;ext) (λx u=>by
   obtain⟨k,Q,rfl⟩:=mm.mp u;have M:k∈aM (d_ n) (d_ n).length:=by rw[X];exact Q
   obtain⟨a,b,rfl,c1,c2,c3⟩:=gT (n:=n) (jw n) (λx u=>aH.mp u) k M;refine⟨.int a,.int b,rfl,?_,λ_=>by simp[kD]⟩
   have:=Ht (a:=a) (b:=b) (s:=s) w o ⟨c1,by ext⟩ ⟨by ext,c3⟩
   have e:si l f (kD [a,b])=lV l f [a,b]:=by simp[si,gD]
   rw[e]
   simp[this,lV])
 rw[wK,Dy w o]at S;have U:=cH (ws:=[5]) (ws':=[]) (env:=[J (ae n l),J (bg n l),J (.lst (f.map .int)),J (z3 n f),J (.lst ((aA l f).map kD)),Y,Y,Y,Y]) (s:=s) (fm:=[]) (i:=aL (aa 2)) (t:=i3) (e:=xC .non) (ds:=f.map .int) (λ_=>I) (λ_=>.non) (by simp) (by simp;ext) (λx u=>⟨rfl,λ_=>by simp⟩);have e0:(((f.map D.int).filter λ_=>I).map λ_=>D.non)=bE n (aA l f) f 0:=by rw[cA,CA];have a1:f.map ((λ_=>D.non)∘D.int)=List.replicate n .non:=MD.mpr ⟨by simp[W],by simp⟩;have a2:bE n (aA l f) f 0=List.replicate n .non:=MD.mpr ⟨dW,by simp[bE]⟩;rw[a1,a2]
 rw[e0]at U;obtain⟨Z,B,e,R,O,E,rfl,G⟩:=di (g:=(vf (mq (iw 6) (mq (iw 7) u_)) 2:Xg [5]).p) (b:=V9.p)
  (λj env B=>∃R O E,env=Mm n l f j R O E/\B=s) (eR (f.map .int)) 0 (Mm n l f 0 Y Y Y) s ⟨Y,Y,Y,rfl,rfl⟩ (λj env B d ⟨R,O,E,hE,hS⟩ hd=>by
   rw[o0]at hE ⊢;subst hE hS;obtain⟨x,u,rfl⟩:=iP hd;obtain⟨rfl,C⟩:=hU u;have ev:f.getD j 0=f[j]:=by simp[List.getD,C]
   have b:=o.bd _ (Ee C);rw[ev];have cf:=g6 (ns:=f) (j:=j+1) (by ext);push_cast at cf
   have q:=cH (ws:=[5]) (ws':=[]) (env:=Mm n l f j (J (.int (j:Int))) (J (.int f[j])) E) (s:=B) (fm:=[4,7]) (i:=aL (yP (aa 2) (yI (ac aQ (aa 6) (xC (.int 1)))) yv)) (t:=xB (ac (n3 T) (bw (ab (jj jf (ab (aa 2) (ab (aa 0) a_))) (ab (jj nS (ab (aa 2) (ab (aa 0) a_))) a_))) (aa 1))) (e:=aa 0) (ds:=(f.drop (j+1)).map .int) (Qe (mn f[j] (aA l f))) (λx=>x) (by simp[cf]) (by simp;ext) (λx u=>by
     obtain⟨i,H,rfl⟩:=mm.mp u;have ne:f[j]≠i:=λz=>by
      rw[HQ (by have:=RN H;simp at this;ext)]at H;obtain⟨m,hm,e⟩:=HU.mp (show i∈f.drop (j+1) by rw[HQ (by have:=RN H;simp at this;ext)];exact H);rw[EX]at e
      have:=(HX (i:=j) (j:=j+1+m) C nd).mp (by rw[q_ C,q_ (by simp at hm;ext),e,z])
      ext
     exact⟨UB wf ne,λ_=>by simp⟩)
   rw[kw]at q;have pf:cL (aA l f) f f[j]=((f.drop (j+1)).filter λx=>decide (x∈mn f[j] (aA l f))).head?:=by delta cL;rw[jD nd C,tq]
   have G:=xp (F:=aA l f) o C;rw[pf]at G;have bl:((f.drop (j+1)).filter λx=>decide (x∈mn f[j] (aA l f))).length<=12:=ny (Fv _ _) (by simp;ext);generalize ((f.drop (j+1)).filter λx=>decide (x∈mn f[j] (aA l f)))=bs at q G bl;refine⟨Mm n l f j (J (.int (j:Int))) (J (.int f[j])) E,Mm n l f (j+1) (J (.int (j:Int))) (J (.int f[j])) (J (.lst (bs.map .int))),B,by simp,?_,_,_,_,rfl,rfl⟩;rw[ai,aR,q];simp only[Pg,n6,og,PU.af];have ix:qp (bE n (aA l f) f j).length f[j]=J (f[j]).toNat:=by obtain⟨k,Q⟩:=dG b.1;rw[Q,dW,oD (by ext)];simp
   have L:l0 (bs.map D.int++[.non]) 0=J (dB bs.head?):=by
    cases bs with
    |nil=>rfl
    |cons y r=>exact L2.cG (j:=0) rfl
   rw[B0,rA (v:=dB bs.head?) (s1:=B) (j:=f[j]) (s2:=B) (ds:=bE n (aA l f) f j) (n:=(f[j]).toNat) (by
    simp![aE,cD,bz,lz,aS,pk,xv,show(0+1:Nat)<=100000 by decide,if_true];rw[cW (by simp;ext)]
    dsimp![fU,L]) (by simp) rfl ix]
   delta Mm;rw[G]
   rfl)
 rw[gv,oF,o0,G]at e;rw[DW (by rfl)];delta k7;rw[show i_ 9 [ae n l,bg n l,.lst (f.map .int)]=[J (ae n l),J (bg n l),J (.lst (f.map .int)),Y,Y,Y,Y,Y,Y]from rfl];rw[ai,aR,rk];simp only[Pg,n6,og,PU.af];rw[ai,aR,S];simp only[Pg,n6,og,PU.af];rw[ai,gC,U];simp only[Pg,n6,og,PU.af];rw[ai,dL];simp![fh,G7,Pf,Pg];refine(congrArg (λz:PS=>(z.then _).fin) e).trans ?_;rw[PU.af,W];delta Mm;rw[xO o,Pj (x:=.lst ((d_ n).map λv=>dB (cL (aA l f) f v))) (d:=.tup [z3 n f,ae n (aA l f),dC n (aA l f) f]) (s':=s) rfl ?_,PU.bY];simp![bf,jT,aE,bz,aS,P,Pf,bS,vz,pk,xv,show(0+1+1:Nat)<=100000 by decide,show(0+1+1+1:Nat)<=100000 by decide,if_true,Pg];rfl
def Bq{n:Nat}{F:WP}{qs:WN}(a:n<=12):s_ 7 (dC n F qs):=.lst (by simp[d_];ext) λd hd=>by
 obtain⟨v,_,rfl⟩:=mm.mp hd
 cases cL F qs v with
 |none=>exact .non
 |some i=>exact .int i
def HG:ph.p (.lst []) (.lst [])=J (.bl I):=by exact(LD rfl).trans (wJ (neg:=T) (xs:=[]) (ys:=[]))
def Dp{ns:WN}{m:Nat}(a:ns≠[]):∃v,v∈ns/\l0 (ns.map D.int) (-1-((m:Int).fmod (ns.length:Int)))=J (.int v):=by
 have f:=QK.mpr a;have e:(m:Int).fmod (ns.length:Int)=((m % ns.length:Nat):Int):=by rw[Qz _ (by ext)];rfl
 have lt:=QQ m f;refine⟨ns[ns.length-1-m % ns.length]'(by ext),Ee _,?_⟩;delta l0 qp;rw[oF,e,f_ (by ext),c_ (by ext),Aa,oe,show(-1-((m % ns.length:Nat):Int)+(ns.length:Int)).toNat=ns.length-1-m % ns.length by ext,q_ (by ext)];rfl
def mL{n:Nat}{f:WP}{i:WN}{s:g_}(w:h8 n f)(o:Ord n i):bF.p [ae n f,bg n f,.lst (i.map .int)] s=.ok (.bl I) s:=by
 have n12:=o.n12;have wf:=dw (qs:=i) w;have l:=rH (s:=s) (Df wf);have r:=rH (s:=s) (Bq (F:=aA f i) (qs:=i) n12);rw[pK (by rfl)];delta dk;rw[show i_ 7 [ae n f,bg n f,.lst (i.map .int)]=[J (ae n f),J (bg n f),J (.lst (i.map .int)),Y,Y,Y,Y]from rfl];rw[ai,wt];simp![aI,Qm w o,Pg,Ab,pk,xv,if_true,zM,yS,Aa,zd,n6,og,PU.af];rw[ai,bp];simp![IN,jU,dA,aI,lM w o,tR w o,l,r,Pl,ET,nw,if_false,Pg,bM,PU.af];rw[ai,bp];by_cases z:i=[]
 .have e:ph.p (.lst (i.map .int)) (.lst [])=J (.bl I):=by rw[z];exact HG
  dsimp![dA,aE,av,am,cD,ao,xv,t0,if_true,e,Pl,Pg,bf,bz,IM,PU.g7,PU.bY]
 .have e:ph.p (.lst (i.map .int)) (.lst [])=J (.bl T):=LA (by
   rw[oF]
   exact λq=>z (Je.mp q))
  obtain⟨v,hv,C⟩:=Dp (m:=f.length) z;have j:=o.bd v hv;have a:=Hw (s:=s) w o j.1 j.2;have b:=Av (s:=s) w o j.1 j.2;have G:=AF (ks:=f) (qs:=i) (v:=v) n12;have y:=rH (s:=s) (At (ns:=oN n f i v) (by ext));have E:il.p (ae n f) (.int 1)=J (.tup (f.map kD)):=rfl;have B:nj.p (.int 1)=J (.int (-1)):=rfl;have u:(i.length:Int)≠0:=by have:=QK.mpr z;ext
  dsimp![dA,aE,av,am,cD,ao,xv,t0,if_true,e,Pl,Pg,nw,if_false,bM,PU.af];rw[ai,aR];simp![aE,mH,bz,aS,bS,E,Pf,wD,lc,oF,xf u,B,r9,fU,C,Pg,n6,og,PU.af];simp![bf,aI,a,b,y,Pg,PU.bY]
def o3(q:WN)(k:Int)(a:Nat):WN:=q.take a++[k]++q.drop a
def fJ(k:Int)(q:WN):WP:=(List.range (q.length+1)).map (o3 q k)
def dD:Nat->WP
 |0=>[[]]
 |k+1=>(dD k).flatMap (fJ (k:Int))
def Cf{q:WN}{k:Int}{a:Nat}:(o3 q k a).Perm (q++[k]):=by delta o3;rw[En];have f:=H_ (a:=k) (l₁:=q.take a) (l₂:=q.drop a);rw[EW]at f;exact f.trans (Qy _ q).symm
def AN(n:Nat):d_ (n+1)=d_ n++[(n:Int)]:=by simp[d_,Nw]
def qI:∀(n:Nat)(q:WN),q∈dD n->q.Perm (d_ n)
 |0,q,h=>by rw[MK.mp h];exact .nil
 |n+1,q,h=>by
  obtain⟨r,i,f⟩:=Ic.mp h;obtain⟨a,_,rfl⟩:=mm.mp f;rw[AN];exact Cf.trans ((qI n r i).append_right _)
def yo:∀(n:Nat)(q:WN),q.Perm (d_ n)->q∈dD n
 |0,q,h=>by rw[List.Perm.eq_nil h];exact MK.mpr rfl
 |n+1,q,h=>by
  rw[AN]at h;have f:(n:Int)∈q:=h.mem_iff.mpr (by simp);obtain⟨x,y,rfl⟩:=List.append_of_mem f;have a:(x++y).Perm (d_ n):=by
   have:=(H_).symm.trans (h.trans (Qy _ _))
   exact(List.perm_cons _).mp this
  refine Ic.mpr ⟨x++y,yo n _ a,mm.mpr ⟨x.length,EG.mpr (by simp;lia),?_⟩⟩;simp[o3]
def HH:∀(n:Nat),n<=5->(dD n).length<=120:=by
 intro n a
 have:n=0\/n=1\/n=2\/n=3\/n=4\/n=5:=by lia
 rcases this with rfl|rfl|rfl|rfl|rfl|rfl<;>decide +kernel
abbrev lD(q:WN):D:=.lst (q.map .int)
def Mn{ns:WN}{k:Int}(a:0<=k):kQ (ns.map D.int) Y (J k)=(ns.take k.toNat).map .int:=by
 obtain⟨j,rfl⟩:=dG a;delta kQ;rw[HT.uL,HT.xF]
 simp_all
abbrev VL:Xe [3]:=(aJ 1 [4,2] (bO Fa (ab (ac aQ (jj bV (ab (aa 4) a_)) (xC (.int 1))) a_)) (ws':=[]) (iw 0) i3 (ac aQ (ac aQ (yP (aa 1) yv (yI (aa 0))) (br (ab (aa 2) a_))) (yP (aa 1) (yI (aa 0)) yv)))
abbrev VM:Xd [3]:=(dy (aL (aa 1)) (iw 4) (vu li 3 (ab VL a_)))
def Qn{n j:Nat}{l:WC}{Q:WP}{y:WC}{s:g_}(hl:Q.length<=120)(C:∀q∈Q,q.length<=5):∃u,VM.p [l,J (.lst (Q.map lD)),J (.int (j:Int)),J (.lst []),y] s=.nx [l,J (.lst (Q.map lD)),J (.int (j:Int)),J (.lst ((Q.flatMap (fJ (j:Int))).map lD)),u] s:=by
 have M:∀m,((Q.take m).flatMap (fJ (j:Int))).length<=6*m:=λm=>by
  induction m with
  |zero=>simp
  |succ m ih =>
   rw[Er,List.flatMap_append,Em]
   cases e:Q[m]? with
   |none=>simp only[Option.toList_none,List.flatMap_nil,xv];lia
   |some q =>
    have:=C q (wj e)
    simp only[Option.toList_some,List.flatMap_cons,List.flatMap_nil,Jn,fJ,oF,List.length_range];lia
 obtain⟨E,f,e,u,rfl,S⟩:=di (g:=(iw 4:Xg [3]).p) (b:=(vu li 3 (ab VL a_):Xd [3]).p)
  (λm env f=>∃z,env=[l,J (.lst (Q.map lD)),J (.int (j:Int)),J (.lst (((Q.take m).flatMap (fJ (j:Int))).map lD)),z]/\f=s) (Q.map lD) 0 [l,J (.lst (Q.map lD)),J (.int (j:Int)),J (.lst []),y] s ⟨y,rfl,rfl⟩ (λm env f d ⟨z,F,L⟩ hd=>by
   rw[o0]at F ⊢;subst F L;rw[oe,tr]at hd;obtain⟨q,eq,rfl⟩:=hd;have X:=C q (wj eq);have H:(Q.take (m+1)).flatMap (fJ (j:Int))=(Q.take m).flatMap (fJ (j:Int))++fJ (j:Int) q:=by rw[Er,eq,List.flatMap_append];simp
   have W:m<Q.length:=(kx.mp eq).1
   have c:=cH (ws:=[3]) (ws':=[]) (env:=[l,J (.lst (Q.map lD)),J (.int (j:Int)),J (.lst (((Q.take m).flatMap (fJ (j:Int))).map lD)),J (lD q)]) (s:=f) (fm:=[4,2]) (i:=bO Fa (ab (ac aQ (jj bV (ab (aa 4) a_)) (xC (.int 1))) a_)) (t:=i3) (e:=ac aQ (ac aQ (yP (aa 1) yv (yI (aa 0))) (br (ab (aa 2) a_))) (yP (aa 1) (yI (aa 0)) yv)) (ds:=dg 0 (q.length+1)) (λ_=>I) (λx=>match x with|.int a=>lD (o3 q (j:Int) a.toNat)|_=>.non) (by
     simp![fh,aE,bS,lc,oF,bz,aS,Pf,sU]
     rw[show((q.length:Int)+1)=((q.length+1:Nat):Int) by lia,qg ⋯,z_,Pf]) (by rw[ff];lia) (λx P=>by
     obtain⟨a,rfl,O,Z⟩:=lY P;obtain⟨b,rfl⟩:=dG O;refine⟨rfl,λ_=>?_⟩;have B:=Mn (ns:=q) (k:=(b:Int)) ⋯;rw[z_]at B;have R:=g6 (ns:=q) (j:=b) ⋯;show(ac aQ (ac aQ (yP (aa 1) yv (yI (aa 0))) (br (ab (aa 2) a_))) (yP (aa 1) (yI (aa 0)) yv):Xe []).p [J (.int (b:Int)),J (lD q),J (.int (j:Int))] f=_;simp![aE,zO,zw,zr,Am,B,R,Pf,cD,pk,xv,show(0+1:Nat)<=100000 by decide,if_true];rw[cW (by simp;lia)];dsimp![Pb];rw[cW (by simp;lia)]
     simp[o3])
   have G:(((dg 0 (q.length+1)).filter λ_=>I).map λx=>match x with|.int a=>lD (o3 q (j:Int) a.toNat)|_=>.non)=(fJ (j:Int) q).map lD:=by rw[cA];delta fJ dg;rw[CA,CA];refine No λa _=>?_;simp
   rw[G]at c;refine⟨[l,J (.lst (Q.map lD)),J (.int (j:Int)),J (.lst (((Q.take m).flatMap (fJ (j:Int))).map lD)),J (lD q)],_,f,rfl,?_,J (lD q),rfl,rfl⟩;rw[H,Ig];have f1:=M m
   exact eI (s1:=f) (as:=[.lst ((fJ (j:Int) q).map lD)]) (ds:=((Q.take m).flatMap (fJ (j:Int))).map lD) (r:=.non) (by rw[ah,c];rfl) rfl (by
    have U:(fJ (j:Int) q).length=q.length+1:=by simp[fJ]
    rw[tf (by rw[oF,oF];lia)]))
 rw[oF,o0,Ia,S]at e;refine⟨u,?_⟩;rw[dL];dsimp![dq,av,am,dX,Pg];exact e
def Mo{n:Nat}{q:WN}(h:q∈dD n):q.length=n:=by have:=(qI n q h).length_eq;simpa [d_]using this
def wn{n:Nat}{s:g_}(G:n<=5):dQ.p [.int (n:Int)] s=.ok (.lst ((dD n).map lD)) s:=by
 obtain⟨r,a,e,j,f,i,rfl,E⟩:=di (g:=(iw 2:Xg []).p) (b:=(vh 3 (br a_) VM (aG 1 (aa 3)) (qO (by decide)):Xd []).p)
  (λm env a=>∃j f i,env=[J (.int (n:Int)),J (.lst ((dD m).map lD)),j,f,i]/\a=s) (dg 0 n) 0 [J (.int (n:Int)),J (.lst [.lst []]),Y,Y,Y] s ⟨Y,Y,Y,rfl,rfl⟩ (λm env a d ⟨j,f,i,u,B⟩ hd=>by
   rw[o0]at u ⊢;subst u B;obtain⟨rfl,F⟩:=vo hd;have C:=HH m ⋯;obtain⟨l,q⟩:=Qn (n:=n) C λq y=>by have:=Mo y;lia
   refine⟨[J (.int (n:Int)),J (.lst ((dD m).map lD)),J (.int (m:Int)),f,i],[J (.int (n:Int)),J (.lst ((dD (m+1)).map lD)),J (.int (m:Int)),J (.lst ((dD (m+1)).map lD)),l],a,rfl,?_,_,_,_,rfl,rfl⟩;rw[L7 (env':=[J (.int (n:Int)),J (.lst ((dD m).map lD)),J (.int (m:Int)),J (.lst ((dD (m+1)).map lD)),l]) (s2:=a) (by simp) q rfl]
   rfl)
 rw[ff,o0,E]at e;rw[qy (by rfl)];delta dI;rw[show i_ 5 [D.int (n:Int)]=[J (.int (n:Int)),Y,Y,Y,Y]from rfl];rw[ai,aR];simp only[cD,ah,ao,Pb,xv,t0,if_true,pk,show(0+1:Nat)<=100000 by decide,Pg,n6,PU.af];rw[ai,dL,fh,ah];simp only[am,Pb,ao];rw[qg ⋯,z_,Pf,Pg];refine(congrArg (λz:PS=>(z.then _).fin) e).trans ?_;rfl
def eq_str{neg:Bool}{x:Str}(a:PyData.strOk x=I):Cv neg (.str x) (.str x)=J (.bl (!neg)):=by cases neg<;>simp[Cv,py,zI,SeqAt.shaped,PyData.canLay0,PyData.depth,PyData.eqv,a]
def Co{n:Nat}{a:WP}{f:WN}(w:h8 n a):∀k∈a,k∈aA a f:=λk i=>by
 delta aA;rw[(cS _).mem_iff,SetT.gA];exact(o6 _).mpr ⟨0,t0 _,i⟩
def uQ(p:WN->Bool):∀l:WP,l.length=(l.filter p).length+(l.filter λx=>!p x).length
 |[]=>rfl
 |x::l=>by
  have:=uQ p l
  cases z:p x<;>simp[z]<;>lia
def uV{n:Nat}{a:WP}{qs:WN}(w:h8 n a):(aA a qs).length=a.length+(fo a qs).length:=by
 have wf:=dw (qs:=qs) w;have f:=uQ (λk=>decide (k∈a)) (aA a qs);have i:((aA a qs).filter λk=>decide (k∈a)).Perm a:=(Qx (wf.nd.filter _) w.nd).mpr λk=>by
  rw[wl,decide_eq_true_eq];exact⟨λh=>h.2,λh=>⟨Co w k h,h⟩⟩
 rw[i.length_eq]at f;exact f
abbrev VN:Xd []:=(au (n7 (eM (xB (aj bF (ab (aa 1) (ab (aa 2) (ab (aa 4) a_)))))) (aO (xC (.bl T))) im)
 (aG 3 (jj jf (ab (aa 3) (ab (ac eL (jj bV (ab (ac il (aj cM (ab (aa 1) (ab (aa 4) a_))) (xC (.int 1))) a_)) (jj bV (ab (ac il (aa 1) (xC (.int 1))) a_))) a_)))))
def B1{n:Nat}{a:WP}{f0:Int}{z0 z4 z5 z6:WC}{s:g_}(w:h8 n a)(L:n<=12):∃(f:Int)(j:WC),D_ (iw 4:Xg []).p VN.p ((dD n).map lD) [z0,J (ae n a),J (bg n a),J (.int f0),z4,z5,z6] s=.nx [z0,J (ae n a),J (bg n a),J (.int f),j,z5,z6] s/\(∀i∈dD n,f<=(fo a i).length)/\(f=f0\/∃i∈dD n,f=(fo a i).length):=by
 obtain⟨C,l,e,f,j,rfl,P,u,y⟩:=di (g:=(iw 4:Xg []).p) (b:=VN.p)
  (λm env l=>∃(f:Int)(j:WC),env=[z0,J (ae n a),J (bg n a),J (.int f),j,z5,z6]/\l=s/\(∀i∈(dD n).take m,f<=(fo a i).length)/\(f=f0\/∃i∈dD n,f=(fo a i).length)) ((dD n).map lD) 0 [z0,J (ae n a),J (bg n a),J (.int f0),z4,z5,z6] s ⟨f0,z4,rfl,rfl,by simp,.inl rfl⟩ (λm env l d ⟨f,j,O,G,u,y⟩ hd=>by
   rw[o0]at u ⊢;subst O G;rw[oe,tr]at hd;obtain⟨i,eq,rfl⟩:=hd;have E:=wj eq;have o:Ord n i:=⟨L,qI n i E⟩;have r:=mL (s:=l) w o;have M:=lM (s:=l) w o;have Q:=uV (qs:=i) w;have H:∀a:WP,il.p (ae n a) (.int 1)=J (.tup (a.map kD)):=λ_=>rfl;have F:(dD n).take (m+1)=(dD n).take m++[i]:=by rw[Er,eq];rfl
   refine⟨[z0,J (ae n a),J (bg n a),J (.int f),J (lD i),z5,z6],[z0,J (ae n a),J (bg n a),J (.int (if((fo a i).length:Int)<f then((fo a i).length:Int)else f)),J (lD i),z5,z6],l,rfl,?_,_,_,rfl,rfl,λq B=>?_,?_⟩
   .rw[ai,bp];simp![jU,dA,aI,r,Pl,ET,Pg,nw,if_false,bM,PU.af];rw[aR];simp![bS,aE,aI,M,bz,aS,H,Pf,wD,oF,r9,xY,Pg,n6,og];rw[show((aA a i).length:Int)-(a.length:Int)=((fo a i).length:Int) by lia]
   .rw[F]at B;rcases ml.mp B with h|h
    .have:=u q h
     split<;>lia
    .rw[MK.mp h]
     split<;>lia
   .by_cases z:((fo a i).length:Int)<f
    .rw[c_ z];exact .inr ⟨i,E,rfl⟩
    .rw[f_ z];exact y)
 rw[oF,o0,Ia]at u;rw[P]at e;exact⟨f,j,e,u,y⟩
def uo{s:g_}:∃s',bo.p [.pen] s=.ok (.bl I) s':=by
 obtain⟨d,s0,d0,d1,Q⟩:=gM (s:=s) (size:=8) (by decide) (by decide);obtain⟨a,hm,em⟩:∃a:Nat,a<=5/\(4:Int)+(if decide (d=0)=I then 1 else 0)=(a:Int):=by
  by_cases z:d=0
  .exact⟨5,⋯,by simp[z]⟩
  .exact⟨4,⋯,by simp[z]⟩
 obtain⟨n,i,j,P,hn,w⟩:=IW (most:=a) (s:=s0) ⋯;have n12:n<=12:=by lia
 have nr:jL.p [ae n i] j=.ok (bg n i) j:=AU w;have G:il.p (ae n i) (.int 0)=J (.int (n:Int)):=rfl;have i1:∀i:WP,il.p (ae n i) (.int 1)=J (.tup (i.map kD)):=λ_=>rfl;have F:(d_ n).length=n:=by simp[d_]
 have E:=oK (ns:=d_ n) (s:=j) ⋯;rw[F]at E;obtain⟨f,O,e,X,R⟩:=B1 (f0:=((aM (d_ n) n).length:Int)) (z0:=J .pen) (z4:=Y) (z5:=Y) (z6:=Y) (s:=j) w n12
 have pre:bo.p [.pen] s=(((au (sP (aj cm (ab (aa 1) a_)) (vf (mq (iw 5) (mq (iw 6) u_)) 2))
 (au (n7 (xB (ac G4 (aa 3) (xC (.int 0)))) (aO (dY (ac o_ (aa 5) (xC (.str "ring"))) (ac (z9 T) (aj eT (ab (aa 1) (ab (aa 6) a_))) (xC (.bl I))))) im)
 (aO (dY (ac o_ (aa 5) (xC (.str "order"))) (ac o_ (jj bV (ab (ac il (aj cM (ab (aa 1) (ab (aa 6) a_))) (xC (.int 1))) a_)) (jj bV (ab (ac il (aa 1) (xC (.int 1))) a_)))))):Xd []).p [J .pen,J (ae n i),J (bg n i),J (.int f),O,Y,Y] j).fin):=by rw[pU (by rfl)];delta du;rw[show i_ 7 [D.pen]=[J .pen,Y,Y,Y,Y,Y,Y]from rfl];rw[ai,aR];simp![aI,aE,bz,aS,bS,Q,qS,m4,nw,if_false,Pf,Ls,sU];rw[em];simp only[P,Pg,n6,og,PU.af];rw[ai,aR];simp![aI,nr,Pg,n6,og,PU.af];rw[ai,aR];simp![bS,aI,aE,bz,aS,G,Pf];rw[oo ⋯,z_,dU];dsimp![E,lc,oF,Pg,n6,og,PU.af];rw[ai,dL];simp![dq,aI,aE,bz,aS,G,Pf,wn (show n<=5 by lia),dX,Pg];refine(congrArg (λz:PS=>(z.then _).fin) e).trans ?_;rw[PU.af]
 refine⟨j,?_⟩;rw[pre];have L:∀{x:Str},PyData.strOk x=I->Cv T (.str x) (.str x)=J (.bl I):=λhs=>eq_str (neg:=T) hs;rcases w9 (s:=j) w with⟨l,u,B⟩|⟨u,nb⟩
 .have r:=AC u;have S:=(B.yes (s:=j) w).2;have fp:0<f:=by
   rcases R with h|⟨qs,Z,h⟩
   .have l4:=B.l4;have nl:l.length<=n:=by
     have:=List.Nodup.length_le_of_subset (l₂:=d_ n) B.g.nd λx hx=>aH.mpr (B.g.bd x hx)
     lia
    have:[(0:Int),1]∈aM (d_ n) (d_ n).length:=(jp (jw n)).mpr ⟨aH.mpr ⟨⋯,⋯⟩,aH.mpr ⟨⋯,⋯⟩,⋯⟩
    rw[F]at this
    have:=RN this
    lia
   .have:=QK.mpr (A7 w ⟨n12,qI n qs Z⟩ B)
    lia
  rw[ai,wt];simp![aI,r,Pg,Ab,pk,xv,if_true,zM,yS,Aa,zd,n6,og,PU.af];rw[ai,bp];simp![dA,aE,bz,aS,nk,IM,By,fp,decide_true,Pf,Pl,Pg,if_true,bf,k9,qS,L (x:="ring") (by decide +kernel),aI,S,show(z9 T).p (.bl I) (.bl I)=J (.bl I)from rfl,PU.g7,PU.bY]
 .obtain⟨l,eo,C,pg⟩:=Qk (s:=j) w n12 λH ne W=>Jb w nb H.length H (i4 _) ne W;have r:=BU u eo;have mg:=Cq w C pg;have y:=uV (qs:=l) w;have fl:=lM (s:=j) w C;have M:=X l (yo n l C.pm);rw[mg]at M y;have nf:¬(0:Int)<f:=by simp at M;lia
  have U:Cv T (.int ((aA i l).length:Int)) (.int (i.length:Int))=J (.bl I):=by rw[m4];simp at y;simp[y]
  rw[ai,wt];simp![aI,r,Pg,Ab,pk,xv,if_true,zM,yS,Aa,zd,n6,og,PU.af];rw[ai,bp];dsimp![dA,aE,av,am,bz,aS,nk,By,nf,decide_false,Pl,Pg,nw,if_false,bM,PU.af];simp![bf,k9,aE,bz,nk,aS,qS,L (x:="order") (by decide +kernel),Pf,Pl,if_true,bS,aI,fl,i1,wD,oF,U,Pg,PU.bY]
def yB{ns:WN}{k:Nat}(a:k<ns.length):l0 (ns.map PV.int) (k:Int)=J (.int ns[k]):=L2.cG (by simp[a])
def uZ{h:MH}:p0 (.int 10) (.int 18) h=.ok (.int (10^18)) h:=vC (by decide)
def Cs{h:MH}:p0 (.int 10) (.int 15) h=.ok (.int (10^15)) h:=vC (by decide)
def wO{h:MH}{ns:WN}{k:Nat}(Z:k<64):∃m c:Int,dR [.frl (ns.map .int),.int k] h=.ok (.loc h.length) (h++[.lst [.int m,.int c,.int 0]]):=by
 have C:∀{i:Int}{h:MH},j3 (.int 7919) (.int i) h=.ok (.int (7919*i)) h:=jy (by decide);have P:∀{i:Int}{h:MH},j3 (.int 48271) (.int i) h=.ok (.int (48271*i)) h:=jy (by decide);have O:∀{i:Int}{h:MH},j3 (.int 40009) (.int i) h=.ok (.int (40009*i)) h:=jy (by decide);have H:∀{a b c:PV}{h:MH},pq [a,b,c] h=.ok (.loc h.length) (h++[.lst [a,b,c]]):=qV (by simp)
 have fin:∀cell:Int,∃m c:Int,(bJ (Ec (mB (aC EI (t_ DO (aq (ar 2) ib)) (aC p0 (mC (.int 10)) (mC (.int 18))))) (cr (gL (aq (mC (.int 1)) (aq (t_ DO (aq (ar 2) ib)) (aq (mC (.int 0)) ib))))) l7)
   (cr (gL (aq (mC (.int 0)) (aq (aC k4 (aC lf (ar 2) (mC (.int 2147483587))) (aC j3 (mC (.int 40009)) (ar 1))) (aq (mC (.int 0)) ib)))))) [J (.frl (ns.map .int)),J (.int k),J (.int cell)] h=.rt (.loc h.length) (h++[.lst [.int m,.int c,.int 0]]):=λcell=>by
  by_cases z:(10:Int)^18<=(if cell<0 then -cell else cell)
  .exact⟨1,(if cell<0 then -cell else cell),by simp[uZ,H,z,-Int.reducePow]⟩
  .exact⟨0,cell.fmod 2147483587+40009*k,by simp[uZ,H,z,O,ie,-Int.reducePow]⟩
 have l:∀cell:Int,∃m c:Int,((bJ (Ec (mB (aC EI (t_ DO (aq (ar 2) ib)) (aC p0 (mC (.int 10)) (mC (.int 18))))) (cr (gL (aq (mC (.int 1)) (aq (t_ DO (aq (ar 2) ib)) (aq (mC (.int 0)) ib))))) l7)
   (cr (gL (aq (mC (.int 0)) (aq (aC k4 (aC lf (ar 2) (mC (.int 2147483587))) (aC j3 (mC (.int 40009)) (ar 1))) (aq (mC (.int 0)) ib)))))) [J (.frl (ns.map .int)),J (.int k),J (.int cell)] h).fin=.ok (.loc h.length) (h++[.lst [.int m,.int c,.int 0]]):=λcell=>by
  obtain⟨m,c,q⟩:=fin cell;exact⟨m,c,by rw[q];rfl⟩
 have j:∀cell:Int,(bJ (bN 2 (aC k4 (aC j3 (mC (.int 7919)) (ar 1)) (mC (.int 11))))
 (Ec (mB (aC EZ (ar 1) (t_ CO (aq (t_ p6 (aq (ar 0) ib)) (aq (mC (.int 63)) ib))))) (bN 2 (aC bG (ar 0) (ar 1))) (Ec (mB (aC E0 (t_ p6 (aq (ar 0) ib)) (mC (.int 0)))) (bN 2 (aC k4 (aC lf (aC bG (ar 0) (aC lf (ar 1) (t_ CO (aq (t_ p6 (aq (ar 0) ib)) (aq (mC (.int 63)) ib))))) (aC p0 (mC (.int 10)) (mC (.int 15)))) (aC j3 (mC (.int 48271)) (ar 1)))) l7))) [J (.frl (ns.map .int)),J (.int k),Y] h=.nx [J (.frl (ns.map .int)),J (.int k),J (.int cell)] h ->
   ∃m c:Int,d3 3 2 y3 [.frl (ns.map .int),.int k] h=.ok (.loc h.length) (h++[.lst [.int m,.int c,.int 0]]):=λcell q=>by
  obtain⟨m,c,U⟩:=l cell;refine⟨m,c,(jt (by rfl)).trans ?_⟩;rw[<-U];delta y3;simp only[gr]at q ⊢;have X:bZ 3 [PV.frl (ns.map .int),PV.int k]=[J (.frl (ns.map .int)),J (.int k),Y]:=rfl;rw[X];generalize (bN 2 (aC k4 (aC j3 (mC (.int 7919)) (ar 1)) (mC (.int 11)))) [J (.frl (ns.map .int)),J (.int k),Y] h=R at q ⊢
  cases R with
  |nx Z1 E =>
   simp only[MM.af,gr]at q ⊢;rw[q];rfl
  |_=>cases q
 have u:∃f:Nat,(if(63:Int)<(ns.length:Int)then(63:Int)else(ns.length:Int))=(f:Int)/\f<=ns.length/\(0<ns.length->0<f):=by
  by_cases z:(63:Int)<(ns.length:Int)
  .exact⟨63,by rw[c_ z];rfl,⋯,⋯⟩
  .exact⟨ns.length,by rw[f_ z],⋯,⋯⟩
 obtain⟨f,B,F,r⟩:=u;by_cases E:k<f
 .refine j (ns[k]'⋯) ?_;simp[C,B,E,yB (show k<ns.length by lia)]
 .by_cases y:0<ns.length
  .have G:(f:Int)≠0:=by have:=r y;lia
   have M:k % f<ns.length:=oy (QQ _ (r y)) F;have W:(k:Int).fmod (f:Int)=((k % f:Nat):Int):=by rw[Qz _ ⋯];rfl
   refine j ((ns[k % f]'M).fmod (10^15)+48271*k) ?_;have S:((10:Int)^15)≠0:=by decide
   have L:=yB M;rw[Int.natCast_emod]at L;simp[C,B,E,y,ie G,W,L,Cs,ie S,P,-Int.reducePow]
  .have Q:ns=[]:=Je.mp ⋯;refine j (7919*k+11) ?_;have z:¬((k:Int)<(f:Int)):=by lia
   simp[C,B,z,y]
def yY{lo:Int}{c i:Nat}{x:PV}(h:(bI lo c)[i]?=J x):x=.int (lo+i)/\i<c:=by
 unfold bI at h;rw[oe,tr]at h;obtain⟨k,f,rfl⟩:=h
 have:=kx.mp f
 obtain⟨a,b⟩:=this;simp at a b;subst b;exact⟨rfl,a⟩
def KS(Z:ly)(o:SOut):Prop:=match o with
 |.nx a _=>a.length=Z.length/\a[0]?=Z[0]?
 |.bk a _=>a.length=Z.length/\a[0]?=Z[0]?
 |.ct a _=>a.length=Z.length/\a[0]?=Z[0]?
 |_=>True
def KS.of{Z f:ly}{o:SOut}(h:f.length=Z.length/\f[0]?=Z[0]?)(k:KS f o):KS Z o:=by
 cases o with
 |nx a b=>exact⟨k.1.trans h.1,k.2.trans h.2⟩
 |bk a b=>exact⟨k.1.trans h.1,k.2.trans h.2⟩
 |ct a b=>exact⟨k.1.trans h.1,k.2.trans h.2⟩
 |_=>trivial
def K0(m:mh):Prop:=∀Z h,KS Z (m Z h)
def Mp:K0 l7:=λZ h=>⟨rfl,rfl⟩
def Qo{α:Type}{m:Mx α}{k:α->mh}(f:∀v,K0 (k v)):K0 (zi m k):=λZ h=>by
 delta zi
 cases m Z h with
 |ok v a=>exact f v Z a
 |_=>trivial
def Qp{m:Mx PV}:K0 (cr m):=λZ h=>by
 delta cr
 cases m Z h with
 |ok v a=>trivial
 |_=>trivial
def Qq{i:Nat}{v:PV}{Z:ly}(h:i≠0):(Z.set i (J v)).length=Z.length/\(Z.set i (J v))[0]?=Z[0]?:=⟨by simp,n9 h⟩
def Qr{i:Nat}{m:Mx PV}(h:i≠0):K0 (bN i m):=Qo λv Z a=>Qq h
def Qs{a b:mh}(l:K0 a)(j:K0 b):K0 (bJ a b):=λZ h=>by
 have:=l Z h
 delta bJ
 cases e:a Z h with
 |nx i f=>rw[e]at this;exact KS.of this (j i f)
 |bk i f=>rw[e]at this;exact this
 |ct i f=>rw[e]at this;exact this
 |_=>trivial
def UC{c:Mx Bool}{a b:mh}(f:K0 a)(i:K0 b):K0 (Ec c a b):=Qo λx=>by
 cases x
 .exact i
 .exact f
section
variable{ws:WQ}
def Mq{a b:Xd ws}(f:K0 a.m)(i:K0 b.m):K0 (au a b).m:=Qs f i
def Mr{i:Nat}{e:Xe ws}{f:ws.contains i=T}{a:e.fz=I}(h:i≠0):K0 (aG i e f a).m:=Qr h
def Qt{t:Xt ws}{e:Xe ws}:K0 (n7 t (aO e) im).m:=UC Qp Mp
end
def Ms{s:g_}:∃f C,iI.p [Y,Y,J .pen,Y] s=.nx f C:=by obtain⟨n,a,i,z,F,w⟩:=IW (most:=12) (s:=s) (by decide);obtain⟨E,l,u,o⟩:=yd (n:=n) (s:=i) ⋯;have j:fG.p [.pen,.int 12] s=.ok (ae n a) i:=z;have y:il.p (ae n a) (.int 0)=J (.int (n:Int)):=rfl;have B:jL.p [ae n a] i=.ok (bg n a) i:=AU w;have r:=mL (s:=l) w o;refine⟨[Y,Y,J .pen,J (ae n a)],l,?_⟩;delta iI;rw[ai,aR];simp![aI,bz,aS,j,Pg,n6,og,PU.af];rw[bp];simp![jU,dA,aI,B,aE,bz,aS,y,Pf,u,r,Pl,ET,Pg,nw,if_false,bM]
def Mt:K0 iI.m:=by delta iI;exact Mq (Mr (by decide)) Qt
def Qu{Z:ly}{x:Option PV}(h:Z.length=4)(a:Z[0]?=J x):∃u r i,Z=[x,u,r,i]:=by
 match Z,h with
 |[y,f,j,l],_ =>
  cases a;exact⟨f,j,l,rfl⟩
def Mu{h:MH}{a b:Int}{z0 z1 a3:Option PV}:∃f r,iI.m [z0,z1,J (.loc h.length),a3] (h++[.lst [.int a,.int b,.int 0]])=.nx f r/\f.length=4/\f[0]?=J z0:=by
 have pn:cP (h++[.lst [.int a,.int b,.int 0]]) h.length (a,b,0):=qW;obtain⟨y,B,q⟩:=Ms (s:=(a,b,0));have c:PU.Cx h.length (h++[.lst [.int a,.int b,.int 0]]) (h++[MO.lst [.int a,.int b,.int 0]]).length [h.length] [h.length] [] [z0,z1,J (.loc h.length),a3] [Y,Y,J .pen,Y] (a,b,0):=by
  refine⟨λo l=>?_,λ_ h=>h,λo l=>?_,by simp,i4 _,pn,⟨rfl,λi d e _=>?_,λi d e u=>by cases u⟩⟩
  .have:o=h.length:=by simpa using l
   subst this;simp
  .have:o=h.length:=by simpa using l
   subst this;simp
  .match i,e with
   |0,e=>cases e
   |1,e=>cases e
   |2,e=>cases e;exact⟨_,rfl,rfl⟩
   |3,e=>cases e
   |n+4,e=>simp at e
 have k:=iI.ok c λi j u _ _ d _ _ e=>by cases u
 rw[q]at k;obtain⟨f,r,e,z,_,C,_⟩:=k;have kk:=Mt [z0,z1,J (.loc h.length),a3] (h++[.lst [.int a,.int b,.int 0]]);rw[e]at kk;exact⟨f,r,e,kk.1,kk.2⟩
def zh{h:MH}{p:Nat}{s:g_}(pn:cP h p s):∃a,bo.m [.loc p] h=.ok (.bl I) a:=by
 obtain⟨i,q⟩:=uo (s:=s)
 have k:=bo.ok (O:=[p]) (ds:=[.pen]) (λo f=>by
  have:o=p:=by simpa using f
  subst this;exact bj pn) (by simp) pn ⟨_,_,rfl,rfl,rfl⟩
 rw[q]at k;obtain⟨v,a,e,_,_,r,_⟩:=k;exact⟨a,by rw[e];rw[show v=PV.bl I from r]⟩
def C3:Fc=bJ (Ec (pI (mB (cj bo.m (aq (cj dR (aq (ar 0) (aq (mC (.int 0)) ib))) ib)))) (cr (mC (.bl T))) l7)
 (bJ (nN (oC (aq (mC (.int 1)) (aq (cj fB (aq (ar 0) (aq (mC (.int 8)) ib))) ib))) (CL 1) (bJ (bN 2 (cj dR (aq (ar 0) (aq (ar 1) ib)))) iI.m))
 (cr (mC (.bl I)))):=rfl
def Ff(ns:WN)(hn:ns.length<=63):∃C,EC [.frl (ns.map .int)] []=.ok (.bl I) C:=by
 delta EC;rw[jt (by rfl),C3];have U:bZ 4 [PV.frl (ns.map .int)]=[J (.frl (ns.map .int)),Y,Y,Y]:=rfl;rw[U];obtain⟨a,b,E⟩:=wO (h:=[]) (ns:=ns) (k:=0) ⋯;obtain⟨l,R⟩:=zh (h:=[MO.lst [.int a,.int b,.int 0]]) (p:=0) (s:=(a,b,0)) (by show [MO.lst [PV.int a,.int b,.int 0]][0]?=J (.lst [.int a,.int b,.int 0]);rfl);have E6:(Ec (pI (mB (cj bo.m (aq (cj dR (aq (ar 0) (aq (mC (.int 0)) ib))) ib)))) (cr (mC (.bl T))) l7) [J (.frl (ns.map .int)),Y,Y,Y] []=.nx [J (.frl (ns.map .int)),Y,Y,Y] l:=by have f:dR [.frl (ns.map .int),.int 0] []=.ok (.loc 0) [MO.lst [.int a,.int b,.int 0]]:=E;simp -implicitDefEqProofs [f,R]
 obtain⟨c,h4,hc,F⟩:∃c:Nat,1<=c/\c<=8/\(aq (mC (.int 1)) (aq (cj fB (aq (ar 0) (aq (mC (.int 8)) ib))) ib)) [J (.frl (ns.map .int)),Y,Y,Y] l=.ok [.int 1,.int (c:Int)] l:=by
  have r:fB [.frl (ns.map .int),.int 8] l=.ok (.int (if(if(8:Int)<(ns.length:Int)then 8 else(ns.length:Int))>4 then(if(8:Int)<(ns.length:Int)then 8 else(ns.length:Int))else 4)) l:=by delta fB;rw[jt (by rfl)];delta q0;simp[bZ,List.replicate]
  obtain⟨c,e⟩:=dG (i:=(if(if(8:Int)<(ns.length:Int)then 8 else(ns.length:Int))>4 then(if(8:Int)<(ns.length:Int)then 8 else(ns.length:Int))else 4)) (by(repeat' split)<;>lia);refine⟨c,?_,?_,?_⟩
  .have:(1:Int)<=c:=by rw[<-e];(repeat' split)<;>lia
   lia
  .have:(c:Int)<=8:=by rw[<-e];(repeat' split)<;>lia
   lia
  .rw[e]at r;simp -implicitDefEqProofs [r]
 have r:=Tl F (by decide) (by decide) ⋯ ⋯;have S:((c:Int)-1).toNat=c-1:=by lia
 rw[S]at r;obtain⟨X,C,e,y,u⟩:=r6 (it:=⟨bI 1 (c-1),[]⟩) (g:=CL 1) (b:=bJ (bN 2 (cj dR (aq (ar 0) (aq (ar 1) ib)))) iI.m)
  (λj Z h=>Z.length=4/\Z[0]?=J (J (.frl (ns.map .int)))) (bI 1 (c-1)) 0 [J (.frl (ns.map .int)),Y,Y,Y] l ⟨rfl,rfl⟩ (λ_ _ _ _=>sE.mpr trivial) (λm Z h x ⟨W,P⟩ Q=>by
   obtain⟨a1,O,B,rfl⟩:=Qu W P;obtain⟨rfl,hm⟩:=yY Q;obtain⟨a,b,E⟩:=wO (h:=h) (ns:=ns) (k:=1+m) ⋯;obtain⟨M,G,e2,L,H⟩:=Mu (h:=h) (a:=a) (b:=b) (z0:=J (.frl (ns.map .int))) (z1:=J (.int (1+(m:Int)))) (a3:=B);refine⟨_,_,M,G,rfl,?_,L,H⟩;rw[gr];have f:dR [.frl (ns.map .int),.int (1+(m:Int))] h=.ok (.loc h.length) (h++[.lst [.int a,.int b,.int 0]]):=by
    have:((1+m:Nat):Int)=1+(m:Int):=by lia
    rw[<-this];exact E
   have e1:bN 2 (cj dR (aq (ar 0) (aq (ar 1) ib))) [J (.frl (ns.map .int)),J (.int (1+(m:Int))),O,B] h=.nx [J (.frl (ns.map .int)),J (.int (1+(m:Int))),J (.loc h.length),B] (h++[.lst [.int a,.int b,.int 0]]):=by simp -implicitDefEqProofs [f]
   refine(congrArg (λz:SOut=>z.then _) e1).trans ?_;rw[MM.af]
   exact e2)
 obtain⟨b1,b2,b3,rfl⟩:=Qu y u;refine⟨C,?_⟩;rw[gr,E6,MM.af,gr,ym,r,ak,e,MM.af];rfl
end Law
namespace Law
open PySem.Spec PyProof.Rows L2 MM
set_option maxHeartbeats 4000000
def n8(i:Nat):Stmt:=PySem.Challenge.pw_fewfills_k51_whole_fill_by_all_orders.main.body.getD i (.Pass ⟨0,0,0,0⟩)
local macro_rules | `(tactic| contradiction)=>do let q <-[`w_var,`Pk,`TQ,`Pm,`Po,`Pw,`LL,`TR,`LM,`LN,`T8,`T9,`T_,`PY,`LV,`PL,`Pp,`Pq,`Pr,`LH,`LJ,`Hd,`Ps,`LK,`Pt,`Pu,`TU,`TV,`TW,`L0,`P4,`P5,`Ub,`Ua,`Hg,`LX,`w_tchain,`LY,`Ud,`LZ,`w_and,`P0,`w_or,`P1,`P2,`Ug,`Ue,`Uf,`Uh,`Ui,`Uj,`P7,`P8,`P6,`Uk,`Ul,`i6,`cC,`Qd,`P9,`L4,`Um,`Qb,`Uo,`w_set,`w_setO,`Qa,`w_sub,`Uc,`PZ,`C8,`CZ,`DA,`CQ,`LW,`L5,`w_pass,`P_,`Px,`Py,`Pz,`PC,`TX,`TY,`TZ,`T0,`T5,`T6,`PF,`T4,`PD,`T7,`PH,`PM,`PN,`LP,`LQ,`PJ,`PK,`LO,`He,`PP,`CP,`PQ,`LR,`Hf,`LU,`PX].foldrM (λn t=>`(tactic| first | apply $(Lean.mkIdent n) | $t:tactic)) (<-`(tactic| fail));`(tactic| (first | assumption | (with_reducible refine Qc ?_;apply Hh;assumption;(intro env h;cases env;cases h;first | rfl | with_unfolding_all rfl)) | (with_reducible refine Qc ?_;apply Hi;assumption;(intro env h;cases env;cases h;first | rfl | with_unfolding_all rfl)) | (apply L3;assumption;(intro env h;cases env;cases h;first | rfl | with_unfolding_all rfl)) | (apply L6;assumption;(intro env h;cases env;cases h;first | rfl | with_unfolding_all rfl)) | with_reducible $q:tactic | exact rfl | decide +kernel | refine λY c=>⟨?_,?_,?_⟩ | (intro _;rfl) | exact λ_ _=>rfl | exact EY _ | omega | exact⟨⟨rfl,rfl⟩,rfl,rfl,rfl⟩ | with_unfolding_all rfl) <;> contradiction)
abbrev jm:Stmt:=n8 5
abbrev jq:Stmt:=n8 7
abbrev fW:Stmt:=n8 8
abbrev ft:Stmt:=n8 9
abbrev fY:Stmt:=n8 10
abbrev gO:Stmt:=n8 11
abbrev jk:Stmt:=n8 12
abbrev fZ:Stmt:=n8 13
abbrev fR:Stmt:=n8 15
abbrev fV:Stmt:=n8 16
abbrev ir:Stmt:=n8 17
abbrev gR:Stmt:=n8 18
abbrev mz:Stmt:=n8 19
abbrev om:Stmt:=n8 21
abbrev kA:Stmt:=n8 22
abbrev fS:Stmt:=n8 23
abbrev iq:Stmt:=n8 24
abbrev kj:Stmt:=n8 25
abbrev fF:Stmt:=n8 26
abbrev iB:Stmt:=n8 27
abbrev cQ:Stmt:=n8 28
abbrev fx:Stmt:=n8 29
abbrev j5:Stmt:=n8 31
abbrev fy:Stmt:=n8 32
abbrev oT:Stmt:=n8 33
abbrev oM:Stmt:=n8 35
abbrev xl:WM:=["_law_script","_law_k","_law_cell"]
abbrev xE:WM:=["min","len","abs"]
abbrev HJ:WM:=["_law_script","_law_k"]
def HK(CU:Sc X oM)(g:Gd X xl xE k)(i:ia X)(n0:Nn X "abs")(a:Nn X "len")(f:Nn X "min"):Dr X (aB oM) y3 :=
 (kn.h (C0 (IH g 2 (Ag (aX fK (aX iS aF (kV g 1)) aF)))
 (C0 (EL (lC (Ru Iq (kV g 1) (Fb g 0 (qT g) f ng (aK (Fb g 1 m5 a mP (aK (kV g 0) bC)) (aK aF bC)))) (kn.h (El (IH g 2 (Ag (EB (kV g 0) (kV g 1)))))) (kn.h (El (EL (lC (Ru Ir (Fb g 1 m5 a mP (aK (kV g 0) bC)) aF) (kn.h (El (IH g 2 (Ag (aX fK (aX fe (EB (kV g 0) (aX fe (kV g 1) (Fb g 0 (qT g) f ng (aK (Fb g 1 m5 a mP (aK (kV g 0) bC)) (aK aF bC))))) (aX BI aF aF)) (aX iS aF (kV g 1))))))) jx))))))
 (C0 (EL (lC (Ru Iu (Fb g 2 Bv n0 Bx (aK (kV g 2) bC)) (aX BI aF aF)) (kn.h (El (E8 (Tn (jR (Ag aF) (jR (Ag (Fb g 2 Bv n0 Bx (aK (kV g 2) bC))) (jR (Ag aF) wv))))))) jx))
 (El (E8 (Tn (jR (Ag aF) (jR (Ag (aX fK (aX fe (kV g 2) aF) (aX iS aF (kV g 1)))) (jR (Ag aF) wv))))))))))
abbrev lN:Stmt:=n8 36
abbrev vj:WM:=["_law_pen_here","_law_size","_law_number","_law_drawn"]
abbrev vQ:WM:=[]
abbrev CJ:WM:=["_law_pen_here","_law_size"]
def C1(CU:Sc X lN)(g:Gd X vj vQ k)(a:ia X):Dr X (aB lN) sw :=
 (kn.h (C0 (EL (qA (aX fK (EB (kV g 0) aF) aF) (wC (kV g 0) aF)))
 (C0 (EL (lC (Ru (uD g.room) (EB (kV g 0) aF) aF) (kn.h (C0 (IH g 3 (Ag (aX fe (EB (kV g 0) aF) (kV g 1))))
 (C0 (EL (qA (aX Iv (EB (kV g 0) aF) (kV g 1)) (wC (kV g 0) aF)))
 (El (E8 (Ag (kV g 3))))))) jx))
 (C0 (IH g 2 (Ag (aX fe (aX iS (aX fK (aX fK (EB (kV g 0) aF) (aX iS aF (EB (kV g 0) aF))) aF) aF) aF)))
 (C0 (IH g 2 (Ag (aX fe (aX iS (kV g 2) (aX fK (aX fK (aX fe (kV g 2) aF) (EB (kV g 0) aF)) aF)) aF)))
 (El (E8 (Ag (aX fe (aX Iv (aX fe (aX iS (kV g 2) (aX fK (aX fe (kV g 2) aF) aF)) aF) aF) (kV g 1))))))))))
abbrev ji:Stmt:=n8 37
abbrev qm:WM:=["_law_script","_law_most"]
abbrev rg:WM:=["max","min","len"]
abbrev yQ:WM:=["_law_script","_law_most"]
def zQ(CU:Sc X ji)(g:Gd X qm rg k)(j:ia X)(f:Nn X "len")(i:Nn X "min")(a:Nn X "max"):Dr X (aB ji) q0 :=
 (kn.h (El (E8 (Ag (Fb g 0 (AV g) a u6 (aK aF (aK (Fb g 1 (qT g) i ng (aK (Fb g 2 m5 f mP (aK (kV g 0) bC)) (aK (kV g 1) bC))) bC)))))))
abbrev kE:Stmt:=n8 38
abbrev kh:Stmt:=n8 39
abbrev km:Stmt:=n8 40
abbrev nT:Stmt:=n8 41
abbrev sW:Stmt:=n8 42
abbrev lR:Stmt:=n8 43
abbrev vX:WM:=["_law_web_here","_law_found","_law_a","_law_b"]
abbrev wI:WM:=["range"]
abbrev DJ:WM:=["_law_web_here"]
def CW(CU:Sc X lR)(g:Gd X vX wI k)(i:ia X)(n12:Nn X "sorted")(a:Nn X "range"):Dr X (aB lR) zX :=
 (kn.h (C0 (EL (V7 g CU 1 ["_law_v"] [] [] [] (V4 g 0 a (aK (EB (kV g 0) aF) bC)) λf y g=>⟨(Pc g 0),sS,(Bg bC)⟩))
 (C0 (EL (v3 g (vV (EB (kV g 0) aF)) (Bn g (pX (Pc g 2) (pX (Pc g 3) xQ))) (kn.h (C0 (EL (oS (y9 nD mZ ni (EB (kV g 1) (kV g 2)) (aK (kV g 3) bC))))
 (El (EL (oS (y9 nD mZ ni (EB (kV g 1) (kV g 3)) (aK (kV g 2) bC)))))))))
 (El (E8 (Ag (V6 g CU ["_law_some"] [] ["sorted"] [] (vV (kV g 1)) λf y g=>⟨(Pc g 0),sS,(Fb g 0 tL (y.n n12) sV (aK (kV g 0) bC))⟩)))))))
abbrev kz:Stmt:=n8 44
abbrev fj:Stmt:=n8 45
abbrev kq:Stmt:=n8 46
abbrev oB:Stmt:=n8 47
abbrev eO:Stmt:=n8 48
abbrev eQ:Stmt:=n8 49
abbrev qJ:Stmt:=n8 50
abbrev Jc:WM:=["_law_script","_law_k","_law_pen_here","_law_web_here"]
abbrev Jd:WM:=["_law_small_right","_law_pen","range","_law_rounds","_law_web","_law_order_right","_law_near","_law_order"]
abbrev Fg:WM:=["_law_script"]
def Qw(CU:Sc X qJ)(g:Gd X Jc Jd k)(z:ia X)(j:E4 X "_law_rounds" ["_law_script","_law_most"] fB k)(f:E4 X "_law_order" ["_law_pen_here","_law_n"] dS.m k)(u:E4 X "_law_near" ["_law_web_here"] hV k)(i:E4 X "_law_order_right" ["_law_web_here","_law_near_here","_law_order_here"] bF.m k)(r:E4 X "_law_web" ["_law_pen_here","_law_most"] fG.m k)(a:E4 X "_law_pen" ["_law_script","_law_k"] dR k)(y:E4 X "_law_small_right" ["_law_pen_here"] bo.m k)(l:Nn X "range"):Dr X (aB qJ) Fc :=
 (kn.h (C0 (EL (lC (vH (uO (IS g 0 y (aK (IS g 1 a (aK (kV g 0) (aK aF bC))) bC)))) (kn.h (El (E8 (Ag uF)))) jx))
 (C0 (EL (v3 g (V5 g 2 l (aK aF (aK (IS g 3 j (aK (kV g 0) (aK aF bC))) bC))) (Pc g 1) (kn.h (C0 (IH g 2 (Ag (IS g 1 a (aK (kV g 0) (aK (kV g 1) bC)))))
 (C0 (IH g 3 (Ag (IS g 4 r (aK (kV g 2) (aK aF bC)))))
 (El (EL (lC (vH (uO (IS g 5 i (aK (kV g 3) (aK (IS g 6 u (aK (kV g 3) bC)) (aK (IS g 7 f (aK (kV g 2) (aK (EB (kV g 3) aF) bC))) bC)))))) (kn.h (El (E8 (Ag uF)))) jx))))))))
 (El (E8 (Ag uF))))))
def Mw:js "law" qJ Fg:=λ_ _ _ _ _ _=>Rt λ_=>rfl
abbrev lF:WM:=["thing"]
def yZ{K:h_}(c:Wc X P w K mg base lF lF 0 (ag jm))(d:ia X)(i:Zn K "isinstance")(a:Zn K "bool")(f:Zn K "int"):kn X (aB jm) gG.m:=by delta gG;apply i6<;>contradiction
abbrev lH:WM:=["n","thing"]
def zS{K:h_}(c:Wc X P w K mg base lH lH 1 (ag jq))(d:ia X)(a:FnAt P w K mg base "is_whole" Ps0 gN.m 1):kn X (aB jq) gS.m:=by delta gS;apply i6<;>contradiction
abbrev i7:WM:=["n","thing"]
def uw{K:h_}(c:Wc X P w K mg base i7 i7 2 (ag fW))(d:ia X)(a:FnAt P w K mg base "is_place" Ps1 cc.m 2):kn X (aB fW) d7.m:=by delta d7;apply i6<;>contradiction
abbrev g8:WM:=["n","things","thing"]
def rY{K:h_}(c:Wc X P w K mg base g8 g8 3 (ag ft))(d:ia X)(a:FnAt P w K mg base "check_place" Ps2 aU.m 3):kn X (aB ft) dN.m:=by delta dN;apply i6<;>contradiction
abbrev jd:WM:=["pairs"]
def ut{K:h_}(c:Wc X P w K mg base jd jd 0 (ag fY))(d:ia X)(a:Zn K "sorted")(i:Zn K "set")(j:Zn K "max")(l:Zn K "min")(f:Zn K "tuple"):kn X (aB fY) d6.m:=by delta d6;apply i6<;>contradiction
abbrev jG:WM:=["web","v","below","above"]
def u0{K:h_}(c:Wc X P w K mg base jG jG 3 (ag gO))(d:ia X)(a:FnAt P w K mg base "check_place" Ps2 aU.m 3):kn X (aB gO) fb.m:=by delta fb;apply cC<;>contradiction
abbrev lB:WM:=["web","thing"]
def zZ{K:h_}(c:Wc X P w K mg base lB lB 2 (ag jk))(d:ia X)(a:Zn K "sorted")(i:Zn K "list")(f:Zn K "range")(j:Zn K "all")(l:Zn K "isinstance")(r:FnAt P w K mg base "is_place" Ps1 cc.m 2):kn X (aB jk) gI.m:=by delta gI;apply cC<;>contradiction
abbrev iY:WM:=["web","thing"]
def uc{K:h_}(c:Wc X P w K mg base iY iY 3 (ag fZ))(d:ia X)(a:FnAt P w K mg base "is_order" Ps6 gP.m 3):kn X (aB fZ) eE.m:=by delta eE;apply i6<;>contradiction
abbrev je:WM:=["places","pairs","k","a"]
def ua{K:h_}(c:Wc X P w K mg base je je 0 (ag fR))(d:ia X)(a:Zn K "enumerate"):kn X (aB fR) i9.m:=by delta i9;apply cC<;>contradiction
abbrev jc:WM:=["web","left","v"]
def uh{K:h_}(c:Wc X P w K mg base jc jc 4 (ag fV))(d:ia X)(a:FnAt P w K mg base "neighbours" Ps5 aY.m 4)(f:FnAt P w K mg base "pairs_among" Ps8 cN.m 1):kn X (aB fV) eD.m:=by delta eD;apply i6<;>contradiction
abbrev kJ:WM:=["web","left","v"]
def w8{K:h_}(c:Wc X P w K mg base kJ kJ 5 (ag ir))(d:ia X)(a:FnAt P w K mg base "pairs_round" Ps9 ci.m 5):kn X (aB ir) fL.m:=by delta fL;apply i6<;>contradiction
abbrev jM:WM:=["web","left","v","others"]
def wE{K:h_}(c:Wc X P w K mg base jM jM 5 (ag gR))(d:ia X)(a:FnAt P w K mg base "pairs_round" Ps9 ci.m 5)(i:FnAt P w K mg base "rising_once" Ps4 bm.m 1)(f:FnAt P w K mg base "check_places" Ps3 cV.m 4)(j:FnAt P w K mg base "check_place" Ps2 aU.m 3):kn X (aB gR) eS.m:=by delta eS;apply cC<;>contradiction
abbrev pz:WM:=["web","order","ties","now","k","v"]
def CC{K:h_}(c:Wc X P w K mg base pz pz 6 (ag mz))(d:ia X)(f:Zn K "enumerate")(i:Zn K "list")(l:FnAt P w K mg base "rising_once" Ps4 bm.m 1)(a:FnAt P w K mg base "struck_out" Ps11 dM.m 6)(j:FnAt P w K mg base "check_order" Ps7 d8.m 4):kn X (aB mz) jC.m:=by delta jC;apply cC<;>contradiction
abbrev rM:WM:=["ring"]
def HL{K:h_}(c:Wc X P w K mg base rM rM 1 (ag om))(d:ia X)(a:Zn K "enumerate")(f:FnAt P w K mg base "rising_once" Ps4 bm.m 1):kn X (aB om) lg.m:=by delta lg;apply i6<;>contradiction
abbrev mO:WM:=["web","thing"]
def Ca{K:h_}(c:Wc X P w K mg base mO mO 2 (ag kA))(d:ia X)(l:Zn K "all")(i:Zn K "len")(a:Zn K "set")(r:Zn K "isinstance")(j:Zn K "list")(f:FnAt P w K mg base "sides" Ps13 gz.m 2)(u:FnAt P w K mg base "is_place" Ps1 cc.m 2):kn X (aB kA) iR.m:=by delta iR;apply cC<;>contradiction
abbrev jb:WM:=["ring","beside"]
def ub{K:h_}(c:Wc X P w K mg base jb jb 2 (ag fS))(d:ia X)(i:FnAt P w K mg base "pairs_among" Ps8 cN.m 1)(f:FnAt P w K mg base "rising_once" Ps4 bm.m 1)(a:FnAt P w K mg base "sides" Ps13 gz.m 2):kn X (aB fS) eA.m:=by delta eA;apply cC<;>contradiction
abbrev kH:WM:=["web","ring"]
def wS{K:h_}(c:Wc X P w K mg base kH kH 3 (ag iq))(d:ia X)(a:FnAt P w K mg base "pairs_apart" Ps15 dj.m 3):kn X (aB iq) fM.m:=by delta fM;apply i6<;>contradiction
abbrev nE:WM:=["web","thing"]
def Bc{K:h_}(c:Wc X P w K mg base nE nE 4 (ag kj))(d:ia X)(i:Zn K "len")(a:FnAt P w K mg base "chords_of" Ps16 fN.m 4)(f:FnAt P w K mg base "is_ring" Ps14 gn.m 3):kn X (aB kj) iQ.m:=by delta iQ;apply i6<;>contradiction
abbrev hJ:WM:=["web","places","a","b","ways","seen","way","place"]
def sk{K:h_}(c:Wc X P w K mg base hJ hJ 4 (ag fF))(d:ia X)(a:FnAt P w K mg base "neighbours" Ps5 aY.m 4):kn X (aB fF) dJ.m:=by delta dJ;apply cC<;>contradiction
abbrev kG:WM:=["web","places","v","near","far","a","b","way"]
def wZ{K:h_}(c:Wc X P w K mg base kG kG 6 (ag iB))(d:ia X)(j:Zn K "list")(a:Zn K "range")(f:FnAt P w K mg base "new_pairs" Ps10 bW.m 6)(i:FnAt P w K mg base "shortest_way" Ps18 bD.m 5)(l:FnAt P w K mg base "neighbours" Ps5 aY.m 4):kn X (aB iB) fP.m:=by delta fP;apply cC<;>contradiction
abbrev d4:WM:=["web","order","left","free"]
def mF{K:h_}(c:Wc X P w K mg base d4 d4 6 (ag cQ))(d:ia X)(i:Zn K "list")(a:Zn K "range")(f:FnAt P w K mg base "new_pairs" Ps10 bW.m 6):kn X (aB cQ) b8.m:=by delta b8;apply cC<;>contradiction
abbrev hZ:WM:=["web","ring"]
def rN{K:h_}(c:Wc X P w K mg base hZ hZ 7 (ag fx))(d:ia X)(f:FnAt P w K mg base "order_without_fill" Ps20 bL.m 7)(a:FnAt P w K mg base "bare_ring" Ps19 cz.m 7):kn X (aB fx) cY.m:=by delta cY;apply cC<;>contradiction
abbrev nO:WM:=["web","order","full","told","k","v","near","behind"]
def An{K:h_}(c:Wc X P w K mg base nO nO 7 (ag j5))(d:ia X)(f:Zn K "enumerate")(i:FnAt P w K mg base "neighbours" Ps5 aY.m 4)(a:FnAt P w K mg base "filled" Ps12 cM.m 7):kn X (aB j5) iN.m:=by delta iN;apply cC<;>contradiction
abbrev g0:WM:=["tree","place","found","here"]
def rR{K:h_}(c:Wc X P w K mg base g0 g0 0 (ag fy))(d:ia X):kn X (aB fy) dH.m:=by delta dH;apply cC<;>contradiction
abbrev rG:WM:=["web","order","v","tree"]
def HM{K:h_}(c:Wc X P w K mg base rG rG 8 (ag oT))(d:ia X)(i:Zn K "range")(a:FnAt P w K mg base "places_above" Ps23 cX.m 1)(f:FnAt P w K mg base "parents" Ps22 eY.m 8)(j:FnAt P w K mg base "check_place" Ps2 aU.m 3):kn X (aB oT) lr.m:=by delta lr;apply cC<;>contradiction
abbrev mS:WM:=["_law_pen_here","_law_n","_law_found","_law_k"]
def AM{K:h_}(c:Wc X P w K mg base mS mS 1 (ag kE))(d:ia X)(a:Zn K "range")(f:FnAt P w K mg base "_law_draw" Ps26 eV 1):kn X (aB kE) iL.m:=by delta iL;apply cC<;>contradiction
abbrev mQ:WM:=["_law_some","_law_found","_law_at","_law_a"]
def BH{K:h_}(c:Wc X P w K mg base mQ mQ 0 (ag kh))(d:ia X)(a:Zn K "enumerate"):kn X (aB kh) iK.m:=by delta iK;apply cC<;>contradiction
abbrev nI:WM:=["_law_pen_here","_law_n","_law_way","_law_ring"]
def BZ{K:h_}(c:Wc X P w K mg base nI nI 1 (ag km))(d:ia X)(f:Zn K "range")(l:Zn K "int")(j:Zn K "list")(i:FnAt P w K mg base "_law_draw" Ps26 eV 1)(a:FnAt P w K mg base "_law_pairs" Ps29 cB.m 1):kn X (aB km) iW.m:=by delta iW;apply cC<;>contradiction
abbrev sL:WM:=["_law_pen_here","_law_most","_law_n","_law_turned","_law_found","_law_a","_law_b"]
def HN{K:h_}(c:Wc X P w K mg base sL sL 2 (ag nT))(d:ia X)(a:Zn K "sorted")(i:Zn K "set")(f:Zn K "tuple")(u:Zn K "max")(y:Zn K "min")(j:FnAt P w K mg base "_law_shape" Ps30 iU.m 2)(r:FnAt P w K mg base "_law_order" Ps28 dS.m 2)(l:FnAt P w K mg base "_law_draw" Ps26 eV 1):kn X (aB nT) lv.m:=by delta lv;apply cC<;>contradiction
abbrev nG:WM:=["_law_near_here","_law_rank","_law_a","_law_b","_law_most","_law_found","_law_at"]
def Aw{K:h_}(c:Wc X P w K mg base nG nG 0 (ag kz))(d:ia X)(a:Zn K "len")(f:Zn K "min"):kn X (aB kz) iT.m:=by delta iT;apply cC<;>contradiction
abbrev ii:WM:=["_law_n","_law_found","_law_k","_law_more","_law_one"]
def rm{K:h_}(c:Wc X P w K mg base ii ii 0 (ag fj))(d:ia X)(a:Zn K "range")(f:Zn K "len"):kn X (aB fj) dI.m:=by delta dI;apply cC<;>contradiction
abbrev nM:WM:=["_law_near_here","_law_rank","_law_v","_law_found","_law_at"]
def Ax{K:h_}(c:Wc X P w K mg base nM nM 0 (ag kq))(d:ia X)(a:Zn K "sorted")(f:Zn K "len"):kn X (aB kq) iH.m:=by delta iH;apply cC<;>contradiction
abbrev sR:WM:=["_law_web_here","_law_near_here","_law_order_here","_law_rank","_law_ties","_law_above","_law_at","_law_v","_law_later"]
def HP{K:h_}(c:Wc X P w K mg base sR sR 1 (ag oB))(d:ia X)(j:Zn K "tuple")(l:Zn K "enumerate")(u:Zn K "max")(y:Zn K "min")(r:Zn K "list")(i:Zn K "range")(a:FnAt P w K mg base "_law_pairs" Ps29 cB.m 1)(f:FnAt P w K mg base "_law_leads" Ps34 gE.m 1):kn X (aB oB) k7.m:=by delta k7;apply cC<;>contradiction
abbrev gW:WM:=["_law_web_here","_law_near_here","_law_order_here","_law_v","_law_rank","_law_due_here","_law_above"]
def qt{K:h_}(c:Wc X P w K mg base gW gW 9 (ag eO))(d:ia X)(u:Zn K "len")(j:FnAt P w K mg base "_law_waits" Ps36 iM.m 1)(a:FnAt P w K mg base "waits" Ps24 ln.m 9)(f:FnAt P w K mg base "_law_alike" Ps32 gB.m 9)(i:FnAt P w K mg base "parents" Ps22 eY.m 8)(r:FnAt P w K mg base "filled" Ps12 cM.m 7)(l:FnAt P w K mg base "_law_due" Ps37 k5.m 2):kn X (aB eO) dk.m:=by delta dk;apply cC<;>contradiction
abbrev gX:WM:=["_law_pen_here","_law_web_here","_law_near_here","_law_fewest","_law_order_here","_law_word","_law_some"]
def qo{K:h_}(c:Wc X P w K mg base gX gX 10 (ag eQ))(d:ia X)(C:Zn K "len")(G:Zn K "min")(E:Zn K "list")(l:Zn K "range")(F:Zn K "int")(j:FnAt P w K mg base "filled" Ps12 cM.m 7)(f:FnAt P w K mg base "is_bare" Ps17 eT.m 5)(r:FnAt P w K mg base "without_fill" Ps21 cm.m 8)(B:FnAt P w K mg base "_law_all_orders" Ps35 dQ.m 1)(u:FnAt P w K mg base "_law_order_right" Ps38 bF.m 10)(a:FnAt P w K mg base "_law_pairs" Ps29 cB.m 1)(i:FnAt P w K mg base "_law_near" Ps33 hV 1)(z:FnAt P w K mg base "_law_draw" Ps26 eV 1)(y:FnAt P w K mg base "_law_web" Ps31 fG.m 3):kn X (aB eQ) du.m:=by delta du;apply cC<;>contradiction
def My{K:h_}(b:Ba P w K mg base)(D0:b_ K "is_whole" jm)(D1:b_ K "is_place" jq)(D2:b_ K "check_place" fW)(D3:b_ K "check_places" ft)(D4:b_ K "rising_once" fY)(D5:b_ K "neighbours" gO)(D6:b_ K "is_order" jk)(D7:b_ K "check_order" fZ)(D8:b_ K "pairs_among" fR)(D9:b_ K "pairs_round" fV)(bv:b_ K "new_pairs" ir)(c3:b_ K "struck_out" gR)(as:b_ K "filled" mz)(ay:b_ K "sides" om)(b5:b_ K "is_ring" kA)(c1:b_ K "pairs_apart" fS)(ck:b_ K "chords_of" iq)(cq:b_ K "is_bare" kj)(c4:b_ K "shortest_way" fF)(bx:b_ K "bare_ring" iB)(bn:b_ K "order_without_fill" cQ)(bt:b_ K "without_fill" fx)(dd:b_ K "parents" j5)(ds:b_ K "places_above" fy)(an:b_ K "waits" oT)(da:b_ K "_law_pen" oM)(dV:b_ K "_law_draw" lN)(ca:b_ K "_law_rounds" ji)(db:b_ K "_law_order" kE)(ap:b_ K "_law_pairs" kh)(dc:b_ K "_law_shape" km)(ax:b_ K "_law_web" nT)(O:b_ K "_law_alike" sW)(bu:b_ K "_law_near" lR)(cs:b_ K "_law_leads" kz)(c5:b_ K "_law_all_orders" fj)(cf:b_ K "_law_waits" kq)(b1:b_ K "_law_due" oB)(cd:b_ K "_law_order_right" eO)(c6:b_ K "_law_small_right" eQ)(b2:b_ K "law" qJ)(z0:Zn K "abs")(z1:Zn K "all")(z2:Zn K "bool")(H:Zn K "enumerate")(z4:Zn K "int")(z5:Zn K "isinstance")(i:Zn K "len")(l:Zn K "list")(z8:Zn K "max")(u:Zn K "min")(a:Zn K "range")(y:Zn K "set")(f:Zn K "sorted")(eb:Zn K "str")(r:Zn K "tuple")(ea:Zn K "zip"):FnAt P w K mg base "law" Fg EC 12:=by
 have a0:=pe (F:=gN) lF b D0 λX c d=>yZ c d z5 z2 z4;have a1:=pe (F:=cc) lH b D1 λX c d=>zS c d  a0;have a2:=pe (F:=aU) i7 b D2 λX c d=>uw c d  a1;have a3:=pe (F:=cV) g8 b D3 λX c d=>rY c d  a2;have a4:=pe (F:=bm) jd b D4 λX c d=>ut c d f y z8 u r;have Z:=pe (F:=aY) jG b D5 λX c d=>u0 c d  a2;have a6:=pe (F:=gP) lB b D6 λX c d=>zZ c d f l a z1 z5 a1;have a7:=pe (F:=d8) iY b D7 λX c d=>uc c d  a6;have a8:=pe (F:=cN) je b D8 λX c d=>ua c d H;have a9:=pe (F:=ci) jc b D9 λX c d=>uh c d  Z a8;have Q:=pe (F:=bW) kJ b bv λX c d=>w8 c d  a9;have cx:=pe (F:=dM) jM b c3 λX c d=>wE c d  a9 a4 a3 a2;have z:=pe (F:=cM) pz b as λX c d=>CC c d H l a4 cx a7;have W:=pe (F:=gz) rM b ay λX c d=>HL c d H a4;have bq:=pe (F:=gn) mO b b5 λX c d=>Ca c d z1 i y z5 l W a1;have ba:=pe (F:=dj) jb b c1 λX c d=>ub c d  a8 a4 W;have b3:=pe (F:=fN) kH b ck λX c d=>wS c d  ba;have cy:=pe (F:=eT) nE b cq λX c d=>Bc c d i b3 bq;have cn:=pe (F:=bD) hJ b c4 λX c d=>sk c d  Z;have b4:=pe (F:=cz) kG b bx λX c d=>wZ c d l a Q cn Z;have b0:=pe (F:=bL) d4 b bn λX c d=>mF c d l a Q;have dx:=pe (F:=cm) hZ b bt λX c d=>rN c d  b0 b4;have L:=pe (F:=eY) nO b dd λX c d=>An c d H Z z;have d0:=pe (F:=cX) g0 b ds λX c d=>rR c d;have al:=pe (F:=ln) rG b an λX c d=>HM c d a d0 L a2;have cb:=Pa (k:=0) (N:=xl) (G:=xE) (ps:=HJ) b da λX e h g d=>HK h g d (e.n z0) (e.n i) (e.n u);have j:=Pa (k:=0) (N:=vj) (G:=vQ) (ps:=CJ) b dV λX e h g d=>C1 h g d;have be:=Pa (k:=0) (N:=qm) (G:=rg) (ps:=yQ) b ca λX e h g d=>zQ h g d (e.n i) (e.n u) (e.n z8);have M:=pe (F:=dS) mS b db λX c d=>AM c d a j;have E:=pe (F:=cB) mQ b ap λX c d=>BH c d H;have c2:=pe (F:=iU) nI b dc λX c d=>BZ c d a z4 l j E;have U:=pe (F:=fG) sL b ax λX c d=>HN c d f y r z8 u c2 M j;have C:∀n,FnAt P w K mg base "_law_alike" _ (cT n).m (0+n+1):=λn=>by
  induction n with
  |zero=>exact Up (np:=2) ["_law_one","_law_other"] b O
  |succ n ih=>exact pe (F:=cT (n+1)) (B:=dr (cT n)) ["_law_one","_law_other"] b O λX c d=>by delta dr;apply cC<;>contradiction
 have C:FnAt P w K mg base "_law_alike" _ gB.m 9:=C 8;have S:=Pa (k:=0) (N:=vX) (G:=wI) (ps:=DJ) b bu λX e h g d=>CW h g d (e.n f) (e.n a);have d1:=pe (F:=gE) nG b cs λX c d=>Aw c d i u;have dF:=pe (F:=dQ) ii b c5 λX c d=>rm c d a i;have b6:=pe (F:=iM) nM b cf λX c d=>Ax c d f i;have bi:=pe (F:=k5) sR b b1 λX c d=>HP c d r H z8 u l a E d1;have R:=pe (F:=bF) gW b cd λX c d=>qt c d i b6 al C L z bi;have d2:=pe (F:=bo) gX b c6 λX c d=>qo c d i u l a z4 z cy dx dF R E S j U;have dt:=Pa (k:=11) (N:=Jc) (G:=Jd) (ps:=Fg) b b2 λX e h g d=>Qw h g d (be.c e) (M.c e) (S.c e) (R.c e) (U.c e) (cb.c e) (d2.c e) (e.n a);exact dt
end Law
namespace PySem.W.Fast
def tw11579146725569417809:=0
def tw1565388055110673390:=0
def tw14359119309981324997:=0
def tw516135052940307811:=0
def tw13771429174453570707:=0
def tw14929848573084002101:=0
def tw12853542589755443728:=0
def tw16601034856252132493:=0
def tw13422248968216533783:=0
def tw10418880983893959209:=0
def tw8148656194356530206:=0
def tw12730642602894786476:=0
def tw12919307340315212879:=0
def tw13144087305655465810:=0
def tw10135250282446655674:=0
def tw17498592214795288238:=0
def tw6734499772797994863:=0
def tw15691685144637331563:=0
def tw12401342287544118606:=0
def tw6815878902128544621:=0
def tw8863204955610005027:=0
def tw10332070474939148994:=0
def tw3483957442879499485:=0
def tw2551363686257943033:=0
def tw16564372776826811858:=0
def tw8691117242136686606:=0
def tw2556868401130272609:=0
def tw6096418382417446959:=0
def tw8572107168683063786:=0
def tw6604400034130052081:=0
def tw6922005458907494965:=0
def tw8444443512630576062:=0
def tw64011994460595582:=0
def tw16488172324508938538:=0
def tw12423025712868421112:=0
def tw17114273433097838462:=0
def tw17695545278954651484:=0
def tw3375777162705541743:=0
def tw11781441288001679406:=0
def tw6266411892556249660:=0
def tw10803938269296045875:=0
def tw14588879853262483324:=0
def tw13722816571787511757:=0
def tw973464242331713560:=0
def tw13277916020783446147:=0
def tw13917100331858556243:=0
def tw15088922632749341912:=0
def tw18056938650805214844:=0
def tw8428067396260877012:=0
def tw7532834287827079715:=0
def tw6947772397703705077:=0
def tw7587155469345319300:=0
def tw347322201273310716:=0
def tw4786880442050958048:=0
def tw14862953301786018929:=0
def tw1884651645895992989:=0
def tw17092956266107208693:=0
def tw12869774008786859811:=0
def tw9798896882893315644:=0
def tw14623649974368426520:=0
def tw3408457808646516258:=0
def tw2862702597704896673:=0
def tw9232837822454656916:=0
def tw16612800435966625315:=0
def tw10038461577534366683:=0
def tw15063175289602669298:=0
def tw17142738930150876220:=0
def tw11728592111996359266:=0
def tw5446444152483204336:=0
def tw10342263109249971055:=0
def tw11962679254308624758:=0
def tw12715453190738302955:=0
def tw5239171409591791698:=0
def tw14237098656320135797:=0
def tw710183227256713850:=0
def tw15924029811326244121:=0
def tw3138277645087069151:=0
def tw7527956501642685130:=0
def tw8014122005596105173:=0
def tw13740678923931014900:=0
def tw16936051944827520416:=0
def tw4943010204667257045:=0
def tw7158414498219463472:=0
def tw14784857019260065334:=0
def tw2811755762098655396:=0
def tw9190435177108559862:=0
def tw6268974634316162980:=0
def tw7630238394641814105:=0
def tw8162261607528300458:=0
def tw4127358944402624966:=0
def tw10366628397819193385:=0
def tw15580813190402320766:=0
def tw1402615226210506851:=0
def tw16192491446845947591:=0
def tw247898565777328719:=0
def tw4864055837428546932:=0
def tw8206643042343620905:=0
def tw1035574663612969992:=0
def tw2258236075775935085:=0
def tw6678438828812240099:=0
def tw10687374742543526714:=0
def tw6034694101281808129:=0
def tw983051044674760843:=0
def tw15478817037938339282:=0
def tw16118652755974893640:=0
def tw15699229179820970805:=0
def tw910449211181557589:=0
def tw9031836581147866882:=0
def tw17460296903389176309:=0
def tw14895826172765759711:=0
def tw9552372782922950742:=0
def tw11368104543633792647:=0
def tw8759623882877973954:=0
def tw16257149534221178475:=0
def tw5391320859865200154:=0
def tw11532572374348097515:=0
def tw1516559828423935027:=0
def tw8167597864046076997:=0
def tw12856102028728185077:=0
end PySem.W.Fast
open PySem PySem.W PyProof.Rows
local macro_rules | `(tactic| and_intros) => `(tactic| (dsimp only [L2.lx]; first | k_is | (refine' MM.E5 ?a ?l ?c ?k; (case a => k_is); (case l => k_is); (case c => k_is); (case k => k_is))))
set_option maxRecDepth 100000 in
set_option maxHeartbeats 0 in
theorem PySem.Challenge.cw_fewfills_k51_whole_fill_by_all_orders_holds : PySem.Challenge.rw_fewfills_k51_whole_fill_by_all_orders.Holds := by
  w_on; o_law; k_head; (case hw=>w_witness2)
  k_fill
  refine MM.Kr (l:=PySem.Challenge.rw_fewfills_k51_whole_fill_by_all_orders) (k:=12) (x:="_law_script") (F:=Law.EC) rfl rfl ⟨rfl,by decide,by decide,rfl⟩ (fun w h Y=>PySem.W.kIn_of Y) ?F Law.Ff
  case F=>
    intro w mg fa h KX G hmg
    have Dlaw:MM.b_ (L2.lx KX) "law" Law.qJ:=by and_intros
    have D0:MM.b_ (L2.lx KX) "is_whole" Law.jm:=by and_intros
    have D1:MM.b_ (L2.lx KX) "is_place" Law.jq:=by and_intros
    have D2:MM.b_ (L2.lx KX) "check_place" Law.fW:=by and_intros
    have D3:MM.b_ (L2.lx KX) "check_places" Law.ft:=by and_intros
    have D4:MM.b_ (L2.lx KX) "rising_once" Law.fY:=by and_intros
    have D5:MM.b_ (L2.lx KX) "neighbours" Law.gO:=by and_intros
    have D6:MM.b_ (L2.lx KX) "is_order" Law.jk:=by and_intros
    have D7:MM.b_ (L2.lx KX) "check_order" Law.fZ:=by and_intros
    have D8:MM.b_ (L2.lx KX) "pairs_among" Law.fR:=by and_intros
    have D9:MM.b_ (L2.lx KX) "pairs_round" Law.fV:=by and_intros
    have D10:MM.b_ (L2.lx KX) "new_pairs" Law.ir:=by and_intros
    have D11:MM.b_ (L2.lx KX) "struck_out" Law.gR:=by and_intros
    have D12:MM.b_ (L2.lx KX) "filled" Law.mz:=by and_intros
    have D13:MM.b_ (L2.lx KX) "sides" Law.om:=by and_intros
    have D14:MM.b_ (L2.lx KX) "is_ring" Law.kA:=by and_intros
    have D15:MM.b_ (L2.lx KX) "pairs_apart" Law.fS:=by and_intros
    have D16:MM.b_ (L2.lx KX) "chords_of" Law.iq:=by and_intros
    have D17:MM.b_ (L2.lx KX) "is_bare" Law.kj:=by and_intros
    have D18:MM.b_ (L2.lx KX) "shortest_way" Law.fF:=by and_intros
    have D19:MM.b_ (L2.lx KX) "bare_ring" Law.iB:=by and_intros
    have D20:MM.b_ (L2.lx KX) "order_without_fill" Law.cQ:=by and_intros
    have D21:MM.b_ (L2.lx KX) "without_fill" Law.fx:=by and_intros
    have D22:MM.b_ (L2.lx KX) "parents" Law.j5:=by and_intros
    have D23:MM.b_ (L2.lx KX) "places_above" Law.fy:=by and_intros
    have D24:MM.b_ (L2.lx KX) "waits" Law.oT:=by and_intros
    have D25:MM.b_ (L2.lx KX) "_law_pen" Law.oM:=by and_intros
    have D26:MM.b_ (L2.lx KX) "_law_draw" Law.lN:=by and_intros
    have D27:MM.b_ (L2.lx KX) "_law_rounds" Law.ji:=by and_intros
    have D28:MM.b_ (L2.lx KX) "_law_order" Law.kE:=by and_intros
    have D29:MM.b_ (L2.lx KX) "_law_pairs" Law.kh:=by and_intros
    have D30:MM.b_ (L2.lx KX) "_law_shape" Law.km:=by and_intros
    have D31:MM.b_ (L2.lx KX) "_law_web" Law.nT:=by and_intros
    have D32:MM.b_ (L2.lx KX) "_law_alike" Law.sW:=by and_intros
    have D33:MM.b_ (L2.lx KX) "_law_near" Law.lR:=by and_intros
    have D34:MM.b_ (L2.lx KX) "_law_leads" Law.kz:=by and_intros
    have D35:MM.b_ (L2.lx KX) "_law_all_orders" Law.fj:=by and_intros
    have D36:MM.b_ (L2.lx KX) "_law_waits" Law.kq:=by and_intros
    have D37:MM.b_ (L2.lx KX) "_law_due" Law.oB:=by and_intros
    have D38:MM.b_ (L2.lx KX) "_law_order_right" Law.eO:=by and_intros
    have D39:MM.b_ (L2.lx KX) "_law_small_right" Law.eQ:=by and_intros
    have Z40:PySem.W.nsIn (L2.lx KX) mainGlobals "abs" = some none:=by and_intros
    have Z41:PySem.W.nsIn (L2.lx KX) mainGlobals "all" = some none:=by and_intros
    have Z42:PySem.W.nsIn (L2.lx KX) mainGlobals "bool" = some none:=by and_intros
    have Z43:PySem.W.nsIn (L2.lx KX) mainGlobals "enumerate" = some none:=by and_intros
    have Z44:PySem.W.nsIn (L2.lx KX) mainGlobals "int" = some none:=by and_intros
    have Z45:PySem.W.nsIn (L2.lx KX) mainGlobals "isinstance" = some none:=by and_intros
    have Z46:PySem.W.nsIn (L2.lx KX) mainGlobals "len" = some none:=by and_intros
    have Z47:PySem.W.nsIn (L2.lx KX) mainGlobals "list" = some none:=by and_intros
    have Z48:PySem.W.nsIn (L2.lx KX) mainGlobals "max" = some none:=by and_intros
    have Z49:PySem.W.nsIn (L2.lx KX) mainGlobals "min" = some none:=by and_intros
    have Z50:PySem.W.nsIn (L2.lx KX) mainGlobals "range" = some none:=by and_intros
    have Z51:PySem.W.nsIn (L2.lx KX) mainGlobals "set" = some none:=by and_intros
    have Z52:PySem.W.nsIn (L2.lx KX) mainGlobals "sorted" = some none:=by and_intros
    have Z53:PySem.W.nsIn (L2.lx KX) mainGlobals "str" = some none:=by and_intros
    have Z54:PySem.W.nsIn (L2.lx KX) mainGlobals "tuple" = some none:=by and_intros
    have Z55:PySem.W.nsIn (L2.lx KX) mainGlobals "zip" = some none:=by and_intros
    exact MM.Kq Dlaw Law.Mw hmg KX G fun base kb nb=>Law.My ⟨kb,nb⟩ D0 D1 D2 D3 D4 D5 D6 D7 D8 D9 D10 D11 D12 D13 D14 D15 D16 D17 D18 D19 D20 D21 D22 D23 D24 D25 D26 D27 D28 D29 D30 D31 D32 D33 D34 D35 D36 D37 D38 D39 Dlaw Z40 Z41 Z42 Z43 Z44 Z45 Z46 Z47 Z48 Z49 Z50 Z51 Z52 Z53 Z54 Z55
