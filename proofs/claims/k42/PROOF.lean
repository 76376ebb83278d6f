import PyProof.Rows.All
import Wide.All
import OpenK.AllK
import Wide.FinOn
import Lean
import PyProof.EqAt
import PyProof.EqKinds
import PyProof.TupleCall
import PyProof.ReprRoads
import PyProof.FitsInt
import PyProof.FitsBits
import PyProof.Rows.IntMath
import PyProof.ConsumeWalk
import PyProof.WalkInts
import PyProof.ListRange
import PySem.SetTable
import PyProof.SetKind
import PyProof.TupleKey
import PyProof.DictKinds
import PyProof.IsRules
import PyProof.Rows.SetFrom
import PyProof.CollectIter
import PyProof.ForAny
import PyProof.Rows.SortRuns
import PyProof.Rows.SortKey
import KE.KSortTup
import PyProof.ZipIter
import PyProof.Draws
import PyProof.EnumMake
import PyProof.TupleIter
import PyProof.P3Eq
import PyProof.StrCalls2
import PyProof.StrCalls3
import PyProof.FString
import PyProof.SetRoads
import PyProof.Rows.SeqMore
import PyProof.CallFns
import PyProof.StrOps
import PyProof.Rows.Chain
import PyProof.Rows.TupDisplay
import PySem.Challenge.RW_fewfills_k42_places_touched
set_option Elab.async false
set_option bootstrap.genMatcherCode false
set_option compiler.extract_closed false
set_option genSizeOf false
set_option linter.all false
set_option maxRecDepth 100000
noncomputable section
local macro_rules|`(command|def $i:declId $s:optDeclSig $v:declVal)=>`(command|noncomputable def $i:declId $s:optDeclSig $v:declVal)
local macro_rules|`(command|abbrev $i:declId $s:optDeclSig $v:declVal)=>`(command|noncomputable abbrev $i:declId $s:optDeclSig $v:declVal)
open PySem
abbrev _root_.R5:=List Str
abbrev _root_.R6:=List Int
abbrev _root_.R7:=List (List Int)
abbrev _root_.R8:=List Nat
abbrev _root_.SM:=List Addr
abbrev _root_.SQ:=List Value
abbrev _root_.SS:=List (Addr×Obj)
abbrev _root_.SU:=Option Value
abbrev _root_.SV:=Option Int
abbrev _root_.SW:=List Expr
abbrev _root_.SA:=Value->Shared->Prop
abbrev _root_.SD:=Str->Option Value
abbrev _root_.SG:=Option Nat
abbrev _root_.SH:=List (Int×Int)
abbrev d_:=@wpAny_bind
abbrev ls:=@Heap.get?_push_of_some
abbrev mw:=@List.getElem?_eq_some_iff
abbrev ij:=@PySem.W.Frag
abbrev n4:=@List.mem_append_right
abbrev il:=@wpAny_pure
abbrev i3:=@Nat.le_refl
abbrev c_:=@if_pos
abbrev oh:=@List.mem_cons_of_mem
abbrev pq:=@List.getElem?_set_ne
abbrev pu:=@Bool.false_eq_true
abbrev yS:=@List.getElem?_append_left
abbrev q0:=@Heap.get?_push_size
abbrev ml:=@Heap.lt_size
abbrev f_:=@if_neg
abbrev n9:=@List.mem_append
abbrev y9:=@Option.map_eq_some_iff
abbrev nk:=@List.mem_cons
abbrev q_:=@List.set_cons_succ
abbrev mx:=@List.mem_map
abbrev tr:=@List.set_cons_zero
abbrev C5:=@List.getElem?_eq_getElem
abbrev BO:=@List.getElem?_set_self
abbrev BC:=@Array.getElem?_toList
abbrev va:=@List.size_toArray
abbrev z_:=@Array.length_toList
abbrev y_:=@Nat.lt_of_lt_of_le
abbrev yT:=@List.getElem?_map
abbrev C6:=@List.mem_iff_getElem?
abbrev tu:=@List.length_map
abbrev DG:=@List.getElem?_append_right
abbrev BD:=@List.mem_cons_self
abbrev C7:=@List.mem_append_left
abbrev Dm:=@List.mem_of_getElem?
abbrev qp:=@Nat.ne_of_lt
abbrev wj:=@List.map_cons
abbrev C1:=@List.length_cons
abbrev tx:=@Nat.le_trans
abbrev Dn:=@Int.toNat_natCast
abbrev vl:=@Nat.zero_le
abbrev Eu:=@Option.bind_eq_some_iff
abbrev Eh:=@List.getElem?_eq_none
abbrev zi:=@List.map_map
abbrev zu:=@Nat.zero_add
abbrev Do:=@List.length_nil
abbrev DO:=@List.length_append
abbrev Ei:=@List.append_assoc
abbrev Ev:=@List.mem_filterMap
abbrev G1:=@List.pairwise_iff_getElem
abbrev Ej:=@Option.bind_some
abbrev DP:=@Heap.size_push
abbrev Dv:=@Nat.ne_of_gt
abbrev Fc:=@List.take_append_drop
abbrev DH:=@Nat.lt_irrefl
abbrev Ew:=@List.not_mem_nil
abbrev Ex:=@List.getElem_mem
abbrev Ek:=@List.map_append
abbrev E2:=@List.pairwise_cons
abbrev Ky:=@Array.getElem?_eq_some_iff
abbrev HH:=@List.take_of_length_le
abbrev Ey:=@List.mem_range
abbrev E3:=@List.length_drop
abbrev Fd:=@Array.toList_push
abbrev E4:=@List.mem_filter
abbrev Kz:=@List.getElem?_replicate
abbrev G2:=@List.mem_singleton
abbrev Ez:=@Bool.not_true
abbrev HJ:=@List.mem_of_mem_drop
abbrev Fe:=@List.lookup_cons
abbrev Ff:=@Array.toList_inj
abbrev HK:=@List.replicate_succ
abbrev G3:=@List.nodup_append
abbrev G4:=@Bool.not_eq_true'
abbrev G5:=@Nat.lt_succ_of_lt
abbrev G6:=@List.pairwise_map
abbrev G7:=@List.ext_getElem?
abbrev HL:=@Array.toList_append
abbrev HM:=@List.map_congr_left
abbrev K5:=@Array.getElem?_eq_getElem
abbrev KA:=@List.getElem?_toArray
abbrev Fg:=@Array.size_push
abbrev G8:=@Bool.and_eq_true
abbrev K6:=@List.length_eq_zero_iff
abbrev HN:=@List.getElem_drop
abbrev G9:=@List.append_nil
abbrev K7:=@Array.getElem?_extract
abbrev K8:=@List.drop_eq_nil_of_le
abbrev HP:=@List.length_take
abbrev HQ:=@Nat.lt_succ_self
abbrev HR:=@List.all_eq_true
abbrev K9:=@List.length_replicate
abbrev K_:=@Heap.get?_update_self
abbrev La:=@List.eq_replicate_iff
abbrev Nu:=@List.getElem?_take_of_lt
abbrev Nv:=@List.length_filterMap_le
abbrev Fh:=@Nat.le_of_lt
abbrev Lb:=@List.filterMap_cons
abbrev Lc:=@Heap.get?_update_ne
abbrev KC:=@List.perm_middle
abbrev KD:=@List.take_length
abbrev Nw:=@Heap.get?_update_other
abbrev Nx:=@List.pairwise_lt_range
abbrev Ld:=@Bool.false_ne_true
abbrev Lf:=@Array.size_append
abbrev Ot:=@List.perm_append_singleton
abbrev Ou:=@Array.getElem?_eq_none_iff
abbrev Ov:=@Array.perm_iff_toList_perm
abbrev Ow:=@Int.fmod_eq_emod_of_nonneg
abbrev Ny:=@List.pairwise_append
abbrev Nz:=@Array.toList_extract
abbrev NA:=@List.mem_of_mem_take
abbrev NB:=@List.mem_iff_getElem
abbrev Ox:=@List.drop_eq_getElem_cons
abbrev KG:=@List.take_succ
abbrev Oy:=@List.extract_eq_take_drop
abbrev NC:=@List.getElem_of_mem
abbrev Lg:=@List.nodup_cons
abbrev Lh:=@Option.map_some
abbrev Oz:=@List.pairwise_filterMap
abbrev ND:=@List.getElem?_drop
abbrev OA:=@List.range_succ_eq_map
abbrev NE:=@List.foldl_append
abbrev HU:=@Nat.le_succ
abbrev OB:=@List.perm_append_comm
abbrev NF:=@List.nodup_range
abbrev NG:=@List.foldl_cons
abbrev Qu:=@Array.getD_eq_getD_getElem?
abbrev Qw:=@List.perm_ext_iff_of_nodup
abbrev Qx:=@List.nodup_iff_pairwise_ne
abbrev OC:=@Bool.not_eq_false'
abbrev NH:=@List.nodup_nil
abbrev Qy:=@Array.getElem?_replicate
abbrev Qz:=@List.pairwise_mergeSort
abbrev QA:=@List.filter_cons_of_pos
abbrev QB:=@List.filter_cons_of_neg
abbrev OD:=@Nat.le_add_right
abbrev OE:=@List.zipIdx_cons
abbrev OF:=@List.mem_flatMap
abbrev OG:=@Nat.le_of_not_lt
abbrev QC:=@Array.getElem?_eq_none
abbrev QD:=@List.getElem_cons_drop
abbrev OH:=@List.of_mem_zip
abbrev NI:=@Nat.lt_trans
abbrev OI:=@List.forIn_cons
abbrev QE:=@Bool.beq_eq_decide_eq
abbrev OJ:=@Nat.min_eq_left
abbrev QF:=@List.length_filter_le
abbrev OK:=@Bool.and_false
abbrev OL:=@Nat.mul_le_mul
abbrev OM:=@List.any_cons
abbrev ON:=@List.map_take
abbrev OO:=@List.map_drop
abbrev OP:=@List.map_nil
abbrev OQ:=@List.all_map
noncomputable section
local macro_rules | `(tactic| ext) => `(tactic| omega)
local instance (priority:=1) cdec (p:Prop):Decidable p:=Classical.propDecidable p
local macro_rules | `(⋯) => `(by lia)
open Option renaming some->J,none->Y
open Bool renaming true->I,false->T
namespace L2
open PySem.Spec PyProof.Rows
abbrev DQ:=Sum Int Str
def G_:DQ->Value->Bool
 |.inl k,v=>Value.isInt k v
 |.inr x,v=>Value.isStrOf x v
def OR(w:World):DQ->Int
 |.inl k=>hashInt k
 |.inr x=>hashStr w x
def cu:∀{k:DQ}{v:Value},G_ k v=I->(∃i t,k=Sum.inl i/\v=Value.int i t)\/(∃x t,k=Sum.inr x/\v=Value.str x t)
 |.inl i,v,h=>by
  obtain⟨t,e⟩:=Value.isInt_shape h;exact .inl ⟨i,t,rfl,e⟩
 |.inr x,v,h=>by
  obtain⟨t,e⟩:=Value.isStrOf_shape h;exact .inr ⟨x,t,rfl,e⟩
def HV(a b:Int):decide ((Sum.inl a:DQ)=Sum.inl b)=(a==b):=by
 by_cases e:a=b
 .subst e;simp
 .have h:¬(Sum.inl a:DQ)=Sum.inl b:=λq=>e (Sum.inl.inj q);rw[decide_eq_false h];exact(beq_eq_false_iff_ne.mpr e).symm
def HW(a b:Str):decide ((Sum.inr a:DQ)=Sum.inr b)=decide (a=b):=by simp
def HX(a:Int)(b:Str):decide ((Sum.inl a:DQ)=Sum.inr b)=T:=decide_eq_false (λq=>nomatch q)
def HY(a:Str)(b:Int):decide ((Sum.inr a:DQ)=Sum.inl b)=T:=decide_eq_false (λq=>nomatch q)
def rR(prog:Program)(w:World):PySem.KeyKind prog w DQ where
 is:=G_
 hash:=OR w
 inj:=λv a b o g=>by
  rcases cu o with⟨i,t,rfl,rfl⟩|⟨x,t,rfl,rfl⟩
  .rcases cu g with⟨j,u,rfl,e⟩|⟨y,u,rfl,e⟩
   .injection e with e1 _;rw[e1]
   .exact nomatch e
  .rcases cu g with⟨j,u,rfl,e⟩|⟨y,u,rfl,e⟩
   .exact nomatch e
   .injection e with e1 _;rw[e1]
 byValue:=λk v h=>by
  rcases cu h with⟨i,t,rfl,rfl⟩|⟨x,t,rfl,rfl⟩<;>rfl
 pyHash:=λhv h=>by
  rcases cu hv with⟨i,t,rfl,rfl⟩|⟨x,t,rfl,rfl⟩
  .exact wpAny_pyHash_int h
  .exact wpAny_pyHash_str h
 eqBool:=λl hv h=>by
  rcases cu l with⟨i,t,rfl,rfl⟩|⟨x,t,rfl,rfl⟩
  .rcases cu hv with⟨j,u,rfl,rfl⟩|⟨y,u,rfl,rfl⟩
   .rw[HV]at h;exact wpAny_eqBool_int h
   .rw[HX]at h;exact SeqAt.EqAt.int_str i t y u _ _ _ _ h
  .rcases cu hv with⟨j,u,rfl,rfl⟩|⟨y,u,rfl,rfl⟩
   .rw[HY]at h;exact SeqAt.EqAt.str_int x t j u _ _ _ _ h
   .rw[HW]at h;exact wpAny_eqBool_str h
 «strs»:=λk x t v h=>by
  rcases cu h with⟨i,u,rfl,e⟩|⟨y,u,rfl,e⟩
  .exact nomatch e
  .injection e with e1 _
   subst e1;cases v<;>rfl
inductive V where
 |non | bl (b:Bool) | int (i:Int) | str (x:Str) | byt (b:Array UInt8) | flt (b:UInt64) | ref (a:Addr) | ty (n:String)
 deriving DecidableEq
def aW:V->Value->Prop
 |.non,u=>u=Value.none
 |.bl b,u=>u=Value.bool b
 |.int i,u=>∃t,u=Value.int i t
 |.str x,u=>∃t,u=Value.str x t
 |.byt b,u=>∃t,u=Value.bytes b t
 |.flt b,u=>∃t,u=Value.float b t
 |.ref a,u=>u=Value.ref a
 |.ty n,u=>u=Value.type n
abbrev aI:List V->SQ->Prop:=Paired aW
def aI.length(r:aI xs us):xs.length=us.length:=Paired.length r
def aI.get{xs:List V}{a:SQ}{i:Nat}{x:V}(r:aI xs a)(e:xs[i]?=J x):∃u,a[i]?=J u/\aW x u:=by
 induction r generalizing i with
 |nil=>cases e
 |cons r t g =>
  cases i with
  |zero=>cases e;exact⟨_,rfl,r⟩
  |succ i=>have z:=@g i e;exact z
def aI.set(r:aW x u)(i:Nat)(q:aI xs us):aI (xs.set i x) (us.set i u):=by
 induction q generalizing i with
 |nil=>exact .nil
 |cons a t e =>
  cases i with
  |zero=>exact .cons r t
  |succ i=>exact .cons a (e i)
def aI.append(r:aI xs us)(s:aI ys ws):aI (xs++ys) (us++ws):=by
 induction r with
 |nil=>exact s
 |cons r t a=>exact .cons r a
def aI.take(n:Nat)(r:aI xs us):aI (xs.take n) (us.take n):=by
 induction r generalizing n with
 |nil=>cases n<;>exact .nil
 |cons a t e =>
  cases n with
  |zero=>exact .nil
  |succ n=>exact .cons a (e n)
def aI.drop(n:Nat)(r:aI xs us):aI (xs.drop n) (us.drop n):=by
 induction r generalizing n with
 |nil=>cases n<;>exact .nil
 |cons a t e =>
  cases n with
  |zero=>exact .cons a t
  |succ n=>exact e n
def Li:Option V->SU->Prop
 |some v,J u=>aW v u
 |none,Y=>True
 |_,_=>False
def KV{κ:Type}:List (κ×V)->List (κ×Value)->Prop:=Paired λ(p:κ×V)(q:κ×Value)=>p.1=q.1/\aW p.2 q.2
def kV:DQ->V
 |.inl i=>.int i
 |.inr x=>.str x
inductive HO where
 |lst(xs:List V)
 |tup(xs:List V)
 |dK(kvs:List (DQ×V)) | dT (kvs:List (List DQ×V))
 |set(S:Int->Bool)(n:Nat)
 |ins(C dx:Addr)(fs:List (Str×V))
 |own(x:Addr)
 |xd(fs:List (Str×V))
 |met(f x:Addr)
 |rng(lo hi:Int)
 |frz(o:Obj)(u:HO)
 |tbl(ps:Array Value)
 |ext(φ:Heap->Prop)
abbrev Hp:=Addr->Option HO
def k_(H:Hp)(a:Addr)(o:HO):Hp:=λb=>if b=a then J o else H b
def bI:k_ H a o a=J o:=by delta k_;rw[c_ rfl]
def aS(h:b≠a):k_ H a o b=H b:=by delta k_;rw[f_ h]
def bN{H:Hp}{a b:Addr}{o:HO}(h:H a=J o)(g:H b=Y):a≠b:=by intro e;subst e;rw[h]at g;cases g
def iG(h:Heap)(a:Addr)(e:Array Value):Prop:=∃o,h.get? a=J o/\o.cls=.type "tuple"/\(∃n,o.data=.seq e n)/\o.dict=Y
def iG.tup(t:iG h a its):IsTup h a its:=let⟨o,e,c,d,_⟩:=t;⟨o,e,c,d⟩
def iG.lt(t:iG h a its):a<h.objs.size:=t.tup.lt
def iG.new(h:Heap)(a:Array Value):iG (h.push { cls:=.type "tuple",data:=.seq a}) h.objs.size a:=⟨_,q0 h rfl,rfl,⟨_,rfl⟩,rfl⟩
section
variable(P:Program)(w:World)
def ObjOk(H:Hp)(h:Heap)(a:Addr):HO->Prop
 |.lst xs=>xs.length<=sizeLine/\∃(e:SQ) (n:Nat),aI xs e/\h.get? a=J { cls:=.type "list",data:=.seq e.toArray n}
 |.tup xs=>xs.length<=sizeLine/\∃e:SQ,aI xs e/\iG h a e.toArray
 |.dK g=>g.length<=sizeLine/\(a==sysModules)=T/\∃l,KV g l/\h.DictOf (rR P w) a l
 |.dT g=>g.length<=sizeLine/\(a==sysModules)=T/\∃xs:List (List DQ×Addr×Value),
   Paired (λ(p:List DQ×V)(q:List DQ×Addr×Value)=>p.1=q.1/\H q.2.1=J (.tup (p.1.map kV))/\aW p.2 q.2.2) g xs /\
   ∃o y E,h.get? a=J o/\o.ExactDict/\o.data=.dict y E/\y.toList=xs.map (entryOfKey (tupleKind (rR P w)))/\(xs.map (·.1)).Nodup
 |.set S n=>h.SetOf (intKind P w) a S n
 |.ins C j fs=>H j=J (.own a)/\fs.length<=1000/\j≠a/\h.get? a=J (PySem.W.instObj C j) /\
   ∃i,h.Ns1 j i/\(∀f,Li (fs.lookup f) (i f))/\PySem.Within i (fs.map (·.1))
 |.own _=>∃o,h.get? a=J o
 |.xd fs=>∃i,h.Ns1 a i/\∀f,Li (fs.lookup f) (i f)
 |.rng lo z=>∃t u v,h.get? a=J { cls:=.type "range",data:=.fields #[.int lo t,.int z u,.int 1 v]}
 |.frz o u=>h.get? a=J o/\ObjOk H h a u
 |.tbl B=>h.get? a=J { cls:=.none,data:=.fields B}
 |.met f x=>h.get? a=J (PySem.W.methodObj (.ref f) (.ref x))
 |.ext φ=>φ h/\(∃o,h.get? a=J o)/\∀r s:Heap,φ r->(∀o,r.get? a=J o->s.get? a=J o)->φ s
def HOk(H:Hp)(h:Heap):Prop:=∀a o,H a=J o->ObjOk P w H h a o
end
section
variable{P:Program}{w:World}{H H':Hp}{h h':Heap}{a:Addr}{o:HO}
def ObjOk.lt(x:ObjOk P w H h a o):a<h.objs.size:=by
 cases o with
 |lst xs=>obtain⟨_,_,_,_,e⟩:=x;exact ml e
 |tup xs=>obtain⟨_,_,_,p⟩:=x;exact p.lt
 |dK g=>obtain⟨_,_,_,_,o,_,_,e,_⟩:=x;exact ml e
 |dT g=>obtain⟨_,_,_,_,o,_,_,e,_⟩:=x;exact ml e
 |set S n=>obtain⟨o,_,_,_,e,_⟩:=x;exact ml e
 |ins C l fs=>obtain⟨_,_,_,e,_⟩:=x;exact ml e
 |own y=>obtain⟨_,e⟩:=x;exact ml e
 |xd fs=>obtain⟨_,⟨_,_,_,e,_⟩,_⟩:=x;exact ml e
 |rng lo j=>obtain⟨_,_,_,e⟩:=x;exact ml e
 |frz i u=>obtain⟨e,_⟩:=x;exact ml e
 |tbl r=>exact ml (x)
 |met f y=>exact ml (x)
 |ext φ=>obtain⟨_,⟨_,e⟩,_⟩:=x;exact ml e
def Paired.mapP{α β:Type}{F G:α->β->Prop}{e:List α}{g:List β}(r:Paired F e g)(f:∀a b,F a b->G a b):Paired G e g:=by
 induction r with
 |nil=>exact .nil
 |cons r t i=>exact .cons (f _ _ r) i
def ObjOk.stay(x:ObjOk P w H h a o)(k:∀b u,(b=a\/H b=J (.own a))->h.get? b=J u->h'.get? b=J u)(L:∀b,H b=J (.own a)->H' b=J (.own a))(G:∀b xs,H b=J (.tup xs)->H' b=J (.tup xs)):ObjOk P w H' h' a o:=by
 induction o with
 |lst xs=>obtain⟨z,l,n,r,e⟩:=x;exact⟨z,l,n,r,k _ _ (.inl rfl) e⟩
 |tup xs=>obtain⟨z,l,r,g,e,c⟩:=x;exact⟨z,l,r,g,k _ _ (.inl rfl) e,c⟩
 |dK E=>obtain⟨z,y,M,r,g,j,i,e,c⟩:=x;exact⟨z,y,M,r,g,j,i,k _ _ (.inl rfl) e,c⟩
 |dT E =>
  obtain⟨z,y,xs,r,g,j,i,e,c⟩:=x;exact⟨z,y,xs,Paired.mapP r λp q z=>⟨z.1,G _ _ z.2.1,z.2.2⟩,g,j,i,k _ _ (.inl rfl) e,c⟩
 |set S n=>obtain⟨g,j,i,t,e,c⟩:=x;exact⟨g,j,i,t,k _ _ (.inl rfl) e,c⟩
 |ins C Q fs =>
  obtain⟨d,z,ne,e,s,⟨B,j,i,e2,c⟩,r⟩:=x;exact⟨L _ d,z,ne,k _ _ (.inl rfl) e,s,⟨B,j,i,k _ _ (.inr d) e2,c⟩,r⟩
 |own y=>obtain⟨g,e⟩:=x;exact⟨g,k _ _ (.inl rfl) e⟩
 |xd fs=>obtain⟨s,⟨B,j,i,e,c⟩,r⟩:=x;exact⟨s,⟨B,j,i,k _ _ (.inl rfl) e,c⟩,r⟩
 |rng lo O=>obtain⟨t,u,v,e⟩:=x;exact⟨t,u,v,k _ _ (.inl rfl) e⟩
 |frz g u F=>obtain⟨e,q⟩:=x;exact⟨k _ _ (.inl rfl) e,F q⟩
 |tbl R =>
  have e:=x;exact k a _ (.inl rfl) e
 |met f y =>
  have e:=x;exact k a _ (.inl rfl) e
 |ext φ=>obtain⟨p,⟨o,e⟩,st⟩:=x;exact⟨st _ _ p λo q=>k _ _ (.inl rfl) q,⟨o,k _ _ (.inl rfl) e⟩,st⟩
def HOk.lt(x:HOk P w H h)(e:H a=J o):a<h.objs.size:=(x a o e).lt
def HOk.fresh(x:HOk P w H h)(e:h.objs.size<=a):H a=Y:=by
 cases q:H a with
 |none=>rfl
 |some u=>exact absurd (y_ (x.lt q) e) (DH _)
def HOk.kept(x:HOk P w H h)(k:∀b u,h.get? b=J u->h'.get? b=J u):HOk P w H h':=λa o e =>
 (x a o e).stay (λb u _ q=>k b u q) (λ_ q=>q) λ_ _ q=>q
def HOk.laid(x:HOk P w H h)(k:∀b u,h.get? b=J u->h'.get? b=J u)(j:h.objs.size<=a)(new:ObjOk P w (k_ H a o) h' a o):HOk P w (k_ H a o) h':=λb u e=>by
 have g:=x.fresh j;by_cases i:b=a
 .subst i;rw[bI]at e;cases e;exact new
 .rw[aS i]at e;exact(x b u e).stay (λc v _ q=>k c v q) (λc q=>by rw[aS (bN q g)];exact q) λc xs q=>by rw[aS (bN q g)];exact q
end
def Rd(H:Hp)(a:Addr)(u:HO):Prop:=H a=J u\/∃o,H a=J (.frz o u)
def Rd.ok(r:Rd H a u)(x:HOk P w H h):ObjOk P w H h a u:=by
 rcases r with r|⟨o,r⟩
 .exact x a u r
 .obtain⟨_,q⟩:=x a _ r;exact q
def NJ:Option HO->Prop
 |some (.lst _)=>True
 |some (.dK _)=>True
 |some (.dT _)=>True
 |some (.set _ _)=>True
 |some (.ins _ _ _)=>True
 |some (.ext _)=>True
 |_=>False
section
variable{P:Program}{w:World}{H:Hp}{h h':Heap}{x e:Addr}{o':HO}
def HOk.write(ok:HOk P w H h)(j:NJ (H x))(t:e=x\/H e=J (.own x))(k:∀b u,b≠e->h.get? b=J u->h'.get? b=J u)(o:∃u,h'.get? e=J u)(new:ObjOk P w (k_ H x o') h' x o'):HOk P w (k_ H x o') h':=λb u q=>by
 have g:∀c y,H c=J (.own y)->c≠x:=λc y r z=>by subst z;rw[r]at j;exact j
 have i:∀c xs,H c=J (.tup xs)->c≠x:=λc xs r z=>by subst z;rw[r]at j;exact j
 by_cases l:b=x
 .subst l;rw[bI]at q;cases q;exact new
 .rw[aS l]at q;by_cases a:b=e
  .have s:H b=J (.own x):=by
    rcases t with z|z
    .exact absurd (a.trans z) l
    .rw[a];exact z
   rw[q]at s;cases s;obtain⟨v,hv⟩:=o;exact⟨v,by rw[a];exact hv⟩
  .refine (ok b u q).stay (λc v B r=>k c v ?_ r) (λc r=>by rw[aS (g c b r)];exact r) λc xs r=>by rw[aS (i c xs r)];exact r
   grind
end
structure Un(fs ex:SM)(H H':Hp)(h h':Heap):Prop where
 keep:∀b o,h.get? b=J o->H b=Y->b∉fs->b∉ex->h'.get? b=J o
 slot:∀b o,h.get? b=J o->H b=Y->b∈fs->b∉ex->∃sl,h'.get? b=J { o with slots:=sl}
 free:∀b o,h.get? b=J o->H b=Y->b∉ex->H' b=Y
 there:∀b o,h.get? b=J o->b∉ex->∃o',h'.get? b=J o'
 tups:∀b xs,H b=J (.tup xs)->H' b=J (.tup xs)
 frzs:∀b o u,H b=J (.frz o u)->H' b=J (.frz o u)
 tbls:∀b ps,H b=J (.tbl ps)->∃more,H' b=J (.tbl (ps++more))
section
variable{fs fs' ex ex':SM}{H H1 H2:Hp}{h h1 h2 h':Heap}{a x e:Addr}{o:HO}
def Un.any(u:Un fs ex H H1 h h1)(q:h.get? b=J ob)(n:H b=Y)(g:b∉ex):∃sl,h1.get? b=J { ob with slots:=sl}:=by
 by_cases i:b∈fs
 .exact u.slot b ob q n i g
 .exact⟨ob.slots,u.keep b ob q n i g⟩
def Un.kept(k:∀b u,h.get? b=J u->h'.get? b=J u):Un fs ex H H h h' :=
 ⟨λb g q _ _ _=>k b g q,λb g q _ _ _=>⟨g.slots,k b g q⟩,λ_ _ _ n _=>n,λb g q _=>⟨g,k b g q⟩,λ_ _ q=>q,λ_ _ _ q=>q,λ_ i q=>⟨#[],by rw[q];simp⟩⟩
def Un.refl:Un fs ex H H h h:=Un.kept λ_ _ q=>q
def Un.laid(k:∀b u,h.get? b=J u->h'.get? b=J u)(i:h.objs.size<=a)(g:H a=Y):Un fs ex H (k_ H a o) h h' where
 keep:=λb u q _ _ _=>k b u q
 slot:=λb u q _ _ _=>⟨u.slots,k b u q⟩
 free:=λb u q n _=>by rw[aS (qp (y_ (ml q) i))];exact n
 there:=λb u q _=>⟨u,k b u q⟩
 tups:=λb xs q=>by rw[aS (bN q g)];exact q
 frzs:=λb u xs q=>by rw[aS (bN q g)];exact q
 tbls:=λb j q=>⟨#[],by rw[aS (bN q g),q];simp⟩
def Un.write(i:NJ (H x))(B:e=x\/H e=J (.own x))(k:∀b u,b≠e->h.get? b=J u->h'.get? b=J u)(j:∃u,h'.get? e=J u):Un fs ex H (k_ H x o) h h':=by
 have s:∀b,H b=Y->b≠x:=λb n z=>by subst z;rw[n]at i;exact i
 have r:∀b,H b=Y->b≠e:=λb n z=>by
  simp_all
 have l:∀b u,H b=J u->¬NJ (J u)->b≠x:=λb u q t z=>by subst z;rw[q]at i;exact t i
 refine⟨λb u q n _ _=>k b u (r b n) q,λb u q n _ _=>⟨u.slots,k b u (r b n) q⟩,λb u q n _=>by rw[aS (s b n)];exact n,λb u q _=>?_,
  λb xs q=>by rw[aS (l b _ q λz=>z)];exact q,λb u xs q=>by rw[aS (l b _ q λz=>z)];exact q,λb y q=>⟨#[],by rw[aS (l b _ q λz=>z),q];simp⟩⟩
 by_cases g:b=e
 .subst g;exact j
 .exact⟨u,k b u g q⟩
end
def NK(h:Heap)(H:Hp):SM:=(List.range h.objs.size).filter λa=>(H a).isSome
def kL(h:Heap)(H:Hp):Heap:=PySem.W.hideAll h (NK h H)
def A8(h:Heap)(H:Hp):(kL h H).objs.size=h.objs.size:=PySem.W.hideAll_size _ _
def Cr(e:h.get? b=J o)(n:H b=Y):(kL h H).get? b=J o :=
 PySem.W.hideAll_get _ e λa=>by
  have q:=(E4.mp a).2;rw[n]at q;simp at q
def Fi(e:(kL h H).get? b=J o):h.get? b=J o/\H b=Y:=by
 have a:=PySem.W.of_hideAll (NK h H) e;refine⟨a,?_⟩
 cases q:H b with
 |none=>rfl
 |some x =>
  have g:b∈NK h H:=E4.mpr ⟨Ey.mpr (ml a),by simp[q]⟩;have z:(kL h H).get? b=Y:=PySem.W.hideAll_none (NK h H) g;rw[z]at e;cases e
structure Mod(K:ij)(mg:SD)(base:Heap):Prop where
 kin:K.In base
 glob:base.Ns mainGlobals mg
 blt:∃mb,base.Ns builtinsNs mb/\∀x:Str,x≠"__name__"->mb x=bootBuiltins x
 nolimit:base.NoLimit
structure Cx where
 prog:Program
 w:World
 K:ij
 mg:Str->SU
 base:Heap
 A:Around
 N:R5
 s₀:Shared
 H₀:Hp
 env:Env
 outer:List Env
 stack:List Env
 ex:SM
 fn:Str->Bool
 calm:Bool
 pn:SS
 xe:Value->Shared->Prop
def A_(l:List Env):SM:=l.filterMap (·.frame)
abbrev Cx.fs(X:Cx):SM:=A_ X.outer
def NL(a:Scope)(x:Str):Prop:=a.names.lookup x=J .local\/a.names.lookup x=J .cell\/a.names.lookup x=J .free
def Loc(a:Scope)(x:Str):Prop:=a.names.lookup x=J .local\/a.names.lookup x=J .cell
def Look(env:Env)(h:Heap)(m:SD)(x:Str)(u:Value):Prop :=
 (env.kindOf x=J .local/\m x=J u)\/((env.kindOf x=J .cell\/env.kindOf x=J .free)/\∃c,env.cells.lookup x=J c/\h.IsCell c (J u))
structure Cx.Ok(X:Cx):Prop where
 mod:Mod X.K X.mg X.base
 kind:X.env.scope.kind=.function
 glob:X.env.globals=mainGlobals
 blt:X.env.builtins=builtinsNs
 above:X.s₀.heap.objs.size<=X.env.locals
 inj:∀x y c,X.env.cells.lookup x=J c->X.env.cells.lookup y=J c->x=y
 has:∀x,(X.env.kindOf x=J .cell\/X.env.kindOf x=J .free)->∃c,X.env.cells.lookup x=J c
 cab:∀x c,X.fn x=I->X.env.cells.lookup x=J c->X.s₀.heap.objs.size<=c
 hd:X.calm=I->X.A.handled=Y
 frames:X.A.frames=J X.stack
 stk:X.stack=X.outer\/(X.stack=X.env::X.outer/\X.env.frame=J X.env.locals)
 exf:∀b∈X.ex,b≠X.env.locals/\∀x c,X.env.cells.lookup x=J c->c≠b
 bs:∀b o,X.base.get? b=J o->X.s₀.heap.get? b=J o/\X.H₀ b=Y
 bsz:X.base.objs.size<=X.s₀.heap.objs.size
 noex:∀b o,X.base.get? b=J o->b∉X.ex
 exfs:∀b∈X.ex,b∉X.fs
 funs:X.s₀.heap.FunFrames X.base X.outer
 frf:∀b∈X.fs,X.H₀ b=Y
structure Inv(X:Cx)(Kt:SS)(Z:List (Option V))(H:Hp)(s:Shared):Prop where
 ok:X.Ok
 os:s.os=X.s₀.os
 bare:AllBare s.gens
 base:Un X.fs X.ex X.H₀ H X.s₀.heap s.heap
 loc:∃m,s.heap.Ns X.env.locals m/\∀(i:Nat)(x:Str)(v:V),X.N[i]?=J x->Z[i]?=J (J v)->NL X.env.scope x->∃u,aW v u/\Look X.env s.heap m x u
 cell:∀x c,X.env.cells.lookup x=J c->∃v,s.heap.IsCell c v
 free:H X.env.locals=Y
 freeC:∀x c,X.env.cells.lookup x=J c->H c=Y
 pin:∀p∈X.pn++Kt,s.heap.get? p.1=J p.2/\H p.1=Y/\p.1≠X.env.locals/\p.1∉X.fs/\∀v,p.2.data≠.cell v
 hok:HOk X.prog X.w H s.heap
 len:Z.length=X.N.length
section
variable{X:Cx}{Kt:List (Addr × Obj)}{Z:List (Option V)}{H H':Hp}{s:Shared}{h':Heap}
def Cx.Ok.nofr(ok:X.Ok)(e:X.base.get? b=J o):b∉X.fs:=λa=>by
 have:=(ok.funs.mem a).1
 rw[e]at this;cases this
def Inv.bs(a:Inv X Kt Z H s):∀b o,X.base.get? b=J o->s.heap.get? b=J o/\H b=Y:=λb o e =>
 ⟨a.base.keep b o (a.ok.bs b o e).1 (a.ok.bs b o e).2 (a.ok.nofr e) (a.ok.noex b o e),a.base.free b o (a.ok.bs b o e).1 (a.ok.bs b o e).2 (a.ok.noex b o e)⟩
def Inv.bk(a:Inv X Kt Z H s):∀b o,X.base.get? b=J o->s.heap.get? b=J o:=λb o e=>(a.bs b o e).1
def Inv.mod(a:Inv X Kt Z H s):Mod X.K X.mg X.base:=a.ok.mod
def Inv.kIn(a:Inv X Kt Z H s):X.K.In s.heap:=a.ok.mod.kin.keeps a.bk
def Inv.lt(a:Inv X Kt Z H s):X.env.locals<s.heap.objs.size:=let⟨_,e,_⟩:=a.loc;e.lt
def Inv.sz(a:Inv X Kt Z H s):X.s₀.heap.objs.size<=s.heap.objs.size:=tx a.ok.above (Fh a.lt)
def Inv.nofs(e:Inv X Kt Z H s){a:Addr}(h:s.heap.objs.size<=a):a∉X.fs:=λi=>by
 obtain⟨_,o,g,_⟩:=e.ok.funs.mem i;exact absurd (y_ (ml g) (tx e.sz h)) (DH _)
def Inv.cne(a:Inv X Kt Z H s):∀x c,X.env.cells.lookup x=J c->c≠X.env.locals:=λx c e z=>by
 obtain⟨v,o,j,hd⟩:=a.cell x c e;obtain⟨m,⟨l,t,r,g,i,_⟩,_⟩:=a.loc;rw[z,g]at j;cases j;rw[i]at hd;cases hd
def Inv.funs(a:Inv X Kt Z H s):s.heap.FunFrames X.base X.outer:=by
 have all:∀(l:List Env),(∀b∈A_ l,b∈X.fs)->X.s₀.heap.FunFrames X.base l->s.heap.FunFrames X.base l:=by
  intro l
  induction l with
  |nil=>intro _ _;trivial
  |cons env r t =>
   intro i j;obtain⟨B,⟨L,o,hf,y,u,hd⟩,C⟩:=j;have hL:=i L (by delta A_;rw[Lb,hf];exact BD);obtain⟨sl,e⟩:=a.base.slot L o u (a.ok.frf L hL) hL λz=>a.ok.exfs L z hL;exact⟨B,⟨L,_,hf,y,e,hd⟩,t (λb g=>i b (by delta A_;rw[Lb,hf];exact oh _ g)) C⟩
 exact all X.outer (λ_ g=>g) a.ok.funs
def Inv.stack(a:Inv X Kt Z H s):s.heap.FunFrames X.base X.stack:=by
 rcases a.ok.stk with e|⟨e,hf⟩
 .rw[e];exact a.funs
 .rw[e];obtain⟨m,g,_⟩:=a.loc;refine .cons (by rw[a.ok.kind];decide) hf g ?_ a.funs;exact Heap.get?_none_of_le (tx a.ok.bsz a.ok.above)
def Inv.stkSub(g:Inv X Kt Z H s):∀b∈A_ X.stack,b∈X.env.locals::X.fs:=λb a=>by
 rcases g.ok.stk with e|⟨e,hf⟩
 .rw[e]at a;exact oh _ a
 .rw[e]at a;unfold A_ at a;rw[Lb,hf]at a;exact a
def Inv.stkFree(a:Inv X Kt Z H s):∀b∈A_ X.stack,H b=Y:=λb g=>by
 rcases nk.mp (a.stkSub b g)with e|g
 .rw[e];exact a.free
 .obtain⟨_,o,i,_⟩:=a.ok.funs.mem g;exact a.base.free b o i (a.ok.frf b g) λz=>a.ok.exfs b z g
def Inv.step{g':Array GenState}{t':Nat}{d':Drawn}{ch:SM}(a:Inv X Kt Z H s)(y:∀b∈ch,(b∈X.ex\/X.s₀.heap.objs.size<=b)/\b≠X.env.locals/\(∀x c,X.env.cells.lookup x=J c->c≠b)/\∀p∈X.pn++Kt,p.1≠b)(keep:∀b o,b≠X.env.locals->b∉X.fs->b∉ch->s.heap.get? b=J o->H b=Y->h'.get? b=J o)(slot:∀b o,b≠X.env.locals->b∈X.fs->b∉ch->s.heap.get? b=J o->H b=Y->∃sl,h'.get? b=J { o with slots:=sl})(free:∀b o,b∉ch->s.heap.get? b=J o->H b=Y->H' b=Y)(there:∀b o,b∉ch->s.heap.get? b=J o->∃L,h'.get? b=J L)(tups:∀b xs,H b=J (.tup xs)->H' b=J (.tup xs))(frzs:∀b o u,H b=J (.frz o u)->H' b=J (.frz o u))(tbls:∀b M,H b=J (.tbl M)->∃F,H' b=J (.tbl (M++F)))(ns:∀m,s.heap.Ns X.env.locals m->h'.Ns X.env.locals m)(hok:HOk X.prog X.w H' h')(hg:AllBare g'):
  Inv X Kt Z H' { s with heap:=h',gens:=g',drawn:=d',toks:=t'}:=by
 have G:∀b o,X.s₀.heap.get? b=J o->b≠X.env.locals:=λb o e=>qp (y_ (ml e) a.ok.above);have B:∀b o,X.s₀.heap.get? b=J o->b∉X.ex->b∉ch:=λb o e g C=>by
  rcases(y b C).1 with z|z
  .exact g z
  .exact absurd (y_ (ml e) z) (DH _)
 have j:∀x c,X.env.cells.lookup x=J c->∀v,s.heap.IsCell c v->h'.IsCell c v:=λx c e v ⟨o,E,hd⟩=>by
  have t:c∉ch:=λz=>(y c z).2.2.1 x c e rfl;by_cases P:c∈X.fs
  .obtain⟨sl,q⟩:=slot c o (a.cne x c e) P t E (a.freeC x c e);exact⟨_,q,hd⟩
  .exact⟨o,keep c o (a.cne x c e) P t E (a.freeC x c e),hd⟩
 refine⟨a.ok,a.os,hg,⟨λb o e n C g=>?_,λb o e n C g=>?_,λb o e n g=>?_,λb o e g=>?_,λb xs e=>tups b xs (a.base.tups b xs e),λb o xs e=>frzs b o xs (a.base.frzs b o xs e),λb M e=>?_⟩,?_,λx c e=>?_,?_,λx c e=>?_,λp R=>?_,hok,a.len⟩
 .exact keep b o (G b o e) C (B b o e g) (a.base.keep b o e n C g) (a.base.free b o e n g)
 .obtain⟨sl,e1⟩:=a.base.slot b o e n C g;obtain⟨O,e2⟩:=slot b _ (G b o e) C (B b o e g) e1 (a.base.free b o e n g);exact⟨O,e2⟩
 .obtain⟨L,e1⟩:=a.base.there b o e g;exact free b L (B b o e g) e1 (a.base.free b o e n g)
 .obtain⟨L,e1⟩:=a.base.there b o e g;exact there b L (B b o e g) e1
 .obtain⟨S,e1⟩:=a.base.tbls b M e;obtain⟨m2,e2⟩:=tbls b _ e1;exact⟨S++m2,by rw[e2,Array.append_assoc]⟩
 .obtain⟨m,W,U⟩:=a.loc;refine⟨m,ns m W,λi x v e1 e2 e3=>?_⟩;obtain⟨u,r,l⟩:=U i x v e1 e2 e3;refine⟨u,r,?_⟩;rcases l with l|⟨k,c,e,z⟩
  .exact .inl l
  .exact .inr ⟨k,c,e,j x c e _ z⟩
 .obtain⟨v,z⟩:=a.cell x c e;exact⟨v,j x c e v z⟩
 .obtain⟨m,⟨o,_,_,E,_⟩,_⟩:=a.loc;exact free _ o (λz=>(y _ z).2.1 rfl) E a.free
 .obtain⟨v,o,E,hd⟩:=a.cell x c e;exact free c o (λz=>(y c z).2.2.1 x c e rfl) E (a.freeC x c e)
 .obtain⟨e,n,ne,Q,d⟩:=a.pin p R;have t:p.1∉ch:=λz=>(y p.1 z).2.2.2 p R rfl;exact⟨keep p.1 p.2 ne Q t e n,free p.1 p.2 t e n,ne,Q,d⟩
def Inv.un{t':Nat}(a:Inv X Kt Z H s)(u:Un X.fs [] H H' s.heap h')(hok:HOk X.prog X.w H' h'):Inv X Kt Z H' { s with heap:=h',toks:=t'}:=by
 obtain⟨m,⟨o,G,F,t,r⟩,_⟩:=id a.loc;obtain⟨sl,hL⟩:=u.any t a.free (by simp)
 exact a.step (g':=s.gens) (d':=s.drawn) (ch:=[]) (λ_ z=>nomatch z) (λb o _ i _ e n=>u.keep b o e n i (by simp)) (λb o _ i _ e n=>u.slot b o e n i (by simp)) (λb o _ e n=>u.free b o e n (by simp)) (λb o _ e=>u.there b o e (by simp)) u.tups u.frzs u.tbls (λE y=>by
  obtain⟨C,l,j,g,B⟩:=y;rw[t]at g;cases g
  exact⟨_,l,j,hL,B⟩) hok a.bare
def Inv.call{g':Array GenState}{t':Nat}{d':Drawn}{y:SM}(a:Inv X Kt Z H s)(u:Un (A_ X.stack) y H H' s.heap h')(hok:HOk X.prog X.w H' h')(G:AllBare g')(j:∀b∈y,(b∈X.ex\/X.s₀.heap.objs.size<=b)/\b≠X.env.locals/\(∀x c,X.env.cells.lookup x=J c->c≠b)/\∀p∈X.pn++Kt,p.1≠b):
  Inv X Kt Z H' { s with heap:=h',gens:=g',drawn:=d',toks:=t'}:=by
 obtain⟨m,⟨o,P,O,B,r⟩,_⟩:=id a.loc;obtain⟨sl,hL⟩:=u.any B a.free λz=>(j _ z).2.1 rfl
 exact a.step j (λb o hL C g e n=>u.keep b o e n (λz=>(nk.mp (a.stkSub b z)).elim hL C) g) (λb o _ _ g e n=>u.any e n g) (λb o g e n=>u.free b o e n g) (λb o g e=>u.there b o e g) u.tups u.frzs u.tbls (λM E=>by
  obtain⟨L,t,l,i,F⟩:=E;rw[B]at i;cases i
  exact⟨_,t,l,hL,F⟩) hok G
def Inv.turned{t':Nat}{a:Addr}(i:Inv X Kt Z H s)(k:∀b o,b≠a->s.heap.get? b=J o->h'.get? b=J o)(F:H a=Y)(hL:a≠X.env.locals)(C:a∈X.ex\/X.s₀.heap.objs.size<=a)(E:∀x c,X.env.cells.lookup x=J c->c≠a)(l:∀p∈X.pn++Kt,p.1≠a):Inv X Kt Z H { s with heap:=h',toks:=t'}:=by
 have j:∀b u,H b=J u->b≠a:=λb u e z=>by rw[z,F]at e;cases e
 refine i.step (g':=s.gens) (d':=s.drawn) (ch:=[a]) (λb y=>?_) (λb o _ _ g e _=>k b o (λz=>g (by simp[z])) e) (λb o _ _ g e _=>⟨o.slots,k b o (λz=>g (by simp[z])) e⟩) (λ_ _ _ _ n=>n)
  (λb o g e=>⟨o,k b o (λz=>g (by simp[z])) e⟩) (λ_ _ e=>e) (λ_ _ _ e=>e) (λb M e=>⟨#[],by rw[e];simp⟩) (λm B=>?_) (λb u e=>?_) i.bare
 .have e:b=a:=by simpa using y
  subst e;exact⟨C,hL,E,l⟩
 .obtain⟨o,L,G,t,r⟩:=B;exact⟨o,L,G,k _ o (Ne.symm hL) t,r⟩
 .refine (i.hok b u e).stay (λc v g q=>k c v ?_ q) (λ_ q=>q) λ_ _ q=>q;rcases g with z|z
  .rw[z];exact j b u e
  .exact j c _ z
def Inv.tok(a:Inv X Kt Z H s)(t:Nat):Inv X Kt Z H { s with toks:=t}:=a.un (h':=s.heap) (t':=t) Un.refl a.hok
def Inv.kept(a:Inv X Kt Z H s)(k:∀b u,s.heap.get? b=J u->h'.get? b=J u):Inv X Kt Z H { s with heap:=h',toks:=t'}:=a.un (Un.kept k) (a.hok.kept k)
def Inv.laid{a:Addr}{o:HO}{t':Nat}(e:Inv X Kt Z H s)(k:∀b u,s.heap.get? b=J u->h'.get? b=J u)(g:s.heap.objs.size<=a)(new:ObjOk X.prog X.w (k_ H a o) h' a o):
  Inv X Kt Z (k_ H a o) { s with heap:=h',toks:=t'}:=e.un (Un.laid k g (e.hok.fresh g)) (e.hok.laid k g new)
def Inv.write(g:Inv X Kt Z H s)(i:NJ (H x))(j:e=x\/H e=J (.own x))(k:∀b u,b≠e->s.heap.get? b=J u->h'.get? b=J u)(a:∃u,h'.get? e=J u)(new:ObjOk X.prog X.w (k_ H x o) h' x o):Inv X Kt Z (k_ H x o) { s with heap:=h',toks:=t'}:=g.un (Un.write i j k a) (g.hok.write i j k a new)
def Inv.pins_of(a:Inv X Kt Z H s)(h:∀p∈e,s.heap.get? p.1=J p.2/\H p.1=Y/\p.1≠X.env.locals/\p.1∉X.fs/\∀v,p.2.data≠.cell v):Inv X e Z H s :=
 ⟨a.ok,a.os,a.bare,a.base,a.loc,a.cell,a.free,a.freeC,λp g=>(n9.mp g).elim (λz=>a.pin p (C7 _ z)) (h p),a.hok,a.len⟩
def pG{N:R5}(hN:N.Nodup){i j:Nat}{x:Str}(a:N[i]?=J x)(b:N[j]?=J x):i=j:=by obtain⟨e,e1⟩:=mw.mp a;obtain⟨g,e2⟩:=mw.mp b;exact(List.getElem_inj hN).mp (e1.trans e2.symm)
def AK{M:Model}{A:Around}{E:SA}{i:Nat}{x:Str}{v:V}{u:Value}{Q:Unit->Shared->Prop}(g:Inv X Kt Z H s)(hN:X.N.Nodup)(S:X.N[i]?=J x)(C:Loc X.env.scope x)(r:aW v u)(h:∀s',Inv X Kt (Z.set i (J v)) H s'->(∃a,Heap.SameBut a s.heap s'.heap/\(a=X.env.locals\/X.env.cells.lookup x=J a))->Q () s')(hf:X.fn x=I\/X.env.scope.names.lookup x=J .local:=by first | exact .inl rfl | exact .inr rfl | assumption):wpAny M A (storeName X.env x u) Q E s:=by
 obtain⟨m,hn,hl⟩:=id g.loc;have W:(X.env.scope.kind == .class||(X.env.scope.kind == .module&&X.env.locals != X.env.globals))=T:=by rw[g.ok.kind];rfl
 have G:i<Z.length:=by rw[g.len];exact(mw.mp S).1
 have cne:=g.cne;have t:∀{a:Addr}{h':Heap},(∃o,s.heap.get? a=J o/\H a=Y)->Heap.SameBut a s.heap h'->HOk X.prog X.w H h':=λ{a h'} ha l b ob e=>by
  obtain⟨_,_,F⟩:=ha;refine(g.hok b ob e).stay (λc w' B q=>(l.2 c ?_).trans q) (λ_ q=>q) λ_ _ q=>q;rintro rfl;rcases B with rfl|B
  .rw[F]at e;cases e
  .rw[F]at B;cases B
 rcases C with L|L
 .refine wpAny_storeName_local L hn (λh' as l=>?_) W;obtain⟨oL,_,_,ap,_⟩:=id hn;refine h _ ⟨g.ok,g.os,g.bare,⟨λb o e n P C=>?_,λb o e n P C=>?_,g.base.free,λb o e C=>?_,g.base.tups,g.base.frzs,g.base.tbls⟩,⟨_,as,λj y v' e1 e2 e3=>?_⟩,λy c e=>?_,g.free,g.freeC,λp hp=>?_,t ⟨oL,ap,g.free⟩ l,by simpa using g.len⟩ ⟨_,l,.inl rfl⟩
  .exact (l.2 b (qp (y_ (ml e) g.ok.above))).trans (g.base.keep b o e n P C)
  .obtain⟨sl,e1⟩:=g.base.slot b o e n P C;exact⟨sl,(l.2 b (qp (y_ (ml e) g.ok.above))).trans e1⟩
  .obtain⟨o',e1⟩:=g.base.there b o e C;exact⟨o',(l.2 b (qp (y_ (ml e) g.ok.above))).trans e1⟩
  .by_cases O:j=i
   .subst O;rw[S]at e1;cases e1;rw[BO G]at e2;cases e2;exact⟨u,r,.inl ⟨L,by simp⟩⟩
   .rw[pq (Ne.symm O)]at e2;obtain⟨u',r',q⟩:=hl j y v' e1 e2 e3;refine⟨u',r',?_⟩;rcases q with⟨k,e⟩|⟨k,c,e,z⟩
    .refine .inl ⟨k,?_⟩
     have:y≠x:=λe=>O (pG hN e1 (e▸S))
     simp[this,e]
    .exact .inr ⟨k,c,e,z.sameBut l (cne y c e)⟩
  .obtain⟨w',z⟩:=g.cell y c e;exact⟨w',z.sameBut l (cne y c e)⟩
  .obtain⟨e,n,ne,nf,d⟩:=g.pin p hp;exact⟨(l.2 p.1 ne).trans e,n,ne,nf,d⟩
 .have R:X.fn x=I:=by
   rcases hf with z|z
   .exact z
   .rw[z]at L;cases L
  obtain⟨c,B⟩:=g.ok.has x (.inl L);obtain⟨w',z⟩:=g.cell x c B;refine wpAny_storeName_cell g.ok.kind L B z (λh' ab l=>?_);obtain⟨oc,al,an⟩:=id z;refine h { s with heap:=h'} ⟨g.ok,g.os,g.bare,⟨λb o e n P C=>?_,λb o e n P C=>?_,g.base.free,λb o e C=>?_,g.base.tups,g.base.frzs,g.base.tbls⟩,⟨m,hn.sameBut l (Ne.symm (cne x c B)),λj y v' e1 e2 e3=>?_⟩,λy c' e=>?_,g.free,g.freeC,λp hp=>?_,t ⟨oc,al,g.freeC x c B⟩ l,by simpa using g.len⟩ ⟨c,l,.inr B⟩
  .exact (l.2 b (qp (y_ (ml e) (g.ok.cab x c R B)))).trans (g.base.keep b o e n P C)
  .obtain⟨sl,e1⟩:=g.base.slot b o e n P C;exact⟨sl,(l.2 b (qp (y_ (ml e) (g.ok.cab x c R B)))).trans e1⟩
  .obtain⟨o',e1⟩:=g.base.there b o e C;exact⟨o',(l.2 b (qp (y_ (ml e) (g.ok.cab x c R B)))).trans e1⟩
  .by_cases O:j=i
   .subst O;rw[S]at e1;cases e1;rw[BO G]at e2;cases e2;exact⟨u,r,.inr ⟨.inl L,c,B,ab⟩⟩
   .rw[pq (Ne.symm O)]at e2;obtain⟨u',r',q⟩:=hl j y v' e1 e2 e3;refine⟨u',r',?_⟩;rcases q with q|⟨k,c',e,z'⟩
    .exact .inl q
    .refine .inr ⟨k,c',e,z'.sameBut l ?_⟩;rintro rfl;exact O (pG hN e1 (g.ok.inj _ _ _ e B▸S))
  .by_cases U:c'=c
   .subst U;exact⟨_,ab⟩
   .obtain⟨w2,z2⟩:=g.cell y c' e;exact⟨w2,z2.sameBut l U⟩
  .obtain⟨e,n,ne,nf,d⟩:=g.pin p hp;refine⟨(l.2 p.1 ?_).trans e,n,ne,nf,d⟩;intro q;rw[q,al]at e;have q':oc=p.2:=Option.some.inj e;exact d w' (by rw[<-q'];exact an)
def pA(e:Inv X Kt Z H s)(hN:X.N.Nodup)(g:X.N[i]?=J x)(j:Loc X.env.scope x)(r:aW v u)(h:∀a,Inv X Kt (Z.set i (J v)) H a->Q () a)(hf:X.fn x=I\/X.env.scope.names.lookup x=J .local:=by first | exact .inl rfl | exact .inr rfl | assumption):wpAny M A (storeName X.env x u) Q E s :=
 AK e hN g j r (λa l _=>h a l) hf
def Inv.call'(g:Inv X Kt Z H s)(j:s'.os=s.os)(u:Un (A_ X.stack) ch H H' s.heap s'.heap)(hok:HOk X.prog X.w H' s'.heap)(l:AllBare s'.gens)(a:∀b∈ch,(b∈X.ex\/X.s₀.heap.objs.size<=b)/\b≠X.env.locals/\(∀x c,X.env.cells.lookup x=J c->c≠b)/\∀p∈X.pn++Kt,p.1≠b):Inv X Kt Z H' s':=by
 obtain⟨h',o,i,r,t⟩:=s';have e:=j;subst e;exact g.call (g':=o) (t':=r) (d':=i) u hok l a
end
abbrev XK:=Value->Option Addr->Hp->Prop
abbrev St:=List (Option V)
abbrev VK:=V->Hp->Prop
abbrev TE:=St->Hp->VK->Prop
abbrev TT:=St->Hp->(Bool->Hp->Prop)->Prop
abbrev TA:=St->Hp->(List V->Hp->Prop)->Prop
structure Ends where
 nx:St->Hp->Prop
 rt:VK
 bk:St->Hp->Prop:=λ_ _=>False
 ct:St->Hp->Prop:=λ_ _=>False
abbrev TS:=Ends->St->Hp->Prop
inductive EP(X:Cx)(Kt:SS)(Z:St)(Q:VK)(u:Value)(s':Shared):Prop
 |mk(v:V)(H':Hp)(i:Inv X Kt Z H' s')(r:aW v u)(q:Q v H'):EP X Kt Z Q u s'
inductive TP(X:Cx)(Kt:SS)(Z:St)(Q:Bool->Hp->Prop)(b:Bool)(s':Shared):Prop
 |mk(H':Hp)(i:Inv X Kt Z H' s')(q:Q b H'):TP X Kt Z Q b s'
inductive AP(X:Cx)(Kt:SS)(Z:St)(Q:List V->Hp->Prop)(us:SQ)(s':Shared):Prop
 |mk(vs:List V)(H':Hp)(i:Inv X Kt Z H' s')(r:aI vs us)(q:Q vs H'):AP X Kt Z Q us s'
inductive SN(X:Cx)(Kt:SS)(Q:St->Hp->Prop)(s':Shared):Prop
 |mk(Z':St)(H':Hp)(i:Inv X Kt Z' H' s')(q:Q Z' H'):SN X Kt Q s'
inductive SR(X:Cx)(Kt:SS)(Q:VK)(u:Value)(s':Shared):Prop
 |mk(v:V)(Z':St)(H':Hp)(i:Inv X Kt Z' H' s')(r:aW v u)(q:Q v H'):SR X Kt Q u s'
def SP(X:Cx)(a:SS)(D:Ends)(f:Flow)(e:Shared):Prop :=
 match f with
 |.next=>SN X a D.nx e
 |.brk=>SN X a D.bk e
 |.cont=>SN X a D.ct e
 |.ret u=>SR X a D.rt u e
def PE(X:Cx)(e:Expr)(t:TE):Prop :=
 ∀(a:SS)(s:Shared)(Z:St)(H:Hp)(Q:VK),Inv X a Z H s->t Z H Q->wpAny (model X.prog X.w) X.A (eval e X.env) (EP X a Z Q) X.xe s
def PT(X:Cx)(e:Expr)(t:TT):Prop :=
 ∀(a:SS)(s:Shared)(Z:St)(H:Hp)(Q:Bool->Hp->Prop),Inv X a Z H s->t Z H Q->wpAny (model X.prog X.w) X.A (isTrue e X.env (eval e X.env)) (TP X a Z Q) X.xe s
def PW(X:Cx)(e:Expr)(t:TT):Prop :=
 ∀(a:Sem Value)(g:SS)(s:Shared)(Z:St)(H:Hp)(Q:Bool->Hp->Prop),Inv X g Z H s->t Z H Q->wpAny (model X.prog X.w) X.A (isTrue e X.env a) (TP X g Z Q) X.xe s
def PW.pt(h:PW X e t):PT X e t:=h _
def PA(X:Cx)(g:SW)(t:TA):Prop :=
 ∀(a:Pos)(e:SS)(s:Shared)(Z:St)(H:Hp)(Q:List V->Hp->Prop),Inv X e Z H s->t Z H Q->wpAny (model X.prog X.w) X.A (spliced (backTo a (starEach g X.env))) (AP X e Z Q) X.xe s
def PS(X:Cx)(st:Stmt)(t:TS):Prop :=
 ∀(a:SS)(s:Shared)(Z:St)(H:Hp)(D:Ends),Inv X a Z H s->t D Z H->wpAny (model X.prog X.w) X.A (exec st X.env) (SP X a D) X.xe s
def PSs(X:Cx)(st:List Stmt)(t:TS):Prop :=
 ∀(a:SS)(s:Shared)(Z:St)(H:Hp)(D:Ends),Inv X a Z H s->t D Z H->wpAny (model X.prog X.w) X.A (execs st X.env) (SP X a D) X.xe s
def lf(h:wpAny M A t Q E s)(e:∀a s,Q a s->Q' a s):wpAny M A t Q' E s:=wpAny_mono h e λ_ _ x=>x
section
variable{X:Cx}
def OS(i:Nat):TE:=λZ H Q=>∃v,Z[i]?=J (J v)/\Q v H
def tC(v:V):TE:=λ_ H Q=>Q v H
def Ao{i:Nat}{x:Str}{pos:Pos}(hN:X.N[i]?=J x)(hv:NL X.env.scope x)(hd:(x==("__debug__":Str))=T:=by decide)(o:(x==("__classdict__":Str))=T:=by decide):PE X (.Name x pos) (OS i):=by
 intro B s Z H Q g h;obtain⟨v,e,h⟩:=h;obtain⟨m,C,y⟩:=g.loc;obtain⟨u,r,l⟩:=y i x v hN e hv;have fin:EP X B Z Q u s:=⟨v,H,g,r,h⟩;rcases l with⟨j,z⟩|⟨j,c,t,a⟩
 .exact wpAny_Name (wpAny_loadName_local g.ok.kind j C z fin) hd
 .rcases j with j|j
  .exact wpAny_Name (wpAny_loadName_cell g.ok.kind j t a fin) hd
  .exact wpAny_Name (wpAny_loadName_free g.ok.kind j t a fin o) hd
def HZ{i j pos}:PE X (.Constant (.int i) j pos) (tC (.int i)):=λ_ _ _ H _ a h=>wpAny_Constant_int ⟨.int i,H,a.tok _,⟨_,rfl⟩,h⟩
def Lj{b j pos}:PE X (.Constant (.bool b) j pos) (tC (.bl b)):=λ_ _ _ H _ a h=>Constant_bool ⟨.bl b,H,a,rfl,h⟩
def H4{j pos}:PE X (.Constant .none j pos) (tC .non):=λ_ _ _ H _ a h=>Constant_none ⟨.non,H,a,rfl,h⟩
def H_{x j pos}:PE X (.Constant (.str x) j pos) (tC (.str x)):=λ_ _ _ H _ a h=>Calls.Constant_str ⟨.str x,H,a.tok _,⟨_,rfl⟩,h⟩
def Gl(X:Cx)(x:Str):Prop:=X.env.kindOf x=J .globalImplicit
def rj{E:SA}{j:SS}{s:Shared}{Z:St}{H:Hp}{x:Str}{u:Value}{e:Pos}{Q:SA}(a:Inv X j Z H s)(i:Gl X x)(g:X.mg x=J u)(h:Q u s)(hd:(x==("__debug__":Str))=T:=by decide):wpAny (model X.prog X.w) X.A (eval (.Name x e) X.env) Q E s :=
 Calls.Name_function_global a.ok.kind i (Calls.loadGlobal_global (by rw[a.ok.glob];exact a.mod.glob.keeps a.bk) g h) hd
def gT{E:SA}{i:SS}{s:Shared}{Z:St}{H:Hp}{x:Str}{u:Value}{e:Pos}{Q:SA}(a:Inv X i Z H s)(r:Gl X x)(g:X.mg x=Y)(hv:bootBuiltins x=J u)(h:Q u s)(o:x≠"__name__":=by decide)(hd:(x==("__debug__":Str))=T:=by decide):wpAny (model X.prog X.w) X.A (eval (.Name x e) X.env) Q E s:=by
 obtain⟨mb,j,l⟩:=a.mod.blt;exact Calls.Name_function_global a.ok.kind r (Calls.loadGlobal_builtin (by rw[a.ok.glob];exact a.mod.glob.keeps a.bk) g (by rw[a.ok.blt];exact j.keeps a.bk) ((l x o).trans hv) h) hd
def w6(g:Gl X x)(e:X.mg x=J u)(r:aW v u)(hd:(x==("__debug__":Str))=T:=by decide):PE X (.Name x pos) (tC v) :=
 λ_ _ _ H _ a h=>rj a g e ⟨v,H,a,r,h⟩ hd
def nB{x:Str}{v:V}{u:Value}{e:Pos}(j:Gl X x)(i:X.mg x=Y)(hv:bootBuiltins x=J u)(r:aW v u)(g:x≠"__name__":=by decide)(hd:(x==("__debug__":Str))=T:=by decide):PE X (.Name x e) (tC v) :=
 λ_ _ _ H _ a h=>gT a j i hv ⟨v,H,a,r,h⟩ g hd
variable{a b:Expr}{ta tb:TE}{pos:Pos}
def tB(t:TE):TT:=λZ H Q=>t Z H λx e=>∃c,x=.bl c/\Q c e
def Ia(h:PE X e t)(z:∀g,isTrue e X.env g=(do let v <-g;standAt e.pos;holding [v] (truthy v)):=by intro _;rfl):PT X e (tB t):=by intro y s Z H Q i u;refine isTrue_plain (lf (h y s Z H _ i u) λv B ⟨x,j,l,o,r⟩=>?_) (z _);obtain⟨d,rfl,q⟩:=r;cases o;exact wpAny_truthy_bool ⟨j,l,q⟩
variable{tA tB':TT}{rest:SW}
def Rz(t u:TT):TT:=λZ H Q=>t Z H λc e=>if c=I then Q I e else u Z e Q
def OT(t:TT):TT:=λZ H Q=>t Z H λc e=>Q (!c) e
def Ib(i:PT X a tA):PW X (.BoolOp .Or [a] pos) tA:=by
 intro l j s Z H Q g h;refine isTrue_or (lf (i j s Z H Q g h) λc o e=>?_)
 cases c with
 |false=>exact isTrue_or_nil e
 |true=>exact e
def Lk(o:PT X a tA)(r:PW X (.BoolOp .Or (b::rest) pos) tB'):PW X (.BoolOp .Or (a::b::rest) pos) (Rz tA tB'):=by
 intro t l s Z H Q e h;refine isTrue_or (lf (o l s Z H _ e h) λc u ⟨g,i,j⟩=>?_)
 cases c with
 |true=>exact⟨g,i,j⟩
 |false=>exact r t l u Z g Q i j
def Ic(l:PT X a tA):PT X (.UnaryOp .Not a pos) (OT tA):=by intro j s Z H Q g h;exact isTrue_not (lf (l j s Z H (λc e=>Q (!c) e) g h) λ_ _ ⟨e,i,q⟩=>⟨e,i,q⟩)
def Ll(ta tb:TE):TE:=λZ H Q=>ta Z H λx e=>∃c,x=.bl c/\if c=I then tb Z e Q else Q (.bl T) e
def OU(ta tb:TE):TE:=λZ H Q=>ta Z H λx e=>∃c,x=.bl c/\if c=I then Q (.bl I) e else tb Z e Q
def Lm(ta:TE):TE:=λZ H Q=>ta Z H λx e=>∃c,x=.bl c/\Q (.bl (!c)) e
def Ie{op}(h:PE X a t):PE X (.BoolOp op [a] pos) t:=λi s Z H Q e g=>BoolOp_one (h i s Z H Q e g)
def Ig(u:PE X a ta)(r:PE X (.BoolOp .And (b::rest) pos) tb):PE X (.BoolOp .And (a::b::rest) pos) (Ll ta tb):=by
 intro l s Z H Q g h;refine BoolOp_and (lf (u l s Z H _ g h) λv t ⟨x,i,j,o,e⟩=>?_);obtain⟨c,rfl,e⟩:=e;cases o;refine wpAny_truthy_bool ?_
 cases c with
 |true=>exact r l t Z i Q j e
 |false=>exact⟨.bl T,i,j,rfl,e⟩
def Ln(u:PE X a ta)(r:PE X (.BoolOp .Or (b::rest) pos) tb):PE X (.BoolOp .Or (a::b::rest) pos) (OU ta tb):=by
 intro l s Z H Q g h;refine BoolOp_or (lf (u l s Z H _ g h) λv t ⟨x,i,j,o,e⟩=>?_);obtain⟨c,rfl,e⟩:=e;cases o;refine wpAny_truthy_bool ?_
 cases c with
 |false=>exact r l t Z i Q j e
 |true=>exact⟨.bl I,i,j,rfl,e⟩
def Ih(r:PE X a ta):PE X (.UnaryOp .Not a pos) (Lm ta):=by intro o s Z H Q g h;refine UnaryOp_ (lf (r o s Z H _ g h) λv t ⟨x,i,j,l,e⟩=>?_);obtain⟨c,rfl,e⟩:=e;cases l;exact not_of (wpAny_truthy_bool ⟨.bl (!c),i,j,rfl,e⟩)
def RB(t:TT)(ta tb:TE):TE:=λZ H Q=>t Z H λc e=>if c=I then ta Z e Q else tb Z e Q
def Cw(t:PT X c tA)(r:PE X a ta)(u:PE X b tb):PE X (.IfExp c a b pos) (RB tA ta tb):=by
 intro e s Z H Q g h;refine wpAny_IfExp (lf (t e s Z H _ g h) λd o ⟨i,j,l⟩=>?_)
 cases d with
 |true=>exact r e o Z i Q j l
 |false=>exact u e o Z i Q j l
end
def SqL(K:ij)(H:Hp)(a:Addr)(xs:List V):Prop :=
 Rd H a (.lst xs) \/
  ∃(o:Obj) (e:Array Value) (n:Nat),K.lookup a=J o/\o.cls=.type "list"/\o.dict=Y/\o.data=.seq e n/\e.size<=sizeLine/\aI xs e.toList
def SqT(K:ij)(H:Hp)(a:Addr)(xs:List V):Prop :=
 Rd H a (.tup xs) \/
  ∃(o:Obj) (e:Array Value) (n:Nat),K.lookup a=J o/\o.cls=.type "tuple"/\(o.data=.seq e n/\o.dict=Y)/\e.size<=sizeLine/\aI xs e.toList
def OV:Value->Option V
 |.none=>J .non
 |.bool b=>J (.bl b)
 |.int i _=>J (.int i)
 |.str x _=>J (.str x)
 |.bytes b _=>J (.byt b)
 |.float b _=>J (.flt b)
 |.ref a=>J (.ref a)
 |.type n=>J (.ty n)
 |_=>Y
def aW.abs(r:aW x u):OV u=J x:=by
 cases x with
 |non=>cases r;rfl
 |bl _=>cases r;rfl
 |int _=>obtain⟨t,rfl⟩:=r;rfl
 |str _=>obtain⟨t,rfl⟩:=r;rfl
 |byt _=>obtain⟨t,rfl⟩:=r;rfl
 |flt _=>obtain⟨t,rfl⟩:=r;rfl
 |ref _=>cases r;rfl
 |ty _=>cases r;rfl
def aW.inj(r:aW x u)(q:aW y u):x=y:=Option.some.inj (r.abs.symm.trans q.abs)
def aI.inj(r:aI xs us)(q:aI ys us):xs=ys:=by
 induction r generalizing ys with
 |nil=>cases q;rfl
 |cons r t g=>cases q with|cons e a=>rw[r.inj e,g a]
section
variable{X:Cx}{Kt:List (Addr × Obj)}{Z:St}{H:Hp}{s:Shared}{a:Addr}{xs ys:List V}
def SqL.of{K:ij}(h:H a=J (.lst xs)):SqL K H a xs:=.inl (.inl h)
def SqT.of{K:ij}(h:H a=J (.tup xs)):SqT K H a xs:=.inl (.inl h)
def Inv.list(i:Inv X Kt Z H s)(h:SqL X.K H a xs):∃g:SQ,aI xs g/\PlainL s.heap a g.toArray/\xs.length<=sizeLine:=by
 rcases h with h|⟨o,g,n,j,l,hd,t,u,r⟩
 .obtain⟨z,g,n,r,e⟩:=h.ok i.hok;exact⟨g,r,⟨_,n,e,rfl,rfl,rfl⟩,z⟩
 .refine⟨g.toList,r,⟨o,n,i.kIn a o j,l,hd,by simpa using t⟩,?_⟩;have e:=r.length
  grind
def Inv.tupleN(i:Inv X Kt Z H s)(h:SqT X.K H a xs):∃g:SQ,aI xs g/\iG s.heap a g.toArray/\xs.length<=sizeLine:=by
 rcases h with h|⟨o,g,n,l,t,j,u,r⟩
 .obtain⟨z,g,r,p⟩:=h.ok i.hok;exact⟨g,r,p,z⟩
 .refine⟨g.toList,r,⟨o,i.kIn a o l,t,⟨n,by simpa using j.1⟩,j.2⟩,?_⟩;have e:=r.length
  grind
def Inv.tuple(g:Inv X Kt Z H s)(h:SqT X.K H a xs):∃e:SQ,aI xs e/\IsTup s.heap a e.toArray/\xs.length<=sizeLine :=
 let⟨e,r,p,z⟩:=g.tupleN h
 ⟨e,r,p.tup,z⟩
def Inv.list_inj(i:Inv X Kt Z H s)(h:SqL X.K H a xs)(y:SqL X.K H a ys):xs=ys:=by
 obtain⟨j,r,⟨o,n,e,_,_,d⟩,_⟩:=i.list h;obtain⟨g,u,⟨z,B,l,_,_,t⟩,_⟩:=i.list y;rw[e]at l;cases l;rw[d]at t;injection t with d1 _
 have:j=g:=by simpa using congrArg Array.toList d1
 subst this;exact r.inj u
def Inv.tuple_inj(i:Inv X Kt Z H s)(h:SqT X.K H a xs)(y:SqT X.K H a ys):xs=ys:=by
 obtain⟨j,r,⟨o,e,_,n,d⟩,_⟩:=i.tuple h;obtain⟨g,u,⟨z,l,_,B,t⟩,_⟩:=i.tuple y;rw[e]at l;cases l;rw[d]at t;injection t with d1 _
 have:j=g:=by simpa using congrArg Array.toList d1
 subst this;exact r.inj u
end
section
variable{X:Cx}{Kt:List (Addr × Obj)}{Z:St}{H:Hp}{s:Shared}{E:SA}
end
section
variable{X:Cx}{st:Stmt}{rest:List Stmt}{t u:TS}{e:Expr}{te:TE}{pos:Pos}
def Lo:TS:=λD Z H=>D.nx Z H
def OW(t u:TS):TS:=λD Z H=>t { D with nx:=u D} Z H
def Fj:PSs X [] Lo:=λ_ _ Z H _ a h=>wpAny_execs_nil ⟨Z,H,a,h⟩
def BP(r:PS X st t)(y:PSs X rest u):PSs X (st::rest) (OW t u):=by
 intro g s Z H D a h;refine wpAny_execs_cons (lf (r g s Z H { D with nx:=u D} a h) λf i q=>?_)
 cases f with
 |next =>
  obtain⟨j,l,o,q⟩:=q;exact y g i j l D o q
 |ret v=>exact q
 |brk=>exact q
 |cont=>exact q
def wV(g:PS X st t):PSs X [st] t:=by
 intro i s Z H D a h;refine wpAny_execs_cons (lf (g i s Z H D a h) λf j q=>?_)
 cases f with
 |next=>exact wpAny_execs_nil q
 |ret v=>exact q
 |brk=>exact q
 |cont=>exact q
def Inv.quiet{g:SS}{Z:St}{H:Hp}{s:Shared}(a:Inv X g Z H s):interactive X.env=T:=by simp[interactive,a.ok.kind]
def Lp(te:TE):TS:=λD Z H=>te Z H λ_ a=>D.nx Z a
def Fk(l:PE X e te)(o:swapsWith e Y pos.line X.env=pure T:=by rfl):PS X (.Expr e pos) (Lp te):=by intro r s Z H D a h;exact wpAny_Expr_any (lf (l r s Z H _ a h) λv z ⟨x,g,i,y,j⟩=>⟨Z,g,i,j⟩) a.quiet o
def OX(te:TE):TS:=λD Z H=>te Z H D.rt
def Ii(l:PE X e te):PS X (.Return (J e) pos) (OX te):=by intro r s Z H D a h;exact wpAny_Return_some (lf (l r s Z H _ a h) λv y ⟨x,g,i,o,j⟩=>⟨x,Z,g,i,o,j⟩)
def OY(c:TT)(t u:TS):TS:=λD Z H=>c Z H λb a=>if b=I then t D Z a else u D Z a
def Lq(z:PT X c tc)(y:PSs X a t)(B:PSs X b u):PS X (.If c a b pos) (OY tc t u):=by
 intro g s Z H D i h;refine wpAny_If (lf (z g s Z H _ i h) λd r ⟨j,l,o⟩=>?_)
 cases d with
 |true=>exact y g r Z j D l o
 |false=>exact B g r Z j D l o
end
abbrev TG:=V->St->Hp->(St->Hp->Prop)->Prop
abbrev KH:=List V->St->Hp->(St->Hp->Prop)->Prop
def PG(X:Cx)(a:Expr)(t:TG):Prop :=
 ∀(e:SS)(s:Shared)(Z:St)(H:Hp)(v:V)(u:Value)(Q:St->Hp->Prop),Inv X e Z H s->aW v u->t v Z H Q ->
  wpAny (model X.prog X.w) X.A (assign a X.env u) (λ_ g=>SN X e Q g) X.xe s
def PGs(X:Cx)(i:SW)(t:KH):Prop :=
 ∀(e:SS)(s:Shared)(Z:St)(H:Hp)(a:List V)(g:SQ)(Q:St->Hp->Prop),Inv X e Z H s->aI a g->t a Z H Q ->
  wpAny (model X.prog X.w) X.A (assignInOrder ((assignEach i X.env).map (·.2)) g) (λ_ j=>SN X e Q j) X.xe s
abbrev dW:=V->V->V->Hp->(Hp->Prop)->Prop
inductive SE(X:Cx)(Kt:SS)(Z:St)(Q:Hp->Prop)(s':Shared):Prop
 |mk(H':Hp)(i:Inv X Kt Z H' s')(q:Q H'):SE X Kt Z Q s'
def Lr(X:Cx)(t:dW):Prop :=
 ∀(g:SS)(s:Shared)(Z:St)(H:Hp)(o i v:V)(e a u:Value)(Q:Hp->Prop),Inv X g Z H s->aW o e->aW i a->aW v u->t o i v H Q ->
  wpAny (model X.prog X.w) X.A (setItem e a u) (λ_ j=>SE X g Z Q j) X.xe s
section
variable{X:Cx}{pos:Pos}
def Ha(i:Nat):TG:=λv Z H Q=>Q (Z.set i (J v)) H
def yj(hN:X.N.Nodup)(e:X.N[i]?=J x)(g:Loc X.env.scope x)(hf:X.fn x=I\/X.env.scope.names.lookup x=J .local:=by first | exact .inl rfl | exact .inr rfl | assumption):PG X (.Name x pos) (Ha i):=by intro l s Z H v u Q a r h;exact wpAny_assign_Name (pA a hN e g r (λo j=>⟨_,H,j,h⟩) hf)
def OZ:KH:=λa Z H Q=>a=[]/\Q Z H
def Ls(t:TG)(u:KH):KH:=λa Z H Q=>∃v r,a=v::r/\t v Z H λe g=>u r e g Q
def Fl:PGs X [] OZ:=by intro i s Z H g j Q a r h;obtain⟨e,h⟩:=h;subst e;cases r;exact assignInOrder_nil ⟨Z,H,a,h⟩
def CB(B:PG X e t)(C:PGs X es u)(y:(assignEach (e::es) X.env).map (·.2)=assign e X.env::(assignEach es X.env).map (·.2):=by rfl):PGs X (e::es) (Ls t u):=by
 intro g s Z H L G Q a r h;obtain⟨v,F,e1,h⟩:=h;subst e1
 cases r with
 |cons r l =>
  rw[y];refine assignInOrder_cons (lf (B g s Z H _ _ _ a r h) λ_ z ⟨E,i,j,o⟩=>?_);exact C g z E i _ _ Q j l o
def O0(K:ij)(n:Nat)(t:KH):TG:=λv Z H Q=>∃a xs,v=.ref a/\SqT K H a xs/\xs.length=n/\t xs Z H Q
def Ij{i:SW}{k:Nat}{t:KH}{n:Nat}(C:X.calm=I)(h:PGs X i t)(M:(assignEach i X.env).length=n:=by rfl)(j:(assignEach i X.env).findIdx? (·.1)=Y:=by rfl):PG X (.Tuple i k pos) (O0 X.K n t):=by
 intro L s Z H v u Q g r l;obtain⟨a,xs,e1,E,F,l⟩:=l;subst e1;cases r;obtain⟨z,y,G,R⟩:=g.tuple E;refine assign_Tuple_tuple (g.ok.hd C) G (by simp[M,<-F,y.length]) j λP O=>?_;have B:=g.kept (t':=s.toks) λb o e=>O b o (qp (ml e)) e;exact h L _ Z H xs _ Q B (by simpa using y) l
def O3(to j:TE)(t:dW):TG:=λv Z H Q=>to Z H λo a=>j Z a λi g=>t o i v g λe=>Q Z e
def Ik(G:PE X o to)(E:PE X i ti)(M:Lr X t)(ha:∀v,assign (.Subscript o i pos) X.env v=(do
   let a <-holding [v] (eval o X.env)
   let e <-holding [v,a] (eval i X.env)
   standAt pos
   holding [v,a,e] (setItem a e v)
   release [v,a,e] []):=by intro _;rfl):PG X (.Subscript o i pos) (O3 to ti t):=by
 intro j s Z H v u Q g r h;refine d_ (wpAny_holding (lf (G j s Z H _ g h) λa O ⟨x,l,z,C,L⟩=>?_));refine d_ (wpAny_holding (lf (E j O Z l _ z L) λe P ⟨y,H2,B,W,S⟩=>?_));refine d_ (wpAny_standAt (d_ (wpAny_holding (lf (M j P Z H2 x y v a e u _ B C W r S) λ_ s3 ⟨R,U,F⟩=>?_))));exact wpAny_release ⟨Z,R,U,F⟩
def Lu(e:TE)(g:TG):TS:=λD Z H=>e Z H λx a=>g x Z a D.nx
def Il(z:PE X e te)(C:PG X tg g)(t:swapsWithSole [tg] e pos.line X.env=pure T:=by rfl)(y:swappedStores [tg] e X.env=pure Y:=by rfl)(B:(assignEach [tg] X.env).map (·.2)=[assign tg X.env]:=by rfl):PS X (.Assign [tg] e pos) (Lu te g):=by
 intro i s Z H D a h;refine wpAny_Assign_stores (lf (z i s Z H _ a h) λv u ⟨x,j,l,o,r⟩=>?_) t y;rw[B];exact lf (C i u Z j x v _ l o r) λ_ E q=>q
def Bf(hN:X.N.Nodup)(o:X.N[i]?=J x)(C:Loc X.env.scope x)(B:PE X e te)(u:swapsWith e (J (.Name x pos')) pos.line X.env=pure T:=by rfl)(hf:X.fn x=I\/X.env.scope.names.lookup x=J .local:=by first | exact .inl rfl | exact .inr rfl | assumption):
  PS X (.Assign [.Name x pos'] e pos) (Lu te (Ha i)):=by
 intro z s Z H D a h;refine wpAny_Assign_Name (lf (B z s Z H _ a h) λv E ⟨y,g,j,r,t⟩=>?_) u;exact pA j hN o C r (λF l=>⟨_,g,l,t⟩) hf
def Im(c:TT)(tb:TS):TS:=λD Z H=>∃W:Nat->St->Hp->Prop,(∃m,W m Z H)/\∀m Z H,W m Z H ->
 c Z H λb a=>if b=I then ∃N:St->Hp->Prop,(∀g i,N g i->∃e,e<m/\W e g i)/\tb { D with nx:=N,ct:=N,bk:=D.nx} Z a else D.nx Z a
def CZ(G:PassesOwn (model X.prog X.w) X.A X.env X.xe)(O:PT X c tc)(R:PSs X body tb):PS X (.While c body [] pos) (Im tc tb):=by
 intro y s Z H D t h;obtain⟨W,⟨m0,w0⟩,turn⟩:=h;refine wpAny_While (codeAny_whileLoop (λn Q=>∃E F,Inv X y E F Q/\W n E F) ?_ m0 ⟨Z,H,t,w0⟩);rintro n S ⟨j,B,M,P⟩;refine wpAny_passesOwn G (lf (O y S j B _ M (turn n j B P)) λb U ⟨L,C,i⟩=>?_)
 cases b with
 |true =>
  obtain⟨N,hN,i⟩:=i;refine wpAny_passesOwn G (lf (R y U j L _ C i) λf s3 g=>?_)
  cases f with
  |next =>
   obtain⟨a,e,z,o⟩:=g;obtain⟨l,u,r⟩:=hN a e o;exact⟨l,u,a,e,z,r⟩
  |cont =>
   obtain⟨a,e,z,o⟩:=g;obtain⟨l,u,r⟩:=hN a e o;exact⟨l,u,a,e,z,r⟩
  |brk=>exact g
  |ret v=>exact g
 |false =>
  exact wpAny_execs_nil ⟨j,L,C,i⟩
end
structure It where
 go:Nat->Hp->Prop
 yld:Nat->Hp->V->Hp->Prop
 stop:Nat->Hp->Prop
def iL(X:Cx)(a:SS)(H:Hp)(b:Addr):Prop :=
 H b=Y/\b≠X.env.locals/\b∉X.fs/\(b∈X.ex\/X.s₀.heap.objs.size<=b)/\(∀x c,X.env.cells.lookup x=J c->c≠b)/\∀p∈X.pn++a,p.1≠b
def Inv.fpOk{X:Cx}{i:SS}{Z:St}{H H':Hp}{s:Shared}{b:Addr}(a:Inv X i Z H s)(g:s.heap.objs.size<=b)(l:H' b=Y):iL X i H' b:=by
 refine⟨l,Dv (y_ a.lt g),a.nofs g,.inr (tx a.sz g),λx c e z=>?_,λp j z=>?_⟩
 .obtain⟨v,q⟩:=a.cell x c e;exact absurd (y_ q.lt (by rw[z];exact g)) (DH _)
 .exact absurd (y_ (ml (a.pin p j).1) (by rw[z];exact g)) (DH _)
inductive QG(X:Cx)(Kt:SS)(Z:St)(u:Value)(Y:V->Hp->Prop)(n:Heap->Prop)(fp:SM)(s2:Shared):Prop
 |mk(x:V)(H':Hp)(i:Inv X Kt Z H' s2)(r:aW x u)(y:Y x H')(t:n s2.heap)(f:∀b∈fp,H' b=none):QG X Kt Z u Y n fp s2
structure El(P:Program)(w:World)(K:ij)(tg:Expr)(J:It)(fp:SM)(it:Addr)(tn:Nat->Heap->Prop):Prop where
 mem:it∈fp
 obj:∀i h,tn i h->∀b∈fp,∃o,h.get? b=some o/\∀v,o.data≠.cell v
 keep:∀i h h',tn i h->(∀b∈fp,∀o,h.get? b=some o->h'.get? b=some o)->tn i h'
 item:∀(X:Cx),X.prog=P->X.w=w->X.K=K->X.calm=I->∀(i:Nat)(Kt:SS)(s:Shared)(Z:St)(H:Hp)(E:SA),Inv X Kt Z H s->(∀b∈fp,iL X Kt H b)->tn i s.heap->J.go i H ->
  wpAny (model P w) X.A (pyNext (.ref it)) (λr s1=>∃u,r=some u /\
   wpAny (model P w) X.A (letOwnedTupleGo tg (.ref it) u) (λ_ s2=>QG X Kt Z u (J.yld i H) (tn (i+1)) fp s2) E s1) E s
 done:∀(X:Cx),X.prog=P->X.w=w->X.K=K->X.calm=I->∀(i:Nat)(Kt:SS)(s:Shared)(Z:St)(H:Hp)(E:SA),Inv X Kt Z H s->(∀b∈fp,iL X Kt H b)->tn i s.heap->J.stop i H ->
  wpAny (model P w) X.A (pyNext (.ref it)) (λr s1=>r=Y/\Inv X Kt Z H s1) E s
 self:∀(A:Around)(i:Nat)(s:Shared)(Q:SA)(E:SA),tn i s.heap->Q (.ref it) s->wpAny (model P w) A (pyIter (.ref it)) Q E s
abbrev TI:=St->Hp->(It->Hp->Prop)->Prop
inductive O4(X:Cx)(Kt:SS)(Z:St)(tg:Expr)(R:It->Hp->Prop)(itv:Value)(s2:Shared):Prop
 |mk(it:Addr)(fp:SM)(tn:Nat->Heap->Prop)(J:It)(H':Hp)(e:itv=.ref it)(i:Inv X Kt Z H' s2)(t:El X.prog X.w X.K tg J fp it tn)(n:tn 0 s2.heap)(f:∀b∈fp,iL X Kt H' b)(r:R J H'):O4 X Kt Z tg R itv s2
def PI(X:Cx)(g a:Expr)(i:TI):Prop :=
 ∀(e:SS)(s:Shared)(Z:St)(H:Hp)(R:It->Hp->Prop),Inv X e Z H s->i Z H R ->
  wpAny (model X.prog X.w) X.A (eval a X.env) (λv j=>wpAny (model X.prog X.w) X.A (pyIter v) (O4 X e Z g R) X.xe j) X.xe s
def zH(i:s.heap.get? it=J o)(g:o.cls=.type n)(hd:o.data=.fields vs)(e:["enumerate","zip","dict_itemiterator","dict_reverseitemiterator","odict_iterator","itertools.zip_longest","itertools.pairwise"].contains n=T)(a:Q () s):wpAny M A (letOwnedTupleGo tg (.ref it) u) Q E s:=by
 cases tg<;>first
  |exact il a
  | (cases u<;>first
    |exact il a
    | (refine d_ (wpAny_load i ?_)
       rw[g,hd];show wpAny M A (if(["enumerate","zip","dict_itemiterator","dict_reverseitemiterator","odict_iterator","itertools.zip_longest","itertools.pairwise"].contains n&&vs[0]? == J (rawInt _))=I then _ else _) Q E s;rw[f_ (by intro h;rw[e]at h;cases h)]
       exact il a))
def O5(K:ij)(a:Addr):It :=
 ⟨λi H=>∃xs x,SqL K H a xs/\xs[i]?=J x,λi H x e=>e=H/\∀xs,SqL K H a xs->xs[i]?=J x,λi H=>∃xs,SqL K H a xs/\xs.length<=i⟩
def QH(K:ij)(a:Addr):It :=
 ⟨λi H=>∃xs x,SqT K H a xs/\xs[i]?=J x,λi H x e=>e=H/\∀xs,SqT K H a xs->xs[i]?=J x,λi H=>∃xs,SqT K H a xs/\xs.length<=i⟩
def Lv(lo:Int)(n:Nat):It:=⟨λi _=>i<n,λi H x a=>a=H/\x=.int (lo+i),λi _=>n<=i⟩
def AA{P:Program}{w:World}{K:ij}{tg:Expr}(a j:Addr):El P w K tg (O5 K a) [j] j (λi h=>h.IsListIter j a i) where
 mem:=by simp
 obj:=λi h st b l=>by
  have e:b=j:=by simpa using l
  subst e;obtain⟨o,e,c,d⟩:=st;exact⟨o,e,λv z=>by rw[d]at z;cases z⟩
 keep:=λi h h' st k=>st.at λo e=>k j (by simp) o e
 item:=by intro X U M B W i Kt s Z H E g hf st R;subst U M B;obtain⟨xs,x,t,S⟩:=R;obtain⟨y,F,p,hz⟩:=g.list t;obtain⟨u,hu,ru⟩:=F.get S;obtain⟨C,O,f2,Q,G,L⟩:=hf j (by simp);refine wpAny_pyNext_list_item st p.isList (by simpa using hu) λh' r sb=>?_;have I1:=g.turned (t':=s.toks) (λb o l e=>(sb.2 b l).trans e) C O Q G L;obtain⟨o,e,c,d⟩:=id r;exact⟨u,rfl,zH e c d (by decide) ⟨x,H,I1,ru,⟨rfl,λys hy=>by rw[g.list_inj hy t];exact S⟩,r,λb l=>(hf b l).1⟩⟩
 done:=by intro X U M B W i Kt s Z H E g hf st R;subst U M B;obtain⟨xs,t,S⟩:=R;obtain⟨y,F,p,hz⟩:=g.list t;obtain⟨C,O,f2,Q,G,L⟩:=hf j (by simp);have hl:=F.length;exact wpAny_pyNext_list_end (g.ok.hd W) st p.isList (by simp;lia) λh' eb=>⟨rfl,g.turned (t':=s.toks) (λb o l e=>eb b o l e) C O Q G L⟩
 self:=λ_ _ _ _ _ st h=>wpAny_pyIter_listiter st h
def zx{P:Program}{w:World}{K:ij}{tg:Expr}(a j:Addr):El P w K tg (QH K a) [j] j (λi h=>h.IsTupleIter j a i) where
 mem:=by simp
 obj:=λi h st b l=>by
  have e:b=j:=by simpa using l
  subst e;obtain⟨o,e,c,d⟩:=st;exact⟨o,e,λv z=>by rw[d]at z;cases z⟩
 keep:=λi h h' st k=>st.at λo e=>k j (by simp) o e
 item:=by intro X U M B W i Kt s Z H E g hf st R;subst U M B;obtain⟨xs,x,t,S⟩:=R;obtain⟨y,F,p,hz⟩:=g.tuple t;obtain⟨u,hu,ru⟩:=F.get S;obtain⟨C,O,f2,Q,G,L⟩:=hf j (by simp);refine wpAny_pyNext_tuple_item st (p) (by simpa using hu) λh' r sb=>?_;have I1:=g.turned (t':=s.toks) (λb o l e=>(sb.2 b l).trans e) C O Q G L;obtain⟨o,e,c,d⟩:=id r;exact⟨u,rfl,zH e c d (by decide) ⟨x,H,I1,ru,⟨rfl,λys hy=>by rw[g.tuple_inj hy t];exact S⟩,r,λb l=>(hf b l).1⟩⟩
 done:=by intro X U M B W i Kt s Z H E g hf st R;subst U M B;obtain⟨xs,t,S⟩:=R;obtain⟨y,F,p,hz⟩:=g.tuple t;obtain⟨C,O,f2,Q,G,L⟩:=hf j (by simp);have hl:=F.length;exact wpAny_pyNext_tuple_end (g.ok.hd W) st (p) (by simp;lia) λh' eb=>⟨rfl,g.turned (t':=s.toks) (λb o l e=>eb b o l e) C O Q G L⟩
 self:=λ_ _ _ _ _ st h=>wpAny_pyIter_tupleiter st h
def zl{P:Program}{w:World}{K:ij}{tg:Expr}(g:Addr)(lo:Int)(n:Nat):El P w K tg (Lv lo n) [g] g (λi h=>IsRangeIter h g (lo+(i:Nat)*1) ((n:Int)-(i:Nat)) 1) where
 mem:=by simp
 obj:=λi h st b j=>by
  have e:b=g:=by simpa using j
  subst e
  exact⟨_,st,λv z=>by
   have z':=z
   cases z'⟩
 keep:=λi h B st k=>k g (by simp) _ st
 item:=by intro X R O M r i Q s Z H E a hf st L;subst R O M;obtain⟨u,F,f2,G,y,C⟩:=hf g (by simp);have W:=Walks.range (prog:=X.prog) (w:=X.w) (a.ok.hd r) g lo 1 n;refine W.item i s _ _ L st λv B tk hv l kk=>?_;obtain⟨t,rfl⟩:=hv;have S:Inv X Q Z H { s with heap:=B,toks:=tk}:=a.turned (λb o j e=>kk b o (by simpa using j) e) u F G y C;refine⟨_,rfl,zH l rfl rfl (by decide) ⟨.int (lo+i),H,S,⟨t,?_⟩,⟨rfl,rfl⟩,l,λb j=>(hf b j).1⟩⟩;rw[Int.mul_one]
 done:=by intro X R O M r i Q s Z H E a hf st L;obtain⟨u,F,f2,G,y,C⟩:=hf g (by simp);exact wpAny_pyNext_range_end (a.ok.hd r) st (by have:n<=i:=L;lia) λB U=>⟨rfl,a.turned (t':=s.toks) (λb o j e=>U b o j e) u F G y C⟩
 self:=λ_ _ _ _ _ st h=>wpAny_pyIter_rangeiter st h
section
variable{X:Cx}{tg:Expr}
def Lx(K:ij)(g:TE):TI:=λZ H R=>g Z H λx e=>∃a,x=.ref a/\(∃xs,SqL K e a xs)/\R (O5 K a) e
def O6(K:ij)(g:TE):TI:=λZ H R=>g Z H λx e=>∃a,x=.ref a/\(∃xs,SqT K e a xs)/\R (QH K a) e
def Fm{l:Expr}{r:TE}(z:PE X l r):PI X tg l (Lx X.K r):=by
 intro F s Z H R j h;refine lf (z F s Z H _ j h) λv i ⟨x,t,g,B,C⟩=>?_;obtain⟨a,e,⟨xs,y⟩,q⟩:=C;subst e;cases B;obtain⟨u,G,p,L⟩:=g.list y;refine wpAny_pyIter_list p.isList ?_;refine⟨i.heap.objs.size,[i.heap.objs.size],_,_,t,rfl,g.kept (t':=i.toks) λb o e=>ls _ e,AA a _,⟨_,q0 _ rfl,rfl,rfl⟩,λb E=>?_,q⟩;have e:b=i.heap.objs.size:=by simpa using E
 subst e;exact g.fpOk (i3 _) (g.hok.fresh (i3 _))
def Io{l:Expr}{r:TE}(z:PE X l r):PI X tg l (O6 X.K r):=by
 intro F s Z H R j h;refine lf (z F s Z H _ j h) λv i ⟨x,t,g,B,C⟩=>?_;obtain⟨a,e,⟨xs,y⟩,q⟩:=C;subst e;cases B;obtain⟨u,G,p,L⟩:=g.tuple y;refine wpAny_pyIter_tuple (p) ?_;refine⟨i.heap.objs.size,[i.heap.objs.size],_,_,t,rfl,g.kept (t':=i.toks) λb o e=>ls _ e,zx a _,⟨_,q0 _ rfl,rfl,rfl⟩,λb E=>?_,q⟩;have e:b=i.heap.objs.size:=by simpa using E
 subst e;exact g.fpOk (i3 _) (g.hok.fresh (i3 _))
def vN{l:SS}{Z:St}{H:Hp}{s:Shared}{R:It->Hp->Prop}{E:SA}{lo a:Int}{t u v:Tok}{i:Nat}(j:Inv X l Z H s)(B:-(2^62)<=lo)(C:lo<2^62)(r:-(2^62)<=a)(z:a<2^62)(q:R (Lv lo (a-lo).toNat) H):wpAny (model X.prog X.w) X.A (pyIter (.ref s.heap.objs.size)) (O4 X l Z tg R) E { s with heap:=s.heap.push { cls:=.type "range",data:=.fields #[.int lo t,.int a u,.int 1 v]},toks:=i}:=by
 refine wpAny_pyIter_range (IsRange.new ..) (small_one B C r z) ?_;have g:Inv X l Z H { s with heap:=s.heap.push { cls:=.type "range",data:=.fields #[.int lo t,.int a u,.int 1 v]},toks:=i}:=j.kept λb o e=>ls _ e
 refine⟨(s.heap.push { cls:=.type "range",data:=.fields #[.int lo t,.int a u,.int 1 v]}).objs.size,[(s.heap.push { cls:=.type "range",data:=.fields #[.int lo t,.int a u,.int 1 v]}).objs.size],_,_,H,rfl,
  g.kept (t':=i) λb o e=>ls _ e,zl _ lo (a-lo).toNat,?_,λb y=>?_,q⟩
 .have e1:lo+((0:Nat):Int)*1=lo:=by simp
  have e2:(((a-lo).toNat:Nat):Int)-((0:Nat):Int)=Builtin.Range.rangeSize lo a 1:=by rw[rangeSize_one];split<;>lia
  rw[e1,e2];exact q0 _ rfl
 .have e:b=(s.heap.push { cls:=.type "range",data:=.fields #[.int lo t,.int a u,.int 1 v]}).objs.size:=by simpa using y
  subst e;exact g.fpOk (i3 _) (g.hok.fresh (i3 _))
def Ly(g:TA):TI:=λZ H R=>g Z H λa e=>∃j:Int,a=[.int j] /\ -(2^62)<=j/\j<2^62/\R (Lv 0 j.toNat) e
def Lz(g:TA):TI:=λZ H R=>g Z H λa e=>∃i j:Int,a=[.int i,.int j]/\(-(2^62)<=i/\i<2^62 /\ -(2^62)<=j/\j<2^62)/\R (Lv i (j-i).toNat) e
def Aw{a:Expr}{o:TA}{p g:Pos}(L:Gl X "range")(C:X.mg "range"=Y)(G:PA X [a] o)(B:starEach [a] X.env=[(T,eval a X.env)]:=by rfl):PI X tg (.Call (.Name "range" p) [a] [] g) (Ly o):=by
 intro E s Z H R i h;refine Call_ (gT i L C boot_range (PyProof.Rows.callWith_type1 (lf (G g E s Z H _ i h) λO P ⟨Q,M,u,y,l⟩=>?_) B rfl));obtain⟨j,e,l,F,q⟩:=l;subst e
 cases y with
 |cons r z =>
  cases z;obtain⟨t,rfl⟩:=r;exact call_range_1 (vN u ⋯ ⋯ l F (by simpa using q))
def Aj{a b:Expr}{z:TA}{p g:Pos}(S:Gl X "range")(G:X.mg "range"=Y)(P:PA X [a,b] z)(F:starEach [a,b] X.env=[(T,eval a X.env),(T,eval b X.env)]:=by rfl)(o:starEach [b] X.env=[(T,eval b X.env)]:=by rfl):
  PI X tg (.Call (.Name "range" p) [a,b] [] g) (Lz z):=by
 intro M s Z H R l h;refine Call_ (gT l S G boot_range (PyProof.Rows.callWith_type1 (lf (P g M s Z H _ l h) λW s1 ⟨vs,U,B,C,y⟩=>?_) (by rw[F,o]) (by rw[o];rfl)));obtain⟨i,j,e,⟨y,O,E,L⟩,q⟩:=y;subst e
 cases C with
 |cons r u =>
  cases u with
  |cons Q u =>
   cases u;obtain⟨t,rfl⟩:=r;obtain⟨t',rfl⟩:=Q;exact call_range_2 (vN B y O E L q)
def O7(t:TI)(g:TG)(tb:TS):TS:=λD Z H=>t Z H λa o=>∃W:Nat->Nat->St->Hp->Prop,(∃m,W 0 m Z o)/\∀i m Z H,W i m Z H ->
 (a.stop i H/\D.nx Z H)\/(a.go i H/\∃N:St->Hp->Prop,(∀l e,N l e->∃j,j<m/\W (i+1) j l e)/\∀x e,a.yld i H x e->g x Z e λr s=>tb { D with nx:=N,ct:=N,bk:=D.nx} r s)
def ng(a:SM)(h:Heap):SS:=a.filterMap λb=>(h.get? b).map λo=>(b,o)
def iq(a:b∈fp)(e:h.get? b=J o):(b,o)∈ng fp h:=Ev.mpr ⟨b,a,by rw[e];rfl⟩
def A3(g:p∈ng fp h):p.1∈fp/\h.get? p.1=J p.2:=by
 obtain⟨b,i,e⟩:=Ev.mp g
 cases q:h.get? b with
 |none=>rw[q]at e;cases e
 |some o =>
  rw[q]at e;have a:=Option.some.inj e;subst a;exact⟨i,q⟩
def Inv.pinned{i:SS}{Z:St}{H:Hp}{s:Shared}{g:SM}(a:Inv X i Z H s)(hf:∀b∈g,iL X i H b)(l:∀b∈g,∃o,s.heap.get? b=J o/\∀v,o.data≠.cell v):Inv X (i++ng g s.heap) Z H s :=
 a.pins_of λp r=>(n9.mp r).elim (λz=>a.pin p (n4 _ z)) λz=>by
  obtain⟨j,e⟩:=A3 z;obtain⟨t,B,u,_⟩:=hf p.1 j;obtain⟨o,y,d⟩:=l p.1 j
  simp_all
def Inv.unpinned{Kt g:SS}{Z:St}{H:Hp}{s:Shared}(a:Inv X (Kt++g) Z H s):Inv X Kt Z H s:=a.pins_of λp e=>a.pin p (n4 _ (C7 _ e))
def Ip(O:PassesOwn (model X.prog X.w) X.A X.env X.xe)(hc:X.calm=I)(hi:PI X tg iter wi)(hg:PG X tg g)(j:PSs X body tb)(hs:∀x,foldedSetIterable iter X.env x=pure x:=by intro _;rfl):PS X (.For tg iter body [] pos) (O7 wi g tb):=by
 intro E s Z H D ab h;refine wpAny_For (lf (hi E s Z H _ ab h) λv s1 h1=>lf h1 λas s2 h2=>?_) hs;obtain⟨it,Q,tn,ap,H2,e,I2,z,U,f2,W,⟨m0,w0⟩,turn⟩:=h2;subst e;have l:∀{B:Hp},(∀b∈Q,B b=Y)->∀b∈Q,iL X E B b:=λhn b j=>⟨hn b j,(f2 b j).2⟩;refine codeAny_forLoop_any (λn s'=>∃i R B,Inv X E R B s'/\tn i s'.heap/\(∀b∈Q,B b=Y)/\W i n R B) ?_ m0 ⟨0,Z,H2,I2,U,λb j=>(f2 b j).1,w0⟩;rintro n s3 ⟨i,G,S,I3,L,M,w3⟩;rcases turn i n G S w3 with⟨stop,qn⟩|⟨go,N,hN,step⟩
 .refine wpAny_passesOwn O (lf (z.done X rfl rfl rfl hc i E s3 G S X.xe I3 (l M) L stop) λr s4 ⟨hr,I4⟩=>?_);subst hr;exact wpAny_execs_nil ⟨G,S,I4,qn⟩
 .refine wpAny_passesOwn O (lf (z.item X rfl rfl rfl hc i E s3 G S X.xe I3 (l M) L go) λr s4 ⟨u,hr,h4⟩=>?_);subst hr;refine wpAny_passesOwn O (lf h4 λ_ s5 ⟨x,H5,I5,r5,y5,F,an⟩=>?_);have al:=I5.pinned (l an) (z.obj _ _ F);refine wpAny_passesOwn O (lf (hg _ s5 G H5 x u _ al r5 (step x H5 y5)) λ_ s6 ⟨Z6,H6,I6,q6⟩=>?_);refine wpAny_passesOwn O (lf (j _ s6 Z6 H6 _ I6 q6) λf s7 C=>?_);have again:∀{t:St}{y:Hp},Inv X (E++ng Q s5.heap) t y s7->N t y->∃m,m<n/\∃i R B,Inv X E R B s7/\tn i s7.heap/\(∀b∈Q,B b=Y)/\W i m R B:=λ{t y} a P=>by
   obtain⟨m',hm,w7⟩:=hN t y P;refine⟨m',hm,i+1,t,y,a.unpinned,z.keep _ _ _ F λb j o e=>(a.pin (b,o) (n4 _ (n4 _ (iq j e)))).1,λb j=>?_,w7⟩;obtain⟨o,e,d⟩:=z.obj _ _ F b j;exact(a.pin (b,o) (n4 _ (n4 _ (iq j e)))).2.1
  cases f with
  |next=>obtain⟨t,y,a,P⟩:=C;exact again a P
  |cont=>obtain⟨t,y,a,P⟩:=C;exact again a P
  |brk=>obtain⟨t,y,a,C⟩:=C;exact⟨t,y,a.unpinned,C⟩
  |ret v=>obtain⟨x7,t,y,a,r7,C⟩:=C;exact⟨x7,t,y,a.unpinned,r7,C⟩
end
abbrev R2:=V->V->Hp->VK->Prop
def OpR(X:Cx)(f:Value->Value->Sem Value)(r:R2):Prop :=
 ∀(a:SS)(s:Shared)(Z:St)(H:Hp)(x y:V)(v u:Value)(Q:VK),Inv X a Z H s->aW x v->aW y u->r x y H Q ->
  wpAny (model X.prog X.w) X.A (f v u) (EP X a Z Q) X.xe s
def NM(X:Cx)(f:Value->Sem Value)(r:V->Hp->VK->Prop):Prop :=
 ∀(a:SS)(s:Shared)(Z:St)(H:Hp)(x:V)(v:Value)(Q:VK),Inv X a Z H s->aW x v->r x H Q ->
  wpAny (model X.prog X.w) X.A (f v) (EP X a Z Q) X.xe s
def ce(X:Cx)(f:Value)(r:List V->Hp->VK->Prop):Prop :=
 ∀(a:SS)(s:Shared)(Z:St)(H:Hp)(xs:List V)(e:SQ)(Q:VK),Inv X a Z H s->aI xs e->r xs H Q ->
  wpAny (model X.prog X.w) X.A (call f e) (EP X a Z Q) X.xe s
def O8(X:Cx)(r:V->Hp->(Bool->Hp->Prop)->Prop):Prop :=
 ∀(a:SS)(s:Shared)(Z:St)(H:Hp)(x:V)(v:Value)(Q:Bool->Hp->Prop),Inv X a Z H s->aW x v->r x H Q ->
  wpAny (model X.prog X.w) X.A (truthy v) (TP X a Z Q) X.xe s
def LA(r:R2)(e tb:TE):TE:=λZ H Q=>e Z H λx a=>tb Z a λy g=>r x y g Q
def RC(r:V->Hp->VK->Prop)(e:TE):TE:=λZ H Q=>e Z H λx a=>r x a Q
def rI(C:Int->Int->Prop)(g:Int->Int->V):R2:=λx y H Q=>∃i j,x=.int i/\y=.int j/\C i j/\Q (g i j) H
def Hb(g:Int->Int->V):R2:=λx y H Q=>∃i j,x=.int i/\y=.int j/\Q (g i j) H
def rU(g:Int->V):V->Hp->VK->Prop:=λx H Q=>∃i,x=.int i/\Q (g i) H
section
variable{X:Cx}{a b c:Expr}{ta tb tc:TE}{pos:Pos}
def Iq(G:PE X a ta)(E:PE X b tb){l:SS}{s:Shared}{Z:St}{H:Hp}{R:V->V->Hp->Prop}(r:Inv X l Z H s)(h:ta Z H λx o=>tb Z o λy e=>R x y e){Q:SA}{f:Value->Value->Sem Value}(hf:∀v u j x y e,Inv X l Z e j->aW x v->aW y u->R x y e->wpAny (model X.prog X.w) X.A (f v u) Q X.xe j):
  wpAny (model X.prog X.w) X.A (eval a X.env) (λv i=>wpAny (model X.prog X.w) X.A (eval b X.env) (λu g=>wpAny (model X.prog X.w) X.A (f v u) Q X.xe g) X.xe i) X.xe s:=by
 refine lf (G l s Z H _ r h) λv F ⟨x,o,t,B,C⟩=>?_;refine lf (E l F Z o _ t C) λu j ⟨y,e,z,M,L⟩=>?_;exact hf v u j x y e z B M L
def LD{g:Operator}{r:R2}(j:OpR X (binaryOp g) r)(C:PE X a ta)(l:PE X b tb):PE X (.BinOp a g b pos) (LA r ta tb):=by intro B s Z H Q e h;exact wpAny_BinOp (Iq C l e h λv u t x y E i o z q=>j B t Z E x y v u Q i o z q)
def LF(l:NM X (unaryOp op) r)(u:PE X a ta):PE X (.UnaryOp op a pos) (RC r ta):=by intro g s Z H Q e h;exact UnaryOp_ (lf (u g s Z H _ e h) λv y ⟨x,i,j,t,o⟩=>l g y Z i x v Q j t o)
def RD{f:Value->Value->Sem Value}{C:Int->Int->Prop}{g:Int->Int->Int}(rule:∀(i j:Int)(t u:Tok)(s:Shared)(Q:SA)(E:SA),C i j->Q (.int (g i j) s.toks) { s with toks:=s.toks+1}->wpAny (model X.prog X.w) X.A (f (.int i t) (.int j u)) Q E s):
  OpR X f (rI C λi j=>.int (g i j)):=by
 intro B s Z H x y v u Q e o r h;obtain⟨i,j,rfl,rfl,l,q⟩:=h;obtain⟨t,rfl⟩:=o;obtain⟨z,rfl⟩:=r;exact rule i j t z s _ _ l ⟨.int (g i j),H,e.tok _,⟨_,rfl⟩,q⟩
def O9{f:Value->Value->Sem Value}{g:Int->Int->Int}(rule:∀(i j:Int)(t u:Tok)(s:Shared)(Q:SA)(E:SA),Q (.int (g i j) s.toks) { s with toks:=s.toks+1}->wpAny (model X.prog X.w) X.A (f (.int i t) (.int j u)) Q E s):
  OpR X f (Hb λi j=>.int (g i j)):=by
 intro z s Z H x y v u Q e l o h;obtain⟨i,j,rfl,rfl,q⟩:=h;obtain⟨t,rfl⟩:=l;obtain⟨r,rfl⟩:=o;exact rule i j t r s _ _ ⟨.int (g i j),H,e.tok _,⟨_,rfl⟩,q⟩
def Fo{f:Value->Value->Sem Value}{g:Int->Int->Bool}(rule:∀(i j:Int)(t u:Tok)(s:Shared)(Q:SA)(E:SA),Q (.bool (g i j)) s->wpAny (model X.prog X.w) X.A (f (.int i t) (.int j u)) Q E s):
  OpR X f (Hb λi j=>.bl (g i j)):=by
 intro z s Z H x y v u Q e l o h;obtain⟨i,j,rfl,rfl,q⟩:=h;obtain⟨t,rfl⟩:=l;obtain⟨r,rfl⟩:=o;exact rule i j t r s _ _ ⟨.bl (g i j),H,e,rfl,q⟩
def fG(i j:Int):Prop:=0<=j/\j<=1000000/\i.natAbs<2^64
def Ir:OpR X (binaryOp .Add) (Hb λi j=>.int (i+j)):=O9 λ_ _ _ _ _ _ _ q=>add_int q
def Iu:OpR X (binaryOp .Pow) (rI fG λi j=>.int (i^j.toNat)):=RD λ_ _ _ _ _ _ _ e q=>pow_int_small e.1 e.2.1 e.2.2 q
def RE{f:Value->Sem Value}{g:Int->Int}(rule:∀(i:Int)(t:Tok)(s:Shared)(Q:SA)(E:SA),Q (.int (g i) s.toks) { s with toks:=s.toks+1}->wpAny (model X.prog X.w) X.A (f (.int i t)) Q E s):
  NM X f (rU λi=>.int (g i)):=by
 intro l s Z H x v Q e j h;obtain⟨i,rfl,q⟩:=h;obtain⟨t,rfl⟩:=j;exact rule i t s _ _ ⟨.int (g i),H,e.tok _,⟨_,rfl⟩,q⟩
def Iv:NM X (unaryOp .USub) (rU λi=>.int (-i)):=RE λ_ _ _ _ _ q=>neg_int q
def zV{j:SS}{Z:St}{H:Hp}{s:Shared}{Q:VK}{k i:Bool}(g:Inv X j Z H s)(q:Q (.bl k) H)(e:k=i):EP X j Z Q (.bool i) s:=by subst e;exact⟨.bl k,H,g,rfl,q⟩
def LG:OpR X (compareOp .Lt) (Hb λi j=>.bl (decide (i<j))):=Fo λ_ _ _ _ _ _ _ q=>lt_int q
def LH:OpR X (compareOp .LtE) (Hb λi j=>.bl (decide (i<=j))):=Fo λ_ _ _ _ _ _ _ q=>le_int q
def LJ:OpR X (compareOp .Gt) (Hb λi j=>.bl (decide (j<i))):=Fo λ_ _ _ _ _ _ _ q=>gt_int q
def LK:OpR X (compareOp .GtE) (Hb λi j=>.bl (decide (j<=i))):=Fo λ_ _ _ _ _ _ _ q=>ge_int q
def Iw:OpR X (compareOp .Is) (λx y H Q=>y=.non/\Q (.bl (decide (x=.non))) H):=by
 intro j s Z H x y v u Q e g i h;obtain⟨rfl,q⟩:=h;cases i;refine is_none_gen (zV e q ?_);cases x<;>first
  |(obtain⟨t,rfl⟩:=g;rfl)
def Fp:OpR X (compareOp .IsNot) (λx y H Q=>y=.non/\Q (.bl (!decide (x=.non))) H):=by
 intro j s Z H x y v u Q e g i h;obtain⟨rfl,q⟩:=h;cases i;refine isnot_none_gen (zV e q ?_);cases x<;>first
  |(obtain⟨t,rfl⟩:=g;rfl)
def EK(b:Expr)(h:op≠.In:=by decide)(e:op≠.NotIn:=by decide):behindInMarks op b=T:=by
 have e1:(op==CmpOp.In)=T:=by cases op<;>first | rfl | exact absurd rfl h
 have e2:(op==CmpOp.NotIn)=T:=by cases op<;>first | rfl | exact absurd rfl e
 cases b<;>simp[behindInMarks,e1,e2]
def Fq{e:CmpOp}{r:R2}(j:OpR X (compareOp e) r)(E:PE X a ta)(l:PE X b tb)(z:behindInMarks e b=T):PE X (.Compare a [e] [b] pos) (LA r ta tb):=by intro C s Z H Q g h;exact wpAny_Compare1 (Iq E l g h λv u t x y F i o B q=>j C t Z F x y v u Q i o B q) z
def LL(t:TE):TT:=λZ H Q=>t Z H λx e=>∃k,x=.bl k/\Q k e
def Fs(E:OpR X (compareOp op) r)(S:PE X a ta)(G:PE X b tb)(P:behindInMarks op b=T):PT X (.Compare a [op] [b] pos) (LL (LA r ta tb)):=by
 intro i s Z H Q g h
 refine wpAny_isTrue_Compare1 (lf (S i s Z H _ g h) λv L ⟨x,j,l,t,F⟩=>lf (G i L Z j _ l F) λu M ⟨y,H2,o,W,R⟩ =>
  lf (E i M Z H2 x y v u _ o t W R) λc s3 ⟨z,O,U,B,k,e,C⟩=>?_) P
 subst e;cases B;exact wpAny_truthy_bool ⟨O,U,C⟩
def Bp(r l:R2)(ta tb tc:TE):TE:=λZ H Q=>ta Z H λx g=>tb Z g λy o=>r x y o λz e=>∃k,z=.bl k /\
 (if k=I then tc Z e λi j=>l y i j Q else Q (.bl T) e)
def BH(U:OpR X (compareOp op) r)(i:OpR X (compareOp op') r')(ha:PE X a ta)(hb:PE X b tb)(G:PE X c tc)(hm:lastMarks [op,op'] [b,c]=T:=by with_unfolding_all rfl):PE X (.Compare a [op,op'] [b,c] pos) (Bp r r' ta tb tc):=by
 intro g s Z H Q j h
 refine Compare_chain (lf (ha g s Z H _ j h) λv s1 ⟨x,C,F,P,W⟩=>chain_link (lf (hb g s1 Z C _ F W) λu s2 ⟨y,H2,O,B,q2⟩ =>
  lf (U g s2 Z H2 x y v u _ O P B q2) λd s3 ⟨z,o,t,R,k,e,l⟩=>?_)) hm
 subst e;cases R;refine wpAny_truthy_bool ?_
 cases k with
 |false=>exact ite_ff ⟨.bl T,o,t,rfl,l⟩
 |true=>exact ite_tt (chain_last (lf (G g s3 Z o _ t l) λE L ⟨z',S,I4,M,q4⟩=>i g L Z S y z' u E Q I4 B M q4))
def LM(K:ij)(x:V)(H:Hp)(k:Bool):Prop :=
 match x with
 |.non=>k=T
 |.bl b=>k=b
 |.int i=>k=(i != 0)
 |.str y=>y.length<=sizeLine/\k=((y.length:Int) != 0)
 |.byt y=>y.size<=sizeLine/\k=((y.size:Int) != 0)
 |.ref p=>(∃xs,SqL K H p xs/\k=!xs.isEmpty)\/(∃xs,SqT K H p xs/\k=!xs.isEmpty)\/∃e,H p=J (.dK e)/\k=!e.isEmpty
 |_=>False
def zb{κ:Type}{e:List (κ×V)}{g:List (κ×Value)}(r:KV e g):(!g.isEmpty)=!e.isEmpty:=by cases r<;>rfl
def pN(r:aI xs its):(!its.toArray.isEmpty)=!xs.isEmpty:=by cases r<;>simp
def pQ:(sizeLine:Nat)<2^63:=by rw[sizeLine_eq];decide
def vA:O8 X (λx H Q=>∃k,LM X.K x H k/\Q k H):=by
 intro O s Z H x v Q g u h;obtain⟨k,e,q⟩:=h;have M:sizeLine=16777216:=sizeLine_eq
 cases x with
 |non =>
  cases u;have j:k=T:=e;subst j;exact truthy_none ⟨H,g,q⟩
 |bl b =>
  cases u;have j:k=b:=e;subst j;exact wpAny_truthy_bool ⟨H,g,q⟩
 |int i =>
  obtain⟨t,rfl⟩:=u;have j:k=(i != 0):=e;subst j;exact PySem.P.truthy_int ⟨H,g,q⟩
 |str y =>
  obtain⟨t,rfl⟩:=u;obtain⟨G,j⟩:y.length<=sizeLine/\k=((y.length:Int) != 0):=e;subst j;exact PySem.P.truthy_str ⋯ ⟨H,g.tok _,q⟩
 |byt y =>
  obtain⟨t,rfl⟩:=u;obtain⟨G,j⟩:y.size<=sizeLine/\k=((y.size:Int) != 0):=e;subst j;exact PySem.W.truthy_bytes ⋯ ⟨H,g.tok _,q⟩
 |ref p =>
  cases u;have j:(∃xs,SqL X.K H p xs/\k=!xs.isEmpty)\/(∃xs,SqT X.K H p xs/\k=!xs.isEmpty)\/∃l,H p=J (.dK l)/\k=!l.isEmpty:=e;rcases j with⟨xs,z,j⟩|⟨xs,z,j⟩|⟨l,z,j⟩
  .subst j;obtain⟨C,r,E,F⟩:=g.list z;have o:=r.length;exact wpAny_truthy_list E.isList (by simp only[va];lia) ⟨H,g.tok _,by rw[pN r];exact q⟩
  .subst j;obtain⟨C,r,E,F⟩:=g.tuple z;have o:=r.length;exact truthy_tuple E (by simp only[va];lia) ⟨H,g.tok _,by rw[pN r];exact q⟩
  .subst j;obtain⟨F,L,B,r,m⟩:l.length<=sizeLine/\(p==sysModules)=T/\∃B,KV l B/\s.heap.DictOf (rR X.prog X.w) p B:=g.hok p _ z;have o:l.length=B.length:=Paired.length r;exact wpAny_truthy_dict L m ⋯ ⟨H,g.tok _,by rw[zb r];exact q⟩
 |_=>exact(show False from e).elim
def CK(z:PE X a ta)(y:∀e,isTrue a X.env e=(do let v <-e;standAt a.pos;holding [v] (truthy v))):
  PT X a (λZ H Q=>ta Z H λx i=>∃k,LM X.K x i k/\Q k i):=by
 intro j s Z H Q g h;exact isTrue_plain (lf (z j s Z H _ g h) λv u ⟨x,l,o,r,t⟩=>vA j u Z l x v Q o r t) (y _)
def zt:OpR X (binaryOp .Add) (λx y H Q=>∃i j,x=.str i/\y=.str j/\i.length+j.length<=sizeLine/\Q (.str (i++j)) H):=by intro B s Z H x y v u Q e l o h;obtain⟨i,j,rfl,rfl,g,q⟩:=h;obtain⟨t,rfl⟩:=l;obtain⟨r,rfl⟩:=o;exact add_str (λr z=>⟨.str (i++j),H,e.tok _,⟨_,rfl⟩,q⟩) g
def eN(r:aI [x] us):∃u,us=[u]/\aW x u:=by
 cases r with
 |cons g e=>cases e;exact⟨_,rfl,g⟩
def vals2(r:aI [x,y] us):∃u e,us=[u,e]/\aW x u/\aW y e:=by
 cases r with
 |cons l i =>
  cases i with
  |cons g j=>cases j;exact⟨_,_,rfl,l,g⟩
def BN:ce X (.builtin "abs") (λxs H Q=>∃i,xs=[.int i]/\Q (.int (if i<0 then -i else i)) H):=by intro j s Z H xs l Q e r h;obtain⟨i,rfl,q⟩:=h;obtain⟨u,rfl,t,rfl⟩:=eN r;exact call_abs_int λu g=>⟨.int (if i<0 then -i else i),H,e.tok _,⟨_,rfl⟩,q⟩
def sR(l:X.calm=I):ce X (.builtin "max") (λxs H Q=>∃i j,xs=[.int i,.int j]/\Q (.int (if j>i then j else i)) H):=by
 intro C s Z H xs B Q e r h;obtain⟨i,j,rfl,q⟩:=h;obtain⟨u,o,rfl,⟨t,rfl⟩,⟨E,rfl⟩⟩:=vals2 r;refine max_two_ints (e.ok.hd l) λz y k=>⟨_,H,e.kept k,?_,q⟩;by_cases g:j>i
 .rw[c_ g,c_ g];exact⟨_,rfl⟩
 .rw[f_ g,f_ g];exact⟨_,rfl⟩
def t6(l:X.calm=I):ce X (.builtin "min") (λxs H Q=>∃i j,xs=[.int i,.int j]/\Q (.int (if j<i then j else i)) H):=by
 intro C s Z H xs B Q e r h;obtain⟨i,j,rfl,q⟩:=h;obtain⟨u,o,rfl,⟨t,rfl⟩,⟨E,rfl⟩⟩:=vals2 r;refine min_two_ints (e.ok.hd l) λz y k=>⟨_,H,e.kept k,?_,q⟩;by_cases g:j<i
 .rw[c_ g,c_ g];exact⟨_,rfl⟩
 .rw[f_ g,f_ g];exact⟨_,rfl⟩
def tf:ce X (.type "int") (λxs H Q=>(∃i,xs=[.int i]/\Q (.int i) H)\/∃k,xs=[.bl k]/\Q (.int (if k then 1 else 0)) H):=by
 intro j s Z H xs l Q e r h;rcases h with⟨i,rfl,q⟩|⟨k,rfl,q⟩
 .obtain⟨u,rfl,t,rfl⟩:=eN r;exact call_int_int ⟨.int i,H,e,⟨_,rfl⟩,q⟩
 .obtain⟨u,rfl,g⟩:=eN r;cases g;exact call_int_bool ⟨.int (if k then 1 else 0),H,e.tok _,⟨_,rfl⟩,q⟩
def O_(K:ij)(x:V)(H:Hp)(n:Nat):Prop :=
 match x with
 |.str y=>y.length<=sizeLine/\n=y.length
 |.byt y=>y.size<=sizeLine/\n=y.size
 |.ref p=>(∃xs,SqL K H p xs/\n=xs.length)\/∃xs,SqT K H p xs/\n=xs.length
 |_=>False
def lg:ce X (.builtin "len") (λxs H Q=>∃x n,xs=[x]/\O_ X.K x H n/\Q (.int n) H):=by
 intro M s Z H xs L Q g r h;obtain⟨x,n,rfl,e,q⟩:=h;obtain⟨u,rfl,o⟩:=eN r;have G:=sizeLine_eq
 cases x with
 |str y =>
  obtain⟨t,rfl⟩:=o;obtain⟨E,j⟩:=e;subst j;exact len_str ⋯ ⟨.int _,H,g.tok _,⟨_,rfl⟩,q⟩
 |byt y =>
  obtain⟨t,rfl⟩:=o;obtain⟨E,j⟩:=e;subst j;exact PySem.W.len_bytes ⋯ ⟨.int _,H,g.tok _,⟨_,rfl⟩,q⟩
 |ref p =>
  cases o;have j:=e;rcases j with⟨xs,C,j⟩|⟨xs,C,j⟩
  .subst j;obtain⟨l,B,z,F⟩:=g.list C;have i:=B.length;exact Calls.call_len_list z.isList (by simp only[va];lia) ⟨.int xs.length,H,g.tok _,⟨_,by simp only[va];rw[i]⟩,q⟩
  .subst j;obtain⟨l,B,z,F⟩:=g.tuple C;have i:=B.length;exact len_tuple z (by simp only[va];lia) ⟨.int xs.length,H,g.tok _,⟨_,by simp only[va];rw[i]⟩,q⟩
 |_=>exact(e).elim
end
section
variable{prog:Program}{w:World}{A:Around}{E:SA}{s:Shared}{K:ij}{x dx C f:Addr}{mA:SD}{name:Str}{v:Value}
end
section
variable{P:Program}{w:World}{H H':Hp}{h h':Heap}{a C dx:Addr}{fs fs':List (Str × V)}
end
section
variable{X:Cx}{Kt:List (Addr × Obj)}{Z:St}{H:Hp}{s:Shared}{a C dx:Addr}{fs:List (Str × V)}{f:Str}{v:V}{A:Around}{E:SA}
end
section
variable{X:Cx}{o e value:Expr}{f:Str}{pos pos' tpos:Pos}{ta tv:TE}
end
section
variable{X:Cx}{Kt:List (Addr × Obj)}{Z:St}{H:Hp}{s:Shared}{A:Around}{E:SA}{Q:SA}{c:Value}{b:Bool}
end
structure Room(k:Nat)(A:Around):Prop where
 hd:A.handled=Y
 dp:A.depth+3*k+5<recursionLimit
 un:A.units+16*k+200<cLine
 gd:A.guards=J []
def Room.mono(r:Room k A)(h:j<=k):Room j A:=⟨r.hd,by have:=r.dp;lia,by have:=r.un;lia,r.gd⟩
def Room.deeper(r:Room (k+1) A)(env:Env):Room k (A.deeper env) :=
 ⟨r.hd,by have:=r.dp;show A.depth+1+3*k+5<_;lia,by have:=r.un;show A.units+3+16*k+200<_;lia,r.gd⟩
def Room.depth(r:Room k A):A.depth<recursionLimit:=by have:=r.dp;lia
def Room.units(r:Room k A):A.units+64<cLine:=by have:=r.un;lia
def Pa:TA:=λ_ H Q=>Q [] H
def LN(e:TE)(i:TA):TA:=λZ H Q=>e Z H λx a=>i Z a λxs g=>Q (x::xs) g
section
variable{X:Cx}{e:Expr}{es:SW}{te:TE}{t:TA}{pos:Pos}
def d7:PA X [] Pa:=λ_ _ _ _ H Q a h=>Calls.spliced_nil ⟨[],H,a,.nil,h⟩
def bS(C:PE X e te)(G:PA X es t)(y:starEach (e::es) X.env=(T,eval e X.env)::starEach es X.env:=by rfl):PA X (e::es) (LN te t):=by intro pos g s Z H Q a h;rw[y];show wpAny _ _ (spliced ((T,eval e X.env)::backTo pos (starEach es X.env))) _ _ s;refine Calls.spliced_cons (lf (C g s Z H _ a h) λu z ⟨x,i,j,o,r⟩=>?_);exact lf (G pos g z Z i _ j r) λL M ⟨xs,F,l,E,B⟩=>⟨x::xs,F,l,.cons o E,B⟩
def Pc(t:TA):TE:=λZ H Q=>t Z H λxs a=>xs.length<=sizeLine/\∀p,a p=Y->Q (.ref p) (k_ a p (.tup xs))
def Ph(t:TA):TE:=λZ H Q=>t Z H λxs a=>xs.length<=sizeLine/\∀p,a p=Y->Q (.ref p) (k_ a p (.lst xs))
def uM{x1}(h:PA X es t):PE X (.Tuple es x1 pos) (Pc t):=by intro y s Z H Q a l;refine wpAny_Tuple_spliced (lf (h pos y s Z H _ a l) λo g ⟨xs,j,i,r,z,q⟩=>⟨by rw[<-r.length];exact z,?_⟩);have hf:=i.hok.fresh (i3 _);refine⟨.ref g.heap.objs.size,k_ j g.heap.objs.size (.tup xs),i.laid (t':=g.toks) (λb u e=>ls _ e) (i3 _) ?_,rfl,q _ hf⟩;exact⟨z,o,r,⟨_,q0 _ rfl,rfl,⟨_,rfl⟩,rfl⟩⟩
def Ix(h:PA X es t):PE X (.List es pos) (Ph t):=by intro y s Z H Q a l;refine wpAny_List_spliced (lf (h pos y s Z H _ a l) λo g ⟨xs,j,i,r,z,q⟩=>⟨by rw[<-r.length];exact z,?_⟩);have hf:=i.hok.fresh (i3 _);refine⟨.ref g.heap.objs.size,k_ j g.heap.objs.size (.lst xs),i.laid (t':=g.toks) (λb u e=>ls _ e) (i3 _) ?_,rfl,q _ hf⟩;exact⟨z,o,0,r,q0 _ rfl⟩
end
abbrev Sp:=List V->Hp->VK->XK->Prop
abbrev EA:=List Env->Hp->Shared->XK->Value->Shared->Prop
structure Ft(P:Program)(w:World)(K:ij)(mg:SD)(base:Heap)(A:Around)(outer:List Env)(s:Shared)(H:Hp):Prop where
 frames:A.frames=J outer
 mod:Mod K mg base
 bs:∀b o,base.get? b=J o->s.heap.get? b=J o/\H b=Y
 bsz:base.objs.size<=s.heap.objs.size
 funs:s.heap.FunFrames base outer
 frf:∀b∈A_ outer,H b=Y
 hok:HOk P w H s.heap
 bare:AllBare s.gens
inductive CE(outer:List Env)(P:Program)(w:World)(H:Hp)(s:Shared)(Q:VK)(u:Value)(s':Shared):Prop
 |mk(v:V)(H':Hp)(o:s'.os=s.os)(b:AllBare s'.gens)(n:Un (A_ outer) [] H H' s.heap s'.heap)(k:HOk P w H' s'.heap)(r:aW v u)(q:Q v H'):CE outer P w H s Q u s'
def CR(g:EA)(outer:List Env)(P:Program)(w:World)(H:Hp)(s:Shared)(Q:VK)(E:XK)(r:Result)(a:Shared):Prop :=
 match r with
 |.ok (.ret u)=>CE outer P w H s Q u a
 |.ok _=>False
 |.error e=>g outer H s E e a
structure FnOk(P:Program)(w:World)(K:ij)(mg:SD)(base:Heap)(CX:EA)(k:Nat)(f:Addr)(fd:FuncData)(ps:R5)(sp:Sp):Prop where
 len:∀vs H Q E,sp vs H Q E->vs.length=ps.length
 run:∀(A:Around)(outer:List Env)(s:Shared)(H:Hp)(args:Args)(us:SQ)(vs:List V)(Q:VK)(E:XK),Room k A->Ft P w K mg base A outer s H->BindsTo s fd args (ps.zip us)->aI vs us->sp vs H Q E ->
  codeAny (model P w) A (.call (.ref f) args) (CR CX outer P w H s Q E) s
def FnOk.mono{P:Program}{w:World}{K:ij}{mg:SD}{base:Heap}{g:EA}{j k:Nat}{f:Addr}{fd:FuncData}{i:R5}{e:Sp}(F:FnOk P w K mg base g j f fd i e)(h:j<=k):
  FnOk P w K mg base g k f fd i e:=⟨F.len,λA outer s H a l o Q E r=>F.run A outer s H a l o Q E (r.mono h)⟩
def FnOk.imp{P:Program}{w:World}{K:ij}{mg:SD}{base:Heap}{j:EA}{k:Nat}{f:Addr}{fd:FuncData}{l:R5}{i g:Sp}(F:FnOk P w K mg base j k f fd l i)(h:∀a H Q E,g a H Q E->i a H Q E):FnOk P w K mg base j k f fd l g :=
 ⟨λa H Q E q=>F.len a H Q E (h _ _ _ _ q),λA outer s H e t a Q E y u r hv o=>F.run A outer s H e t a Q E y u r hv (h _ _ _ _ o)⟩
section
variable{X:Cx}{Kt:List (Addr × Obj)}{Z:St}{H:Hp}{s s':Shared}
def Inv.env0(a:Inv X Kt Z H s):Ft X.prog X.w X.K X.mg X.base X.A X.stack s H :=
 ⟨a.ok.frames,a.ok.mod,a.bs,tx a.ok.bsz a.sz,a.stack,a.stkFree,a.hok,a.bare⟩
def Inv.after(a:Inv X Kt Z H s)(h:CE X.stack X.prog X.w H s Q u s'):EP X Kt Z Q u s':=by obtain⟨v,j,os,bare,un,hok,r,q⟩:=h;obtain⟨e,g,d,t,i⟩:=s';obtain rfl:=os;exact⟨v,j,a.call (h':=e) (g':=g) (d':=d) (t':=t) un hok bare (λb z=>absurd z (by simp)),r,q⟩
end
def qg(K:ij)(fd:FuncData)(g:R5)(e:SQ):Prop :=
 ∀(s:Shared)(a:SQ),K.In s.heap->(a++e).length=g.length->BindsTo s fd ⟨a,[]⟩ (g.zip (a++e))
def qg.all{K:ij}{fd:FuncData}{e:R5}(h:∀a:SQ,a.length=e.length->bindArgs fd ⟨a,[]⟩=pure (e.zip a)):qg K fd e []:=λs a _ g=>by
 rw[G9]at g ⊢;exact .of_eq (h a g)
section
variable{X:Cx}{CX:EA}{k:Nat}{f C:Addr}{fd:FuncData}{ps:R5}{sp:Sp}{dvs:List V}{ds:SQ}{E:XK}{x m:Str}{p pos apos:Pos}{e o:Expr}{es:SW}{ta:TE}{t:TA}
end
section
variable{X:Cx}{CX:EA}{k:Nat}{f C:Addr}{fd:FuncData}{ps ks:R5}{sp:Sp}{E:XK}{x m:Str}{p pos apos kpos:Pos}{e o:Expr}{es:SW}{kws:List Keyword}{te ta:TE}{t tk:TA}{nm:Option Str}{g:SQ->SQ->SQ}{gV:List V->List V->List V}
end
structure wr(N P:R5)(sc:Scope):Prop where
 kind:sc.kind=.function
 co:sc.isCoroutine=T
 gen:sc.isGenerator=T
 nd:N.Nodup
 pre:N.take P.length=P
 par:∀x∈P,sc.names.lookup x=J .local\/sc.names.lookup x=J .cell
 nofree:∀y∈sc.names,y.2≠.free
def sX{kindOf:Str->Option NameKind}{x:Str}:∀{binds:List (Str×Value)}{m:SD},(∀v,(x,v)∉binds)->bindL kindOf binds m x=m x
 |[],_,_=>rfl
 |(n,v)::r,m,h=>by
  unfold bindL;rw[sX λw a=>h w (oh _ a)];split
  .have:x≠n:=by rintro rfl;exact h v BD
   simp[this]
  .rfl
def tT{kindOf:Str->Option NameKind}{x:Str}:∀{binds:List (Str×Value)}{m:SD},(∀v,(x,v)∉binds)->bindC kindOf binds m x=m x
 |[],_,_=>rfl
 |(n,v)::r,m,h=>by
  unfold bindC;rw[tT λw a=>h w (oh _ a)];split
  .rfl
  .have:x≠n:=by rintro rfl;exact h v BD
   simp[this]
def tH{kindOf:Str->Option NameKind}{x:Str}{v:Value}:∀{P:R5}{a:SQ}{i:Nat}{m:SD},P.Nodup->P[i]?=J x->a[i]?=J v->kindOf x=J .local ->
  bindL kindOf (P.zip a) m x=J v
 |p::P,w::a,0,m,nd,e,g,j=>by
  simp at e g;subst e;subst g;show bindL kindOf ((p,w)::P.zip a) m p=_;unfold bindL;rw[sX λv hv=>(Lg.mp nd).1 (OH hv).1,c_ j];simp
 |p::P,w::a,i+1,m,nd,e,g,j=>by
  unfold bindL;exact tH (Lg.mp nd).2 (by simpa using e) (by simpa using g) j
def tz{kindOf:Str->Option NameKind}{x:Str}{v:Value}:∀{P:R5}{a:SQ}{i:Nat}{m:SD},P.Nodup->P[i]?=J x->a[i]?=J v->kindOf x≠J .local ->
  bindC kindOf (P.zip a) m x=J v
 |p::P,w::a,0,m,nd,e,g,j=>by
  simp at e g;subst e;subst g;show bindC kindOf ((p,w)::P.zip a) m p=_;unfold bindC;rw[tT λv hv=>(Lg.mp nd).1 (OH hv).1,f_ j];simp
 |p::P,w::a,i+1,m,nd,e,g,j=>by
  unfold bindC;exact tz (Lg.mp nd).2 (by simpa using e) (by simpa using g) j
def start(N:R5)(a:List V):St:=a.map J++List.replicate (N.length-a.length) Y
def vH(l:EA)(P:Program)(w:World)(K:ij)(mg:SD)(base:Heap)(N:R5)(g:Str)(a:Scope)(f:Addr)(j:Value)(A:Around)(outer:List Env)(s:Shared)(H:Hp)(E:XK):Cx where
 prog:=P
 w:=w
 K:=K
 mg:=mg
 base:=base
 A:=A.deeper (envOfC g a s.heap.objs.size f j)
 N:=N
 s₀:=s
 H₀:=H
 env:=envOfC g a s.heap.objs.size f j
 outer:=outer
 stack:=envOfC g a s.heap.objs.size f j::outer
 ex:=[]
 calm:=I
 fn:=λ_=>I
 pn:=[]
 xe:=λe o=>wpAny (model P w) (A.deeper (envOfC g a s.heap.objs.size f j)) (leaving (envOfC g a s.heap.objs.size f j) e) (λ_ i=>l outer H s E e i) (λr i=>l outer H s E r i) o
def vi{a:Scope}{n:Nat}{x:Str}(h:a.names.lookup x=J .cell):∃c,(cellsFrom n a.names []).lookup x=J c:=by have q:=PySem.W.cellsFrom_some a.names n [] (.inl h);exact Option.isSome_iff_exists.mp q
def AD{W:EA}{P:Program}{w:World}{K:ij}{mg:SD}{base:Heap}{N C:R5}{j:Str}{g:Scope}{f:Addr}{Q:Value}{A:Around}{outer:List Env}{s X:Shared}{H:Hp}{E:XK}{R:SQ}{t:List V}(S:wr N C g)(hd:A.handled=Y)(o:Ft P w K mg base A outer s H)(hl:t.length=C.length)(r:aI t R)(x:InCallC s s.heap.objs.size (bindL (envOfC j g s.heap.objs.size f Q).kindOf (C.zip R) λ_=>Y) (cellsFrom (s.heap.objs.size+1) g.names []) (bindC (envOfC j g s.heap.objs.size f Q).kindOf (C.zip R) λ_=>Y) X):
  Inv (vH W P w K mg base N j g f Q A outer s H E) [] (start N t) H X:=by
 have ab:C.length<=N.length:=by have:=congrArg List.length S.pre;rw[HP]at this;lia
 obtain⟨O,tk,rfl,Z⟩:=x.done;have B:∀b:Addr,b∉(vH W P w K mg base N j g f Q A outer s H E).ex:=λb z=>absurd (show b∈([]:SM)from z) (by simp)
 refine⟨⟨o.mod,S.kind,rfl,rfl,i3 _,λy z c O l=>?_,λy F=>?_,λy c _ h=>?_,λ_=>hd,Around.frames_deeper o.frames,.inr ⟨rfl,rfl⟩,λb z=>absurd z (B b),o.bs,o.bsz,λb _ _=>B b,λb z=>absurd z (B b),o.funs,o.frf⟩,
  rfl,o.bare,Un.kept Z,⟨_,x.toInCall.ns,λi y v O l h3=>?_⟩,λy c h=>⟨_,x.cell y c h⟩,o.hok.fresh (i3 _),λy c h=>?_,λp L=>absurd (show p∈([]:SS)from L) (by simp),o.hok.kept Z,?_⟩
 .exact name_of_addr x.apart (PySem.mem_of_lookup O) (PySem.mem_of_lookup l)
 .rcases F with F|F
  .exact vi F
  .exact absurd rfl (S.nofree _ (PySem.mem_of_lookup F))
 .exact Fh (x.above y c (PySem.mem_of_lookup h))
 .have M:i<t.length:=by
   unfold start at l;by_cases M:i<t.length
   .exact M
   .rw[DG (by simpa using M)]at l;rw[Kz]at l
    split at l<;>cases l
  have ha:t[i]?=J v:=by
   unfold start at l;rw[yS (by simpa using M),yT]at l
   cases e:t[i]? with
   |none=>rw[e]at l;cases l
   |some a=>rw[e]at l;cases l;rfl
  obtain⟨u,U,rv⟩:=r.get ha;have L:C[i]?=J y:=by rw[<-S.pre,Nu ⋯];exact O
  have G:C.Nodup:=by rw[<-S.pre];exact S.nd.sublist (List.take_sublist _ _)
  refine⟨u,rv,?_⟩;rcases S.par y (Dm L)with k|k
  .exact .inl ⟨k,tH G L U k⟩
  .obtain⟨c,e⟩:=vi k;refine .inr ⟨.inl k,c,e,?_⟩;have q:=x.cell y c e;rw[tz G L U (by show g.names.lookup y≠_;rw[k];decide)]at q;exact q
 .exact o.hok.fresh (Fh (x.above y c (PySem.mem_of_lookup h)))
 .delta start;show _=N.length;rw[DO,tu,K9];lia
def LO{W:EA}{P:Program}{w:World}{K:ij}{mg:SD}{base:Heap}{k:Nat}{f:Addr}{C g:Str}{l:Arguments}{z:List Stmt}{a:Scope}{dV kV U pm j ct oc:Value}{an od:Option Addr}{ab:Array (SU)}{N X:R5}{sp:Sp}(lk:K.lookup f=J ⟨oc,od,.func (PySem.W.fnOf C g l z a dV kV U pm an j ct),ab⟩)(ap:PySem.W.codeIn K j g=I)(S:wr N X a)(len:∀B H Q E,sp B H Q E->B.length=X.length)(G:∀(A:Around)(outer:List Env)(s:Shared)(H:Hp)(B:List V)(Q:VK)(E:XK),Room k (A.deeper (envOfC g a s.heap.objs.size f j))->sp B H Q E ->
   ∃t,PSs (vH W P w K mg base N g a f j A outer s H E) z t/\t { nx:=λ_ F=>Q .non F,rt:=Q} (start N B) H):
  FnOk P w K mg base W (k+1) f (PySem.W.fnOf C g l z a dV kV U pm an j ct) X sp:=by
 refine⟨len,λA outer s H ax us B Q E hr O hb r R=>?_⟩;have hl:=len _ _ _ _ R;have KX:=O.mod.kin.keeps λb o e=>(O.bs b o e).1;have as:=O.mod.nolimit.keeps λb o e=>(O.bs b o e).1;have L:∀y∈X.zip us,a.names.lookup y.1=J .local\/(a.names.lookup y.1=J .cell/\((cellsFrom (s.heap.objs.size+1) a.names []).lookup y.1).isSome=I):=λ⟨n,v⟩ hy=>by
  rcases S.par n (OH hy).1 with q|q
  .exact .inl q
  .exact .inr ⟨q,PySem.W.cellsFrom_some _ _ _ (.inl q)⟩
 refine codeAny_call_function hr.depth (KX _ _ lk) rfl S.co S.gen rfl (PySem.W.codeRec_of KX ap) (hb _ _ _ _ ?_);refine wpAny_newFunctionEnv_cells S.kind L λenv he s1 x=>?_;subst he;refine⟨as.keeps x.toInCall.keep,codeAny_func ?_⟩;obtain⟨t,ht,hq⟩:=G A outer s H B Q E (hr.deeper _) R;have al:Inv (vH W P w K mg base N g a f j A outer s H E) [] (start N B) H s1:=AD S hr.hd O hl r x;refine wpAny_mono (ht [] s1 (start N B) H _ al hq) (λfl s' M=>?_) λe s' M=>M;have fin:∀{Z:St}{F:Hp}{v:V}{u:Value},Inv (vH W P w K mg base N g a f j A outer s H E) [] Z F s'->aW v u->Q v F->CE outer P w H s Q u s' :=
  λ{Z F v u} i rv q=>⟨v,F,i.os,i.bare,i.base,i.hok,rv,q⟩
 cases fl with
 |ret u =>
  obtain⟨v,Z,F,i,rv,q⟩:=M;exact fin i rv q
 |next =>
  obtain⟨Z,F,i,q⟩:=M;exact fin (v:=V.non) i rfl q
 |brk =>
  obtain⟨_,_,_,q⟩:=M;exact False.elim q
 |cont =>
  obtain⟨_,_,_,q⟩:=M;exact False.elim q
section
variable{X:Cx}{x:Str}{p pos:Pos}{e:Expr}{es:SW}{t:TA}{id T:String}{r:List V->Hp->VK->Prop}
def Pj(r:List V->Hp->VK->Prop)(t:TA):TE:=λZ H Q=>t Z H λa g=>r a g Q
def eG(u:ce X (.builtin id) r)(O:Gl X x)(E:X.mg x=Y)(hv:bootBuiltins x=J (.builtin id))(G:PA X (e::es) t)(M:x≠"__name__":=by decide)(i:(x==("__debug__":Str))=false:=by decide)(F:starEach (e::es) X.env=(false,eval e X.env)::starEach es X.env:=by rfl)(g:(backTo pos (starEach es X.env)).any (·.1)=false:=by rfl):PE X (.Call (.Name x p) (e::es) [] pos) (Pj r t):=by
 intro j s Z H Q a h;refine wpAny_Call_Name_kw (gT a O E hv ?_ M i);exact PyProof.Rows.callWith_builtin1 (lf (G pos j s Z H _ a h) λB C ⟨L,l,o,y,z⟩=>u j C Z l L B Q o y z) F g
def jD(u:ce X (.type T) r)(O:Gl X x)(E:X.mg x=Y)(hv:bootBuiltins x=J (.type T))(G:PA X (e::es) t)(M:x≠"__name__":=by decide)(i:(x==("__debug__":Str))=false:=by decide)(F:starEach (e::es) X.env=(false,eval e X.env)::starEach es X.env:=by rfl)(g:(backTo pos (starEach es X.env)).any (·.1)=false:=by rfl):PE X (.Call (.Name x p) (e::es) [] pos) (Pj r t):=by
 intro j s Z H Q a h;refine wpAny_Call_Name_kw (gT a O E hv ?_ M i);exact PyProof.Rows.callWith_type1 (lf (G pos j s Z H _ a h) λB C ⟨L,l,o,y,z⟩=>u j C Z l L B Q o y z) F g
end
end L2
namespace HT
open PyProof.Rows
section
open PySem.SeqAt
open PySem.AutoSeq1 (wpAny_loadPart')
open PySem.MeetsSeq PySem.MeetsSeq2 PySem.MeetsSeq3
end
section
variable{prog:Program}{w:World}{A:Around}{E:SA}{s:Shared}
def Fv(F:IsTup s.heap t vs.toArray)(G:IsTup s.heap b ws.toArray)(hv:vs≠[])(H:ws=[]->Q (.ref t) s)(L:ws≠[]->Q (.ref s.heap.objs.size) { s with heap:=s.heap.push { cls:=.type "tuple",data:=.seq (vs++ws).toArray}})(o:vs.length+ws.length<=sizeLine):wpAny (model prog w) A (binaryOp .Add (.ref t) (.ref b)) Q E s:=by
 obtain⟨⟨cls,B,data,sl⟩,j,C,n,hd⟩:=id F;obtain⟨⟨y,g,data2,i⟩,a,r,z,u⟩:=id G;subst C hd r u;have e:vs.toArray++ws.toArray=(vs++ws).toArray:=by simp
 by_cases l:ws=[]
 .exact concat_meets ⟨_,j,rfl⟩ ⟨_,a,rfl⟩ noFill_tuple_add seq_tuple_add PySem.F.slot_tuple_add PySem.F.entry_tuple_add (PySem.F.args_tuple_add_2 _ _)
   (tuple_addW1 t b vs.toArray ws.toArray n z B g sl i (by simpa using hv) (by simp[l])) ⟨j,a,H l⟩
 .refine concat_meets ⟨_,j,rfl⟩ ⟨_,a,rfl⟩ noFill_tuple_add seq_tuple_add PySem.F.slot_tuple_add PySem.F.entry_tuple_add (PySem.F.args_tuple_add_2 _ _)
   (tuple_addW2 t b vs.toArray ws.toArray n z B g sl i (by simpa using hv) (by simpa using l) (by exact o)) ⟨j,a,?_⟩
  rw[e];exact L l
def lw(n d:Nat):SV->Nat
 |none=>d
 |some v=>if v<0 then(v+(n:Int)).toNat else min v.toNat n
def uY(n d:Nat):lw n d Y=d:=rfl
def xI(n d k:Nat):lw n d (J (k:Int))=min k n:=rfl
def w4(v:Int)(n d:Nat):(if v<0 then max (v+(n:Int)) 0 else min v (n:Int))=((lw n d (J v):Nat):Int):=by
 show(if v<0 then max (v+(n:Int)) 0 else min v (n:Int))=(((if v<0 then(v+(n:Int)).toNat else min v.toNat n):Nat):Int)
 grind
def yy(lo a:SV)(n:Nat):Builtin.Slice.sliceAdjust lo a 1 (n:Int)=(((lw n 0 lo:Nat):Int),((lw n n a:Nat):Int)):=by
 refine Prod.ext ?_ ?_
 .cases lo with
  |none=>rfl
  |some v=>exact w4 v n 0
 .cases a with
  |none=>rfl
  |some v=>exact w4 v n n
def zG(i j:Nat):Builtin.Slice.slicePlaces (i:Int) (j:Int) 1=j-i:=by
 unfold Builtin.Slice.slicePlaces;have a:(1:Int)>0:=by lia
 simp only[a,if_true,Int.ediv_one]
 split<;>lia
def qf(p:IsPart v o)(h:Q o s):wpAny (model prog w) A (Builtin.Slice.slicePartIndex v) Q E s:=by
 cases p with
 |none=>exact slicePart_none h
 |int i t=>exact slicePart_int h
def pE{sl:Addr}{i j:Value}{lo g:SV}{n:Nat}{Q:Int×Int×Nat->Shared->Prop}(o:s.heap.IsSliceOf sl i j .none)(l:IsPart i lo)(t:IsPart j g)(h:Q (((lw n 0 lo:Nat):Int),1,lw n n g-lw n 0 lo) s):wpAny (model prog w) A (Builtin.Slice.sliceApplied (.ref sl) (pure (n:Int))) Q E s:=by
 obtain⟨os,a,r,e⟩:=id o;refine d_ (d_ (wpAny_field a e rfl (d_ (wpAny_field a e rfl (d_ (wpAny_field a e rfl (il ?_)))))));refine d_ (slicePart_none ?_);refine d_ (qf l (d_ (qf t (d_ (il ?_)))));show wpAny _ _ (match Builtin.Slice.sliceAdjust lo g 1 (n:Int)with | (lo,g)=>pure (lo,(1:Int),Builtin.Slice.slicePlaces lo g 1)) _ _ s;rw[yy lo g n];show wpAny _ _ (pure (((lw n 0 lo:Nat):Int),(1:Int),Builtin.Slice.slicePlaces ((lw n 0 lo:Nat):Int) ((lw n n g:Nat):Int) 1)) _ _ s;rw[zG];exact il h
def BY(xs:Array Value)(i k:Nat):((List.range k).filterMap λ(m:Nat)=>xs[((i:Int)+(m:Int)*1).toNat]?).toArray=((xs.toList.drop i).take k).toArray:=by
 have e:(λ(m:Nat)=>xs[((i:Int)+(m:Int)*1).toNat]?)=λm=>xs[i+m]?:=by grind
 rw[e]
 have:=pick_run xs i k
 rw[List.filterMap_map]at this;have e2:((λx=>xs[x]?)∘λx=>i+x)=λm=>xs[i+m]?:=rfl;rw[e2]at this;rw[this]
def om{t sl:Addr}{items:Array Value}{y u:Value}{lo e:SV}{Q:SA}(g:IsTup s.heap t items)(r:s.heap.IsSliceOf sl y u .none)(C:IsPart y lo)(B:IsPart u e)(G:¬(lw items.size 0 lo=0/\lw items.size items.size e=items.size))(h:Q (.ref s.heap.objs.size) { s with heap:=s.heap.push { cls:=.type "tuple",data:=.seq ((items.toList.drop (lw items.size 0 lo)).take (lw items.size items.size e-lw items.size 0 lo)).toArray}})(z:items.size<=sizeLine):wpAny (model prog w) A (getItem (.ref t) (.ref sl)) Q E s:=by
 have a:sizeOk (.seq ((items.toList.drop (lw items.size 0 lo)).take (lw items.size items.size e-lw items.size 0 lo)).toArray):=by show((items.toList.drop (lw items.size 0 lo)).take (lw items.size items.size e-lw items.size 0 lo)).toArray.size<=sizeLine;rw[va,HP,E3,z_];lia
 obtain⟨os,i,j,F⟩:=id r;have l:s.TypeIs (.ref sl) "slice":=⟨os,i,j⟩;unfold getItem
 try with_reducible refine wpAny_holding ?_
 refine d_ (wpAny_sequenceKey g.typeIs (by decide) ?_)
 refine d_ (wpAny_callSpecial?_slot g.typeIs PyProof.Rows.slot_tuple_getitem
  (wpAny_call_entry PyProof.Rows.slot_tuple_getitem g.typeIs entry_tuple_getitem ?_ (args_tuple_getitem _ _)))
 show wpAny _ _ (Builtin.Tuple.tupleItemsOf (.ref t) >>= _) _ _ s;refine d_ (tupleItemsOf_ g ?_);refine d_ (wpAny_typeOf l ?_);refine d_ (pE r C B ?_);have o:¬((((lw items.size 0 lo:Nat):Int)==0&&(1:Int)==1&&(lw items.size items.size e-lw items.size 0 lo)==items.size)=I):=by intro q;rw[G8,G8]at q;have H:=eq_of_beq q.1.1;have L:=eq_of_beq q.2;exact G ⟨⋯,⋯⟩
 show wpAny _ _ (if(((lw items.size 0 lo:Nat):Int)==0&&(1:Int)==1&&(lw items.size items.size e-lw items.size 0 lo)==items.size)=I then _ else _) _ _ s;rw[f_ o,BY]
 first
  |exact d_ (m:=Builtin.Tuple.tupleExact _) (wpAny_newObj_type (d_ (il (il ⟨_,rfl,il h⟩))) a)
end
end HT
namespace L2
open PySem.Spec PyProof.Rows
abbrev TO:=St->Hp->(SV->Hp->Prop)->Prop
def PO(X:Cx)(e:Option Expr)(t:TO):Prop :=
 ∀(g:SS)(s:Shared)(Z:St)(H:Hp)(Q:SV->Hp->Prop),Inv X g Z H s->t Z H Q ->
  wpAny (model X.prog X.w) X.A (evalPart e X.env) (λu i=>∃o a,Inv X g Z a i/\IsPart u o/\Q o a) X.xe s
def Fw:TO:=λ_ H Q=>Q Y H
def LP(t:TE):TO:=λZ H Q=>t Z H λx a=>∃i,x=.int i/\Q (J i) a
section
variable{X:Cx}{e:Expr}{te:TE}{lo hi:Option Expr}{tl th:TO}{pos p2:Pos}
def Fx:PO X Y Fw:=by intro g s Z H Q a h;rw[evalPart_none];exact il ⟨Y,H,a,.none,h⟩
def Fy(h:PE X e te):PO X (J e) (LP te):=by intro y s Z H Q a r;refine lf (h y s Z H _ a r) λu z ⟨x,g,j,l,o⟩=>?_;obtain⟨i,rfl,q⟩:=o;obtain⟨t,rfl⟩:=l;exact⟨J i,g,j,.int i t,q⟩
def NN(X:Cx)(r:V->SV->SV->Hp->VK->Prop):Prop :=
 ∀(j:SS)(s:Shared)(Z:St)(H:Hp)(x:V)(v g i:Value)(lo hi:SV)(sl:Addr)(Q:VK),Inv X j Z H s->aW x v->s.heap.IsSliceOf sl g i .none->IsPart g lo->IsPart i hi->r x lo hi H Q ->
  ∃a id,typeLookup (.type a) "__getitem__"=pure (J (.builtin id))/\s.TypeIs v a/\wpAny (model X.prog X.w) X.A (getItem v (.ref sl)) (EP X j Z Q) X.xe s
def RF(r:V->SV->SV->Hp->VK->Prop)(te:TE)(tl th:TO):TE:=λZ H Q=>te Z H λx a=>tl Z a λl i=>th Z i λu g=>r x l u g Q
def Cm(hr:NN X r)(W:PE X e te)(E:PO X lo tl)(M:PO X hi th):PE X (.Subscript e (.Slice lo hi Y p2) pos) (RF r te tl th):=by intro g s Z H Q i h;refine Subscript_ (lf (W g s Z H _ i h) λv R ⟨x,y,z,F,O⟩=>?_);refine wpAny_Slice (lf (E g R Z y _ z O) λo S ⟨l,H2,B,U,q2⟩=>lf (M g S Z H2 _ B q2) λj a ⟨u,t,I3,C,L⟩=>?_);refine il ?_;have I4:Inv X g Z t { a with heap:=a.heap.push { cls:=.type "slice",data:=.fields #[o,j,.none]}}:=I3.kept (t':=a.toks) λb ob q=>ls _ q;obtain⟨ab,id,P,G,hg⟩:=hr g { a with heap:=a.heap.push { cls:=.type "slice",data:=.fields #[o,j,.none]}} Z t x v o j l u a.heap.objs.size Q I4 F (Heap.IsSliceOf.new ..) U C L;exact tail_any G P hg (by with_unfolding_all rfl)
def pH(xs:List V)(lo hi:SV):List V:=(xs.drop (HT.lw xs.length 0 lo)).take (HT.lw xs.length xs.length hi-HT.lw xs.length 0 lo)
def oo(xs:List V)(lo hi:SV):(pH xs lo hi).length<=xs.length:=by delta pH;rw[HP,E3];lia
def Pk(K:ij):V->SV->SV->Hp->VK->Prop:=λx lo hi H Q=>∃a xs,x=.ref a/\SqT K H a xs /\
 ¬(HT.lw xs.length 0 lo=0/\HT.lw xs.length xs.length hi=xs.length)/\∀p,H p=Y->Q (.ref p) (k_ H p (.tup (pH xs lo hi)))
def Iy:NN X (Pk X.K):=by
 intro F s Z H x v L G lo hi sl Q i y u z t h;obtain⟨a,xs,rfl,C,B,q⟩:=h;cases y;obtain⟨j,r,l,o⟩:=i.tuple C;have g:j.toArray.size=xs.length:=by exact r.length.symm
 refine⟨"tuple",_,PyProof.Rows.slot_tuple_getitem.lookup,l.typeIs,?_⟩;refine HT.om l u z t (by rw[g];exact B) ?_ (by rw[g];exact o);rw[g];refine⟨.ref s.heap.objs.size,_,i.laid (t':=s.toks) (λb E q=>ls _ q) (i3 _) ?_,rfl,q _ (i.hok.fresh (i3 _))⟩;exact⟨tx (oo xs lo hi) o,_,(r.drop (HT.lw xs.length 0 lo)).take (HT.lw xs.length xs.length hi-HT.lw xs.length 0 lo),iG.new _ _⟩
def LQ(K:ij):R2:=λx y H Q=>∃a b xs ys,x=.ref a/\y=.ref b/\SqT K H a xs/\SqT K H b ys/\xs≠[]/\xs.length+ys.length<=sizeLine /\
 (ys=[]->Q (.ref a) H)/\(ys≠[]->∀p,H p=Y->Q (.ref p) (k_ H p (.tup (xs++ys))))
def aI.nil_iff(r:aI xs us):us=[]↔xs=[]:=by
 cases r with
 |nil=>simp
 |cons _ _=>simp
def Fz:OpR X (binaryOp .Add) (LQ X.K):=by intro P s Z H x y v u Q g E F h;obtain⟨a,b,xs,ys,rfl,rfl,G,C,M,o,t,L⟩:=h;cases E;cases F;obtain⟨r,j,B,_⟩:=g.tuple G;obtain⟨l,i,p2,_⟩:=g.tuple C;refine HT.Fv B p2 (λz=>M (j.nil_iff.mp z)) (λz=>⟨.ref a,H,g,rfl,t (i.nil_iff.mp z)⟩) (λz=>?_) (by rw[<-j.length,<-i.length];exact o);refine⟨.ref s.heap.objs.size,_,g.laid (t':=s.toks) (λb O q=>ls _ q) (i3 _) ?_,rfl,L (λw=>z (i.nil_iff.mpr w)) _ (g.hok.fresh (i3 _))⟩;exact⟨by rw[DO];exact o,_,j.append i,iG.new _ _⟩
end
def yU(n:Nat)(i:Int):SG:=if 0<=i then(if i<n then J i.toNat else Y)else if -(n:Int)<=i then J (i+n).toNat else Y
def nw{α:Type}(xs:List α)(i:Int):Option α:=(yU xs.length i).bind λj=>xs[j]?
def xZ(h:yU n i=J j):seqIndex? i n=J j/\j<n /\ -(n:Int)<=i/\i<n:=by
 unfold yU at h;by_cases g:0<=i
 .rw[c_ g]at h;by_cases a:i<n
  .rw[c_ a]at h;have e:=Option.some.inj h;exact⟨by rw[seqIndex_of g a,e],⋯,⋯,a⟩
  .rw[f_ a]at h;cases h
 .rw[f_ g]at h;by_cases a:-(n:Int)<=i
  .rw[c_ a]at h;have e:=Option.some.inj h;exact⟨by rw[seqIndex_neg ⋯ a,e],⋯,a,⋯⟩
  .rw[f_ a]at h;cases h
def rG(h:nw xs i=J v):∃j,seqIndex? i xs.length=J j/\xs[j]?=J v/\j<xs.length /\ -(xs.length:Int)<=i/\i<xs.length:=by
 unfold nw at h
 cases e:yU xs.length i with
 |none=>rw[e]at h;cases h
 |some j =>
  rw[e]at h;obtain⟨a,g,l,o⟩:=xZ e;exact⟨j,a,h,g,l,o⟩
def cY{α:Type}{xs:List α}{j:Nat}{v:α}(h:xs[j]?=J v):nw xs (j:Int)=J v:=by
 have a:=(mw.mp h).1;have e:yU xs.length (j:Int)=J j:=by
  delta yU
  simp_all
 delta nw;rw[e];exact h
def nM(b:Expr):Prop:=∀o i,subscripted b T o i=operate [o,i] (getItem o i)
def IxR(X:Cx)(r:R2):Prop :=
 ∀(e a:Expr)(g:SS)(s:Shared)(Z:St)(H:Hp)(x y:V)(v u:Value)(Q:VK),Inv X g Z H s->aW x v->aW y u->r x y H Q ->
  subscripted a T v u=operate [v,u] (getItem v u)->wpAny (model X.prog X.w) X.A (subscriptTail e a v u) (EP X g Z Q) X.xe s
def Hc(X:Cx)(id:String)(r:V->List V->Hp->VK->Prop):Prop :=
 ∀(a:SS)(s:Shared)(Z:St)(H:Hp)(x:V)(xs:List V)(v:Value)(e:SQ)(Q:VK),Inv X a Z H s->aW x v->aI xs e->r x xs H Q ->
  wpAny (model X.prog X.w) X.A (call (.builtin id) (v::e)) (EP X a Z Q) X.xe s
section
variable{X:Cx}{a b:Expr}{ta tb:TE}{pos:Pos}
def IxR.or(h:IxR X r)(z:IxR X r'):IxR X (λx y H Q=>r x y H Q\/r' x y H Q):=by
 intro g e t s Z H x y v u Q i j l q o;rcases q with q|q
 .exact h g e t s Z H x y v u Q i j l q o
 .exact z g e t s Z H x y v u Q i j l q o
def LR{r:R2}(E:IxR X r)(B:PE X a ta)(j:PE X b tb)(i:nM b):PE X (.Subscript a b pos) (LA r ta tb):=by intro z s Z H Q e h;exact Subscript_ (Iq B j e h λv u o x y C g l t q=>E a b z o Z C x y v u Q g l t q (i _ _))
def LU(K:ij):R2:=λx y H Q=>∃p xs i v,x=.ref p/\y=.int i/\SqL K H p xs/\nw xs i=J v/\Q v H
def LV(K:ij):R2:=λx y H Q=>∃p xs i v,x=.ref p/\y=.int i/\SqT K H p xs/\nw xs i=J v/\Q v H
def LW:R2:=λx y H Q=>∃z i c,x=.str z/\y=.int i/\z.length<=sizeLine/\nw z.cps.toList i=J c/\Q (.str ⟨#[c]⟩) H
def FA:IxR X (LU X.K):=by
 intro o C Kt s Z H x y v u Q e S W h G;obtain⟨p,xs,i,z,rfl,rfl,P,he,q⟩:=h;cases S;obtain⟨t,rfl⟩:=W;obtain⟨l,r,E,hz⟩:=e.list P;obtain⟨j,g,h2,h3,U,O⟩:=rG he;obtain⟨w,M,F⟩:=r.get h2;have R:=r.length;have hn:=pQ;have fin:EP X Kt Z Q w s:=⟨z,H,e,F,q⟩;by_cases L:0<=i
 .have B:i.toNat=j:=by
   rw[seqIndex_of L O]at g;exact Option.some.inj g
  exact item_listR E.isList L ⋯ (by rw[B];simpa using M) fin G
 .have B:(i+(l.toArray.size:Int)).toNat=j:=by
   rw[seqIndex_neg ⋯ U]at g;rw[va,<-R];exact Option.some.inj g
  exact subscriptTail_builtinR E.isList.typeIs slot_list_getitem.lookup
   (wpAny_getItem_list_neg E.isList ⋯ (by rw[va]<;>lia) ⋯ (by rw[B];simpa using M) ⟨rfl,fin⟩) G
def Iz:IxR X (LV X.K):=by
 intro g l O s Z H x y v u Q e L M h G;obtain⟨p,xs,i,z,rfl,rfl,E,P,q⟩:=h;cases L;obtain⟨t,rfl⟩:=M;obtain⟨C,r,B,hz⟩:=e.tuple E;obtain⟨j,R,S,W,h4,h5⟩:=rG P;obtain⟨w,U,o⟩:=r.get S;have F:=r.length;have hn:=pQ;have fin:EP X O Z Q w s:=⟨z,H,e,o,q⟩;exact subscriptTail_builtinR B.typeIs slot_tuple_getitem.lookup
  (getItem_tuple B ⋯ ⋯ (by rw[va,<-F];exact R) (by simpa using U) ⟨rfl,fin⟩) G
def IA:IxR X LW:=by
 intro e l R s Z H x y v u Q g E G h C;obtain⟨z,i,c,rfl,rfl,P,L,q⟩:=h;obtain⟨t,rfl⟩:=E;obtain⟨U,rfl⟩:=G;obtain⟨j,o,M,O,F,r⟩:=rG L;have B:z.cps.toList.length=z.length:=by simp[Str.length]
 rw[B]at o F r;have S:=pQ
 exact tail_any (typeIs_str s z t) slot_str_getitem.lookup (getItem_str (by
  have e1:decide (i < -(2^63:Int))=T:=decide_eq_false ⋯;have e2:decide (i>=2^63)=T:=decide_eq_false ⋯
  rw[e1,e2,Bool.or_false]) (by rw[o];simpa using M) ⟨.str ⟨#[c]⟩,H,g.tok _,⟨_,rfl⟩,q⟩) C
def RG(K:ij):R2:=λx y H Q=>LU K x y H Q\/LV K x y H Q\/LW x y H Q
def IB:IxR X (RG X.K):=FA.or (Iz.or IA)
def zv(e:SQ)(n j:Nat)(u:Value):Obj.mapSeq (·.setIfInBounds j u) { cls:=.type "list",data:=.seq e.toArray n}={ cls:=.type "list",data:=.seq (e.set j u).toArray n}:=by simp[Obj.mapSeq]
def Inv.lst{j:SS}{Z:St}{H:Hp}{s:Shared}{p:Addr}{xs:List V}(i:Inv X j Z H s)(h:H p=J (.lst xs)):
  ∃(g:SQ) (n:Nat),aI xs g/\s.heap.get? p=J { cls:=.type "list",data:=.seq g.toArray n}/\xs.length<=sizeLine:=by
 obtain⟨z,g,n,r,e⟩:=i.hok p _ h;exact⟨g,n,r,e,z⟩
def Inv.lstUpd{o:SS}{Z:St}{H:Hp}{s:Shared}{p:Addr}{xs ys:List V}{i g:SQ}{n j:Nat}{f:Obj->Obj}(l:Inv X o Z H s)(h:H p=J (.lst xs))(y:s.heap.get? p=J { cls:=.type "list",data:=.seq i.toArray n})(hf:f { cls:=.type "list",data:=.seq i.toArray n}={ cls:=.type "list",data:=.seq g.toArray j})(r:aI ys g)(B:ys.length<=sizeLine)(t:Nat):
  Inv X o Z (k_ H p (.lst ys)) { s with heap:=s.heap.update p f,toks:=t}:=by
 have e:(s.heap.update p f).get? p=J { cls:=.type "list",data:=.seq g.toArray j}:=by rw[K_ f y (by rw[hf]<;>rfl),hf]
 refine l.write (by rw[h];trivial) (.inl rfl) (λb u z q=>(Nw _ _ (Ne.symm z)).trans q) ⟨_,e⟩ ?_;exact⟨B,g,j,r,e⟩
def LX:V->V->V->Hp->(Hp->Prop)->Prop:=λo i v H Q=>∃p xs k j,o=.ref p/\i=.int k/\H p=J (.lst xs)/\yU xs.length k=J j/\Q (k_ H p (.lst (xs.set j v)))
def Cj:Lr X LX:=by
 intro Kt s Z H o i v W U u Q g S P M h;obtain⟨p,xs,k,j,rfl,rfl,L,O,q⟩:=h;cases S;obtain⟨t,rfl⟩:=P;obtain⟨e,n,r,z,R⟩:=g.lst L;obtain⟨l,h2,C,F⟩:=xZ O;have y:=r.length;have hn:=pQ;have G :=
  g.lstUpd L z (zv e n j u) (r.set M j) (by rw[List.length_set];exact R) s.toks
 by_cases E:0<=k
 .have B:k.toNat=j:=by
   rw[seqIndex_of E F]at l;exact Option.some.inj l
  exact PySem.W.ki_setAt z E ⋯ (by rw[va,<-y];exact F) (by rw[B];exact⟨_,G,q⟩)
 .have B:(k+(e.toArray.size:Int)).toNat=j:=by
   rw[seqIndex_neg ⋯ C]at l;rw[va,<-y];exact Option.some.inj l
  exact PySem.W.ki_setBack z ⋯ (by rw[va,<-y];exact C) ⋯ (by rw[B];exact⟨_,G,q⟩)
def vk(lo e:SV)(n:Nat):(sliceBounds lo e Y n).1=((HT.lw n 0 lo:Nat):Int)/\(sliceBounds lo e Y n).2.1=((HT.lw n n e:Nat):Int)/\(sliceBounds lo e Y n).2.2=1:=by
 refine⟨?_,?_,rfl⟩
 .cases lo with
  |none=>simp[sliceBounds,HT.lw]
  |some i =>
   simp only[sliceBounds,HT.lw,Option.getD_none,show(1:Int)>0 by decide,if_true];by_cases h:i<0
   .simp only[h,if_true]<;>lia
   .simp only[h,if_false]<;>lia
 .cases e with
  |none=>simp[sliceBounds,HT.lw]
  |some i =>
   simp only[sliceBounds,HT.lw,Option.getD_none,show(1:Int)>0 by decide,if_true];by_cases h:i<0
   .simp only[h,if_true]<;>lia
   .simp only[h,if_false]<;>lia
def uq(e:SQ)(lo g:SV):slicePick e.toArray lo g Y=((e.drop (HT.lw e.length 0 lo)).take (HT.lw e.length e.length g-HT.lw e.length 0 lo)).toArray:=by obtain⟨i,j,l⟩:=vk lo g e.toArray.size;unfold slicePick;rw[i,j,l];simp only[sliceRange_one,pick_run]<;>rfl
def Pm(K:ij):V->SV->SV->Hp->VK->Prop:=λx lo e H Q=>∃a xs,x=.ref a/\SqL K H a xs/\∀p,H p=Y->Q (.ref p) (k_ H p (.lst (pH xs lo e)))
def xT:NN X (Pm X.K):=by intro E s Z H x v G F lo i sl Q e y t z o h;obtain⟨a,xs,rfl,B,q⟩:=h;cases y;obtain⟨l,r,j,u⟩:=e.list B;have g:=r.length;refine⟨"list",_,slot_list_getitem.lookup,j.isList.typeIs,?_⟩;refine wpAny_getItem_list_slice j.isList t z o .none (by simp) ?_ (by rw[va]<;>lia);rw[uq,<-g];refine⟨.ref s.heap.objs.size,_,e.laid (t':=s.toks) (λb C q=>ls _ q) (i3 _) ?_,rfl,q _ (e.hok.fresh (i3 _))⟩;exact⟨tx (oo xs lo i) u,_,0,(r.drop (HT.lw xs.length 0 lo)).take (HT.lw xs.length xs.length i-HT.lw xs.length 0 lo),q0 _ rfl⟩
def wv:ce X (.type "list") (λxs H Q=>∃p ys,xs=[.ref p]/\(SqL X.K H p ys\/SqT X.K H p ys)/\∀l,H l=Y->Q (.ref l) (k_ H l (.lst ys))):=by
 intro O s Z H xs P Q j r h;obtain⟨p,ys,rfl,z,q⟩:=h;obtain⟨u,rfl,M⟩:=eN r;cases M;have fin:∀(g:SQ),aI ys g->ys.length<=sizeLine->∀(i:Heap)(t:Nat),(∀b L,s.heap.get? b=J L->i.get? b=J L) ->
   i.get? s.heap.objs.size=J { cls:=.type "list",dict:=Y,data:=.seq g.toArray t,slots:=#[]}->EP X O Z Q (.ref s.heap.objs.size) { s with heap:=i}:=λg y B i t kp e =>
  ⟨.ref s.heap.objs.size,_,j.laid (t':=s.toks) kp (i3 _) (show ObjOk X.prog X.w _ i _ (.lst ys) from⟨B,g,t,y,e⟩),rfl,q _ (j.hok.fresh (i3 _))⟩
 rcases z with z|z
 .obtain⟨g,y,G,B⟩:=j.list z;have C:=y.length;obtain⟨o,F,E,n,hd⟩:=G.isList;exact call_list_seq p (.inl rfl) F E hd (λi t kp e=>fin g y B i t kp e) (by simp only[va]<;>lia)
 .obtain⟨g,y,G,B⟩:=j.tuple z;have C:=y.length;obtain⟨o,F,E,n,hd⟩:=G;exact call_list_seq p (.inr rfl) F E hd (λi t kp e=>fin g y B i t kp e) (by simp only[va]<;>lia)
def ln:ce X (.type "tuple") (λxs H Q=>∃p ys,xs=[.ref p]/\((SqL X.K H p ys/\∀l,H l=Y->Q (.ref l) (k_ H l (.tup ys)))\/(SqT X.K H p ys/\Q (.ref p) H))):=by
 intro M s Z H xs L Q g r h;obtain⟨p,ys,rfl,h⟩:=h;obtain⟨u,rfl,G⟩:=eN r;cases G;rcases h with⟨j,q⟩|⟨j,q⟩
 .obtain⟨i,y,t,B⟩:=g.list j;have C:=y.length;refine call_tuple_list t.isList (λF kp=>?_) (by simp only[va]<;>lia);have z:=g.kept (t':=s.toks) kp;have E :=
   z.laid (t':=s.toks) (λb o e=>ls _ e) (i3 _) (show ObjOk X.prog X.w _ _ _ (.tup ys) from⟨B,i,y,iG.new _ _⟩)
  exact⟨.ref F.objs.size,_,E,rfl,q _ (z.hok.fresh (i3 _))⟩
 .obtain⟨i,y,t,B⟩:=g.tuple j;exact call_tuple_same t ⟨.ref p,H,g,rfl,q⟩
def Po(K:ij)(e:String)(x:V)(H:Hp):Prop:=match x with
 |.str _=>e="str"
 |.int _=>e="int"
 |.ref p=>(e="list"/\∃xs,SqL K H p xs)\/(e="tuple"/\∃o,K.lookup p=J o/\o.cls=.type "tuple"/\o.dict=Y) \/
   (e="dict"/\((∃g,H p=J (.dK g))\/∃g,H p=J (.dT g)))\/(e="set"/\∃S n,H p=J (.set S n))
 |_=>False
def ID{G:SS}{Z:St}{H:Hp}{s:Shared}{l:String}{x:V}{v:Value}(g:Inv X G Z H s)(r:aW x v)(ty:Po X.K l x H):
  s.TypeIs v l/\∀a,v=.ref a->∃y,s.heap.get? a=J y/\y.dict=Y:=by
 cases x with
 |str z =>
  obtain⟨t,rfl⟩:=r;cases(ty);exact⟨typeIs_str s z t,λ_ e=>nomatch e⟩
 |int i =>
  obtain⟨t,rfl⟩:=r;cases(ty);exact⟨typeIs_int s i t,λ_ e=>nomatch e⟩
 |ref p =>
  cases r;rcases ty with⟨rfl,xs,F⟩|⟨rfl,o,j,E,hd⟩|⟨rfl,j⟩|⟨rfl,S,n,j⟩
  .obtain⟨C,_,B,_⟩:=g.list F;refine⟨B.isList.typeIs,λa e=>?_⟩;cases e;obtain⟨o,n,e,c,hd,_⟩:=B;exact⟨o,e,hd⟩
  .refine⟨⟨o,g.kIn p o j,E⟩,λa e=>?_⟩;cases e;exact⟨o,g.kIn _ o j,hd⟩
  .have z:∃o,s.heap.get? p=J o/\o.ExactDict:=by
    rcases j with⟨u,j⟩|⟨u,j⟩
    .obtain⟨_,_,_,_,o,_,_,e,ex,_⟩:=g.hok p _ j;exact⟨o,e,ex⟩
    .obtain⟨_,_,_,_,o,_,_,e,ex,_⟩:=g.hok p _ j;exact⟨o,e,ex⟩
   obtain⟨o,e,ex⟩:=z;refine⟨⟨o,e,ex.1⟩,λa e2=>?_⟩;cases e2;exact⟨o,e,ex.2.1⟩
  .obtain⟨o,_,_,_,e,ex,_⟩:=g.hok p _ j;refine⟨⟨o,e,ex.1⟩,λa e2=>?_⟩;cases e2;exact⟨o,e,ex.2.1⟩
 |_=>exact False.elim ty
def RI(K:ij)(e:String)(r:V->List V->Hp->VK->Prop)(to:TE)(t:TA):TE:=λZ H Q=>to Z H λx g=>Po K e x g/\t Z g λxs i=>r x xs i Q
variable{o e:Expr}{es:SW}{to:TE}{t:TA}{name:Str}{apos cpos:Pos}{T id:String}{r:V->List V->Hp->VK->Prop}
def Hd(R:PlainAttrs T)(slot:Slot T name id)(u:typeOf (.builtin id)=pure (.type "method_descriptor"))(W:Hc X id r)(L:PE X o to)(ha:PA X (e::es) t)(i:attributeBase o name X.env (eval o X.env)=eval o X.env:=by rfl)(l:((backTo cpos (starEach (e::es) X.env)).all (λx=>!x.1)&&(backToKw cpos (keywordEach [] X.env)).all (λx=>x.1.isSome)
   && decide ((e::es).length+([]:List Keyword).length+(if([]:List Keyword).isEmpty then 0 else 1)<30))=I:=by rfl)(j:(apos.endLine==cpos.line)=I:=by rfl)(O:starEach (e::es) X.env=(false,eval e X.env)::starEach es X.env:=by rfl)(g:(backTo cpos (starEach es X.env)).any (·.1)=false:=by rfl):
  PE X (.Call (.Attribute o name apos) (e::es) [] cpos) (RI X.K T r to t):=by
 intro z s Z H Q y h;refine wpAny_Call_method_late i l j rfl (lf (L z s Z H _ y h) λv S ⟨x,F,B,C,ty,M⟩=>?_);obtain⟨h1,h2⟩:=ID B C ty;refine⟨T,id,R,slot,u,h1,h2,?_⟩;have E:=ha cpos z S Z F _ B M;rw[O]at E ⊢;refine Calls.callWith_builtin (by show(false||(backTo cpos (starEach es X.env)).any (·.1))=false;rw[g]<;>rfl) (Calls.evalArgs_plain ?_);exact lf E λP U ⟨vs,H2,G,r2,q2⟩=>W z U Z H2 x vs v P Q G C r2 q2
end
def QI(X:Cx)(id:String)(r:V->List V->Hp->VK->Prop):Prop :=
 ∀(a:SS)(s:Shared)(Z:St)(H:Hp)(x:V)(xs:List V)(v:Value)(e:SQ)(Q:VK),Inv X a Z H s->aW x v->aI xs e->r x xs H Q ->
  wpAny (model X.prog X.w) X.A (call (.builtin id) (v::e)) (EP X a Z Q) X.xe s
def aI.zero(h:aI [] us):us=[]:=by cases h;rfl
def aI.one(h:aI [x] us):∃u,us=[u]/\aW x u:=by cases h with|cons r t=>exact⟨_,by rw[aI.zero t],r⟩
def aI.rep(h:aI xs us):∀k:Nat,aI (List.replicate k xs).flatten (List.replicate k us).flatten
 |0=>.nil
 |k+1=>by
  exact aI.append h (aI.rep h k)
def tU(a:SQ):∀(k:Nat)(g:SQ),
  List.foldl (λi j=>i++j) g.toArray (List.replicate k a.toArray)=(g++(List.replicate k a).flatten).toArray
 |0,g=>by simp
 |k+1,g=>by
  have e:g.toArray++a.toArray=(g++a).toArray:=by simp
  have e2:(g++a)++(List.replicate k a).flatten=g++(List.replicate (k+1) a).flatten:=by rw[HK,List.flatten_cons,Ei]
  rw[<-e2,<-tU a k (g++a),<-e,HK,NG]
section
variable{X:Cx}{Kt:List (Addr × Obj)}{Z:St}{H:Hp}{s:Shared}{l b:Addr}{xs ys zs:List V}
def Inv.lset{a its':SQ}{n:Nat}{f:Array Value->Array Value}{t:Nat}(g:Inv X Kt Z H s)(i:H l=J (.lst xs))(e:s.heap.get? l=J { cls:=.type "list",data:=.seq a.toArray n})(hf:f a.toArray=its'.toArray)(hv:aI ys its')(j:ys.length<=sizeLine):
  Inv X Kt Z (k_ H l (.lst ys)) { s with heap:=s.heap.update l (Obj.mapSeq f),toks:=t}:=by
 have q:=PySem.IsL.update e f;rw[hf]at q;refine g.write (x:=l) (e:=l) (by rw[i];exact trivial) (.inl rfl) (λy u r o=>(Nw s.heap (Obj.mapSeq f) (Ne.symm r)).trans o) ⟨_,q⟩ ?_;exact⟨j,its',_,hv,q⟩
def Inv.lnew(a:Inv X Kt Z H s)(hv:aI ys its)(e:ys.length<=sizeLine):
  Inv X Kt Z (k_ H s.heap.objs.size (.lst ys)) { s with heap:=s.heap.push { cls:=.type "list",data:=.seq its.toArray},toks:=t'} :=
 a.laid (λ_ _ q=>ls _ q) (i3 _) ⟨e,its,0,hv,q0 _ rfl⟩
def Inv.fresh(a:Inv X Kt Z H s):H s.heap.objs.size=Y:=a.hok.fresh (i3 _)
def Inv.lstM(g:Inv X Kt Z H s)(i:H l=J (.lst xs)):xs.length<=sizeLine/\∃(a:SQ) (n:Nat),aI xs a/\xs.length=a.length/\s.heap.get? l=J { cls:=.type "list",data:=.seq a.toArray n}:=by obtain⟨z,a,n,r,e⟩:=g.hok l _ i;exact⟨z,a,n,r,r.length,e⟩
def oZ(h:n<=sizeLine):Builtin.List.listTooLong n=T:=by unfold Builtin.List.listTooLong;exact decide_eq_false ⋯
end
section
variable{X:Cx}
def FC:V->List V->Hp->VK->Prop:=λx a H Q=>∃l xs y,x=.ref l/\a=[y]/\H l=J (.lst xs)/\xs.length<sizeLine/\Q .non (k_ H l (.lst (xs++[y])))
def sU:QI X "list.append" FC:=by
 intro G s Z H x L v C Q g o j h;obtain⟨l,xs,y,rfl,rfl,i,E,q⟩:=h;cases o;obtain⟨u,rfl,t⟩:=j.one;obtain⟨z,a,n,r,B,e⟩:=g.lstM i;refine call_meets F.slot_list_append ⟨_,e,rfl⟩ F.entry_list_append (F.args_list_append_2 _ _) (PySem.list_append l a.toArray n u (by rw[va];lia)) ⟨e,?_⟩;refine⟨.non,_,g.lset (its':=a++[u]) i e (by simp) (r.append (.cons t .nil)) ?_,rfl,q⟩
 grind
def FD:V->List V->Hp->VK->Prop:=λx e H Q=>∃l b xs a,x=.ref l/\e=[.ref b]/\H l=J (.lst xs)/\H b=J (.lst a)/\xs.length+a.length<=sizeLine/\Q .non (k_ H l (.lst (xs++a)))
def Ai:QI X "list.extend" FD:=by
 intro U s Z H x W v R Q j C B h;obtain⟨l,b,xs,P,rfl,rfl,t,y,S,q⟩:=h;cases C;obtain⟨u,rfl,E⟩:=B.one;cases E;obtain⟨z,g,n,r,O,e⟩:=j.lstM t;obtain⟨z2,a,G,L,M,e2⟩:=j.lstM y;have o:g.toArray.size+a.toArray.size<=sizeLine:=by rw[va,va];lia
 have i:¬(!g.toArray.isEmpty&&Builtin.List.listTooLong (g.toArray.size+a.toArray.size))=I:=by rw[oZ o,OK];exact Ld
 refine call_meets F.slot_list_extend ⟨_,e,rfl⟩ F.entry_list_extend (F.args_list_extend_2 _ _)
  (AutoSeq1.list_extend_list_list_0 l g.toArray n b a.toArray G i (by rw[va];lia) ⋯) ⟨e,e2,?_⟩
 refine⟨.non,_,j.lset (its':=g++a) t e (by simp) (r.append L) ?_,rfl,q⟩;rw[DO];lia
def Pp:R2:=λx y H Q=>∃l b xs a,x=.ref l/\y=.ref b/\H l=J (.lst xs)/\H b=J (.lst a)/\xs.length+a.length<=sizeLine/\∀p,H p=Y->Q (.ref p) (k_ H p (.lst (xs++a)))
def IE:OpR X (binaryOp .Add) Pp:=by
 intro O s Z H x y v u Q a t B h;obtain⟨l,b,xs,L,rfl,rfl,j,o,M,q⟩:=h;cases t;cases B;obtain⟨z,i,n,r,G,e⟩:=a.lstM j;obtain⟨R,g,P,C,F,e2⟩:=a.lstM o;refine PySem.P.add_list e e2 ?_ (by rw[va,va];lia);have E:i.toArray++g.toArray=(i++g).toArray:=by simp
 rw[E];exact⟨.ref _,_,a.lnew (t':=s.toks) (r.append C) (by rw[DO];lia),rfl,q _ a.fresh⟩
def Pq:R2:=λx y H Q=>∃l k xs,x=.ref l/\y=.int k/\H l=J (.lst xs) /\ -(2^63)<=k/\k<2^63/\xs.length*k.toNat<=sizeLine /\
 ∀p,H p=Y->Q (.ref p) (k_ H p (.lst (List.replicate k.toNat xs).flatten))
def xL{α:Type}(xs:List α)(k:Nat):(List.replicate k xs).flatten.length=k*xs.length:=by simp
def IF:OpR X (binaryOp .Mult) Pq:=by
 intro Kt s Z H x y v u Q j U W h;obtain⟨l,k,xs,rfl,rfl,S,h1,h2,M,q⟩:=h;cases U;obtain⟨t,rfl⟩:=W;obtain⟨z,g,n,r,O,e⟩:=j.lstM S;have B:g.toArray.size*k.toNat<=sizeLine:=by rw[va,<-O];exact M
 have o:¬g.toArray.size*k.toNat>(2^63-1)/8:=by
  have:(sizeLine:Nat)<=(2^63-1)/8:=by decide
  lia
 have C:¬(!Builtin.List.listFitsIndex k)=I:=by rw[fitsIndex_both h1 h2];exact Ld
 have i:¬Builtin.List.listTooLong (g.toArray.size*k.toNat)=I:=by rw[oZ B];exact Ld
 have E:List.foldl (λL G=>L++G) #[] (List.replicate (if g.toArray.isEmpty=I then 0 else k.toNat) g.toArray)=(List.replicate k.toNat g).flatten.toArray:=by
  have R:∀m:Nat,List.foldl (λL G=>L++G) #[] (List.replicate m g.toArray)=(List.replicate m g).flatten.toArray:=λm=>by
   have:=tU g m []
   exact this
  rw[R]
  cases g with
  |nil=>simp
  |cons a r'=>rw[f_ (by simp)]
 refine wpAny_binaryOp_repeat_ref (by decide) ⟨_,e,rfl⟩ (λP=>typeIs_int P k t) noFill_list_mul F.fills_int_mul F.slot_int_rmul repeat_list F.slot_int_index.lookup
  (call_meets F.slot_int_rmul (typeIs_int s k t) F.entry_int_rmul (F.args_int_rmul_2 _ _) (int___rmul___int_list k t l g.toArray n)
   ⟨e,rfl,⟨_,e,rfl⟩,call_meets F.slot_list_mul ⟨_,e,rfl⟩ F.entry_list_mul (F.args_list_mul_2 _ _) (AutoListH.list___mul___list_int_3 l g.toArray n k t C o i) ⟨e,?_⟩⟩)
 rw[E];exact⟨.ref _,_,j.lnew (t':=s.toks) (r.rep k.toNat) (by rw[xL,Nat.mul_comm];exact M),rfl,q _ j.fresh⟩
end
section
variable{prog:Program}{w:World}{A:Around}{E:SA}{s:Shared}
end
section
variable{X:Cx}
end
end L2
namespace Att
open PySem.W PySem.Calls PyProof.Rows
def pW:∀(ns:R6)(e:SQ),WellAll P h e (ns.map WData.int)->IntsAre e ns:=by
 intro ns
 induction ns with
 |nil =>
  intro e w;rw[OP]at w;cases w;exact .nil
 |cons n ns g =>
  intro e w;rw[wj]at w
  cases w with
  |cons a b =>
   cases a;exact .cons _ _ (g _ b)
def zN{l:OpenLaw}{n:Nat}(L:l.most=J n){P:Params}{h:Heap}{e:List WData}{g:SQ}(i:l.row.toRowW.claim.pre e=I)(t:WellAll P h g e):
  ∃a y ns,g=[Value.ref a]/\e=[WData.list (ns.map WData.int)]/\h.get? a=J { cls:=.type "list",data:=.seq y.toArray}/\IntsAre y ns/\ns.length<=n:=by
 have u:=(pre_splitW i).1;have B:=(pre_splitW i).2;obtain⟨d,r,rfl,G,H⟩:=hasAllW_cons u;obtain rfl:=hasAllW_nil H;obtain⟨xs,rfl,z⟩:=hasW_list G;obtain⟨ns,rfl⟩:=items_int z;have o:ns.length<=n:=by
  have s:(WTm.not (.lt (.lit (.int (n:Int))) (.len (.arg 0)))).holds [] { args:=[.list (ns.map .int)]}=I:=by have s:=(holds_andW B).1;rw[L]at s;exact s
  have M:=condW_of s (w_not (w_lt w_lit (w_len_list (w_arg rfl))))
  simp_all
 cases t with
 |cons C F =>
  cases F
  cases C with
  |list E j=>exact⟨_,_,ns,rfl,rfl,E,pW ns _ j,o⟩
def AQ(l:OpenLaw)(a:List WData):l.row.toRowW.claim.post a (.bool I) a=I :=
 postW_of
  (show WShape.has [] (.bool I) .bool=I by first | rfl | decide | simp)
  (w_eq_bool (w_res rfl) w_lit) rfl
def wO{l:OpenLaw}{n:Nat}{q:Program}{loose:R5}{XP:(Str->SU)->Heap->Prop}{O:World->Heap->Prop}{d:DefRec}(hn:l.most=J n)(E:d.params.defaults=[])(call:∀(w:World)(s₀ e:Shared)(mg mb:SD)(s:Addr)(o:Obj)(pm B i:Value)(a:Addr)(j:SQ)(ns:R6),
   Ground q loose [] XP w s₀ mg mb e.heap->O w e.heap ->
   e.heap.get? s=J o->o.data=.func (docDef d.name d.params d.body d.scope pm B i)->e.heap.CodeRec B d.name->mg d.name=J (.ref s) ->
   e.heap.get? a=J { cls:=.type "list",data:=.seq j.toArray}->IntsAre j ns->ns.length<=n->e.gens=#[] ->
   codeAny (model l.prog w) callerA (.call (.ref s) ⟨[.ref a],[]⟩) (λr z=>r=.ok (.ret (.bool I))/\OldK e.heap z.heap/\z.os=e.os/\AllBare z.gens) e):
  WalkO q loose XP O l.row.toRowW d [] (λf j=>PySem.call f j):=by
 intro w s₀ e mg mb G F s o pm B i dV kV X hd H Q L hg P M as t R ab C W;obtain rfl:=Dflts.none Q E;obtain rfl:=Dflts.noKw Q;obtain⟨a,j,ns,rfl,rfl,u,g,y⟩:=zN hn t C;refine enter_call (codeAny_mono (call w s₀ e mg mb s o pm B i a j ns G F X (fd_plain hd) H L u g y hg) λr z U=>?_);obtain⟨rfl,h2,S,h4⟩:=U;exact⟨.inl ⟨.bool I,.bool I,[],rfl,λ_=>rfl,.bool I,AQ l _,λ_=>⟨List.Pairwise.nil,λ_ Z=>(nomatch Z)⟩⟩,h2,S,h4⟩
section
variable{prog:Program}{w:World}{A:Around}{E:SA}{s:Shared}{K:Frag}
end
end Att
namespace L2
open PySem.Spec PyProof.Rows
def sQ:∀{a:SQ}{ns:R6},IntsAre a ns->aI (ns.map V.int) a
 |_,_,.nil=>.nil
 |_,_,.cons n t h=>.cons ⟨t,rfl⟩ (sQ h)
def IG(H:Hp):Prop:=∀b,H b=Y\/∃o xs,H b=J (.frz o (.lst xs))
def Cg{P:Program}{w:World}{K:ij}{mg mb:SD}{CX:EA}{k:Nat}{X a:Addr}{fd:FuncData}{x:Str}{sp:Sp}{g:Shared}{B:SQ}{ns:R6}(KX:K.In g.heap)(E:g.heap.Ns mainGlobals mg)(j:g.heap.Ns builtinsNs mb)(Z:∀x:Str,x≠"__name__"->mb x=bootBuiltins x)(S:g.heap.NoLimit)(hg:g.gens=#[])(U:g.heap.get? a=J { cls:=.type "list",data:=.seq B.toArray})(hi:IntsAre B ns)(hl:ns.length<=sizeLine)(hr:Room k callerA)(F:∀base:Heap,K.In base->base.Ns mainGlobals mg->FnOk P w K mg base CX k X fd [x] sp)(C:∀(s:Shared) (u:Value),BindsTo s fd ⟨[u],[]⟩ [(x,u)])(W:∀H:Hp,IG H->SqL K H a (ns.map V.int)->sp [.ref a] H (λv _=>v=.bl I) λ_ _ _=>False)(ab:∀H e l,CX [] H g (λ_ _ _=>False) e l->False):
  codeAny (model P w) callerA (.call (.ref X) ⟨[.ref a],[]⟩) (λr l=>r=.ok (.ret (.bool I))/\OldK g.heap l.heap/\l.os=g.os/\AllBare l.gens) g:=by
 have rv:=sQ hi;have M:=hi.length;have y:∀H:Hp,IG H->SqL K H a (ns.map V.int)->HOk P w H g.heap->(∀b,H b≠Y->b=a)->(H a≠Y->K.lookup a=Y) ->
   codeAny (model P w) callerA (.call (.ref X) ⟨[.ref a],[]⟩) (λr l=>r=.ok (.ret (.bool I))/\OldK g.heap l.heap/\l.os=g.os/\AllBare l.gens) g:=by
  intro H hO hS hok hA hK;have i:∀{b:Addr}{o:Obj},g.heap.get? b=J o->H b=Y->(kL g.heap H).get? b=J o:=λe n=>Cr e n;have al:∀{b:Addr}{o:Obj}{Q:Array DictEntry}{O:Nat},g.heap.get? b=J o->o.data=.dict Q O->H b=Y:=λ{b o Q O} e d=>by
   cases q:H b with
   |none=>rfl
   |some u =>
    have e':b=a:=hA b (by rw[q];simp);subst e';rw[U]at e;cases e;have d':Data.seq B.toArray _=Data.dict Q O:=d;cases d'
  have t:∀{b:Addr}{m:SD},g.heap.Ns b m->(kL g.heap H).Ns b m:=λ{b m} ⟨o,Q,O,e,d,r⟩=>⟨o,Q,O,i e (al e d),d,r⟩
  have G:K.In (kL g.heap H):=λb o e=>i (KX b o e) (by
   cases q:H b with
   |none=>rfl
   |some u =>
    have e':b=a:=hA b (by rw[q];simp);subst e'
    rw[hK (by rw[q];simp)]at e;cases e)
  have hM:Mod K mg (kL g.heap H):=⟨G,t E,⟨mb,t j,Z⟩,let⟨mc,h1,h2⟩:=S;⟨mc,t h1,h2⟩⟩;have e0:Ft P w K mg (kL g.heap H) callerA [] g H:=⟨rfl,hM,λb o e=>Fi e,Nat.le_of_eq (A8 _ _),trivial,λb j=>absurd (show b∈([]:SM)from j) (by simp),hok,.of_eq hg⟩;refine codeAny_mono ((F _ G (t E)).run callerA [] g H ⟨[.ref a],[]⟩ [.ref a] [.ref a] _ _ hr e0 (C g (.ref a)) (.cons rfl .nil) (W H hO hS)) λr l h=>?_
  cases r with
  |error e=>exact(ab H e l h).elim
  |ok fl =>
   cases fl with
   |next=>exact False.elim h
   |brk=>exact False.elim h
   |cont=>exact False.elim h
   |ret u =>
    obtain⟨v,H',os,bare,un,R,r',q⟩:=h;have q':v=.bl I:=q;subst q';obtain rfl:u=Value.bool I:=r';refine⟨rfl,OldK.of_keep λb o e=>?_,os,bare⟩
    cases q:H b with
    |none=>exact un.keep b o e q (by intro z;exact absurd (show b∈([]:SM)from z) (by simp)) (by simp)
    |some u =>
     rcases hO b with z|⟨ob,xs,z⟩
     .rw[q]at z;cases z
     .have z2:=un.frzs b ob _ z;obtain⟨e1,_⟩:=hok b _ z;obtain⟨e2,_⟩:=R b _ z2;rw[e]at e1;cases e1;exact e2
 cases hk:K.lookup a with
 |some o =>
  have e:=KX a o hk;rw[U]at e;cases e;refine y (λ_=>Y) (λ_=>.inl rfl) (.inr ⟨_,B.toArray,_,hk,rfl,rfl,rfl,by rw[va,M];exact hl,by simpa using rv⟩) (λb u z=>by have L:(Y:Option HO)=J u:=z;cases L) (λb z=>absurd rfl z) λz=>absurd rfl z
 |none =>
  refine y (λb=>if b=a then J (.frz { cls:=.type "list",data:=.seq B.toArray} (.lst (ns.map V.int)))else Y) (λb=>?_) (.inl (.inr ⟨{ cls:=.type "list",data:=.seq B.toArray},c_ rfl⟩)) (λb u z=>?_) (λb z=>?_) λ_=>hk
  .by_cases j:b=a
   .exact .inr ⟨_,_,c_ j⟩
   .exact .inl (f_ j)
  .by_cases j:b=a
   .have L:=(c_ j).symm.trans z;cases L;subst j;exact⟨U,by rw[tu];exact hl,B,_,rv,U⟩
   .have L:=(f_ j).symm.trans z;cases L
  .by_cases j:b=a
   .exact j
   .exact absurd (f_ j) z
abbrev nq{K:ij}{h:Heap}(_:K.In h):ij:=K
def FE{l:PySem.W.OpenLaw}{n k:Nat}{q:Program}{loose:R5}{XP:(Str->SU)->Heap->Prop}{O:World->Heap->Prop}{d:DefRec}{K:Params->ij}{CX:World->EA}{sp:World->Sp}{x:Str}(hn:l.most=J n)(M:n<=sizeLine)(z:d.params.defaults=[])(hr:Room k callerA)(hY:∀(w:World)(h:Heap),O w h->(K w.params).In h)(F:∀(w:World)(mg:SD)(t:Addr)(h:Heap),(K w.params).In h->h.Ns mainGlobals mg->mg d.name=J (.ref t) ->
   ∃fd:FuncData,(∀(s:Shared)(u:Value),BindsTo s fd ⟨[u],[]⟩ [(x,u)]) /\
    ∀base:Heap,(K w.params).In base->base.Ns mainGlobals mg->FnOk l.prog w (K w.params) mg base (CX w) k t fd [x] (sp w))(B:∀(w:World)(H:Hp)(a:Addr)(ns:R6),ns.length<=n->IG H->SqL (K w.params) H a (ns.map V.int)->sp w [.ref a] H (λv _=>v=.bl I) λ_ _ _=>False)(E:∀(w:World)(H:Hp)(s:Shared)(e:Value)(y:Shared),CX w [] H s (λ_ _ _=>False) e y->False):
  PySem.W.WalkO q loose XP O l.row.toRowW d [] (λf Q=>PySem.call f Q):=by
 refine Att.wO hn z λw s₀ j mg mb t o pm cd W a Q ns G C ho hd X L r i g hg=>?_;have P:=hY w _ C;obtain⟨fd,S,R⟩:=F w mg t _ P G.T.g L;exact Cg P G.T.g G.T.b G.T.builtins G.T.nolimit hg r i (tx g M) hr R S (λH Z U=>B w H a ns g Z U) λH e y=>E w H j e y
def iB(s:Stmt):Arguments:=match s with
 |.FunctionDef _ a _ _ _ _ _ _ _ _=>a
 |_=>{ posonlyargs:=[],args:=[],vararg:=Y,kwonlyargs:=[],kw_defaults:=[],kwarg:=Y,defaults:=[]}
def aJ(s:Stmt):List Stmt:=match s with
 |.FunctionDef _ _ b _ _ _ _ _ _ _=>b
 |_=>[]
def aM(s:Stmt):Scope:=match s with
 |.FunctionDef _ _ _ _ _ _ a _ _ _=>a
 |_=>{ kind:=.function,names:=[],isGenerator:=T,isCoroutine:=T}
structure Fun(K:ij)(x qual:Str)(st:Stmt)(f:Addr)(fd:FuncData):Prop where
 ex:∃(oc:Value)(od:Option Addr)(kV doc pm:Value)(an:Option Addr)(cdv ct:Value)(osl:Array (SU)),
  fd=PySem.W.fnOf x qual (iB st) (aJ st) (aM st) .none kV doc pm an cdv ct/\K.lookup f=J ⟨oc,od,.func fd,osl⟩/\PySem.W.codeIn K cdv qual=I
 kp:PySem.W.keepIn K (.ref f)=I
section
variable{P:Program}{w:World}{K:ij}{mg:SD}{base:Heap}
def Fun.binds{x a:Str}{st:Stmt}{f:Addr}{fd:FuncData}{l:R5}(F:Fun K x a st f fd)(h:∀(kV e pm:Value)(i:Option Addr)(g ct:Value)(j:SQ),j.length=l.length->bindArgs (PySem.W.fnOf x a (iB st) (aJ st) (aM st) .none kV e pm i g ct) ⟨j,[]⟩=pure (l.zip j)):qg K fd l []:=by
 obtain⟨s,u,kV,e,pm,i,g,ct,r,rfl,t,o⟩:=F.ex;exact .all (h kV e pm i g ct)
def IH{x a:Str}{st:Stmt}{f:Addr}{o:Value}{r j:Option Addr}{i:Array (SU)}{kV g pm e ct:Value}(l:K.lookup f=J ⟨o,r,.func (PySem.W.fnOf x a (iB st) (aJ st) (aM st) .none kV g pm j e ct),i⟩)(c:PySem.W.codeIn K e a=I)(k:PySem.W.keepIn K (.ref f)=I):Fun K x a st f (PySem.W.fnOf x a (iB st) (aJ st) (aM st) .none kV g pm j e ct):=⟨⟨o,r,kV,g,pm,j,e,ct,i,rfl,l,c⟩,k⟩
end
section
variable{X:Cx}
end
end L2
namespace MM
open PySem.Spec PyProof.Rows L2
inductive PV where
 |non | bl (b:Bool) | int (i:Int) | str (x:Str) | tup (xs:List PV) | frl (xs:List PV) | loc (n:Nat)
abbrev _root_.R4:=List PV
structure DR where
 cls:Str
 fs:List (Str×PV):=[]
inductive MO where
 |lst(xs:R4)
 |dic(kvs:List (PV×PV))
 |exc(x:DR)
abbrev MH:=List MO
abbrev l_:=List (Option PV)
inductive Out(α:Type) where
 |ok(a:α)(h:MH)
 |exc(x:DR)(h:MH)
 |bad
abbrev _root_.SX:=Out PV
def Out.bind{α β:Type}(o:Out α)(f:α->MH->Out β):Out β:=match o with
 |.ok a h=>f a h
 |.exc x h=>.exc x h
 |.bad=>.bad
@[simp]theorem Out.bind_ok(a:α)(h:MH)(f:α->MH->Out β):(Out.ok a h).bind f=f a h:=rfl
@[simp]theorem Out.bind_exc(x:DR)(h:MH)(f:α->MH->Out β):(Out.exc x h).bind f=.exc x h:=rfl
@[simp]theorem Out.bind_bad(f:α->MH->Out β):(Out.bad:Out α).bind f=.bad:=rfl
inductive SOut where
 |nx(Z:l_)(h:MH)
 |rt(v:PV)(h:MH)
 |bk(Z:l_)(h:MH)
 |ct(Z:l_)(h:MH)
 |exc(x:DR)(Z:l_)(h:MH)
 |rse(x:DR)(Z:l_)(h:MH)
 |bad
def Out.ne{α:Type}(o:Out α):Out α:=match o with
 |.exc _ _=>.bad
 |o=>o
@[simp]theorem Out.ne_ok(a:α)(h:MH):(Out.ok a h).ne=.ok a h:=rfl
@[simp]theorem Out.ne_bad:(Out.bad:Out α).ne=.bad:=rfl
@[simp]theorem Out.ne_ne(o:Out α):o.ne.ne=o.ne:=by cases o<;>rfl
def SqF(K:ij)(H:Hp)(a:Addr)(ys:List V):Prop :=
 (∃o,H a=J (.frz o (.lst ys))) \/
  ∃(o:Obj) (e:Array Value) (n:Nat),K.lookup a=J o/\o.cls=.type "list"/\o.dict=Y/\o.data=.seq e n/\e.size<=sizeLine/\aI ys e.toList
def SqF.sq{K:ij}{H:Hp}{a:Addr}{ys:List V}(h:SqF K H a ys):SqL K H a ys:=by
 rcases h with h|h
 .exact .inl (.inr h)
 .exact .inr h
mutual
inductive RP(K:ij)(U:SM)(H:Hp):PV->V->Prop where
 |non:RP K U H .non .non
 |bl(b:Bool):RP K U H (.bl b) (.bl b)
 |int(i:Int):RP K U H (.int i) (.int i)
 |str(x:Str):RP K U H (.str x) (.str x)
 |tup{xs:R4}{a:Addr}{ys:List V}(s:SqT K H a ys)(r:RPs K U H xs ys):RP K U H (.tup xs) (.ref a)
 |frl{xs:R4}{a:Addr}{ys:List V}(s:SqF K H a ys)(r:RPs K U H xs ys):RP K U H (.frl xs) (.ref a)
 |loc{n:Nat}{a:Addr}(e:U[n]?=J a):RP K U H (.loc n) (.ref a)
inductive RPs(K:ij)(U:SM)(H:Hp):R4->List V->Prop where
 |nil:RPs K U H [] []
 |cons{x:PV}{y:V}{xs:R4}{ys:List V}(r:RP K U H x y)(t:RPs K U H xs ys):RPs K U H (x::xs) (y::ys)
end
structure Le(U:SM)(H:Hp)(U':SM)(H':Hp):Prop where
 pre:∃m,U'=U++m
 tup:∀a xs,H a=J (.tup xs)->H' a=J (.tup xs)
 frz:∀a o u,H a=J (.frz o u)->H' a=J (.frz o u)
def Le.refl(U:SM)(H:Hp):Le U H U H:=⟨⟨[],by simp⟩,λ_ _ h=>h,λ_ _ _ h=>h⟩
def Le.trans(a:Le U H U1 H1)(b:Le U1 H1 U2 H2):Le U H U2 H2:=by obtain⟨m,e⟩:=a.pre;obtain⟨i,g⟩:=b.pre;exact⟨⟨m++i,by rw[g,e,Ei]⟩,λc xs h=>b.tup c xs (a.tup c xs h),λc o u h=>b.frz c o u (a.frz c o u h)⟩
def Le.get{U g:SM}{H j:Hp}(l:Le U H g j){n:Nat}{a:Addr}(e:U[n]?=J a):g[n]?=J a:=by obtain⟨m,i⟩:=l.pre;rw[i,yS (mw.mp e).1];exact e
def Le.sqt{K:ij}{U g:SM}{H e:Hp}(l:Le U H g e){a:Addr}{xs:List V}(h:SqT K H a xs):SqT K e a xs:=by
 rcases h with(h|⟨o,h⟩)|h
 .exact .inl (.inl (l.tup _ _ h))
 .exact .inl (.inr ⟨o,l.frz _ _ _ h⟩)
 .exact .inr h
def Le.sqf{K:ij}{U g:SM}{H e:Hp}(l:Le U H g e){a:Addr}{xs:List V}(h:SqF K H a xs):SqF K e a xs:=by
 rcases h with⟨o,h⟩|h
 .exact .inl ⟨o,l.frz _ _ _ h⟩
 .exact .inr h
section
variable{K:ij}{U U':SM}{H H':Hp}
def RP.le(l:Le U H U' H'){x:PV}{y:V}(r:RP K U H x y):RP K U' H' x y :=
 RP.rec .non .bl .int .str (λs _ i=>.tup (l.sqt s) i) (λs _ i=>.frl (l.sqf s) i) (λe=>.loc (l.get e)) .nil (λ_ _ a b=>.cons a b) r
def RPs.le(l:Le U H U' H')(r:RPs K U H xs ys):RPs K U' H' xs ys:=by
 induction xs generalizing ys with
 |nil=>cases r;exact .nil
 |cons x xs e=>cases r with|cons a t=>exact .cons (a.le l) (e t)
def RPs.length(r:RPs K U H xs ys):xs.length=ys.length:=by
 induction xs generalizing ys with
 |nil=>cases r;rfl
 |cons x xs e=>cases r with|cons a t=>exact congrArg (·+1) (e t)
def RPs.get{xs:R4}{ys:List V}{i:Nat}{x:PV}(r:RPs K U H xs ys)(e:xs[i]?=J x):∃y,ys[i]?=J y/\RP K U H x y:=by
 induction xs generalizing ys i with
 |nil=>cases e
 |cons x xs g =>
  cases r with
  |cons a t =>
   cases i with
   |zero=>cases e;exact⟨_,rfl,a⟩
   |succ i=>have z:=@g _ i t e;exact z
def RPs.set(r:RP K U H x u)(i:Nat)(q:RPs K U H xs us):RPs K U H (xs.set i x) (us.set i u):=by
 induction xs generalizing us i with
 |nil=>cases q;exact .nil
 |cons x xs e =>
  cases q with
  |cons a t =>
   cases i with
   |zero=>exact .cons r t
   |succ i=>exact .cons a (e i t)
def RPs.append(r:RPs K U H xs us)(s:RPs K U H ys ws):RPs K U H (xs++ys) (us++ws):=by
 induction xs generalizing us with
 |nil=>cases r;exact s
 |cons x xs e=>cases r with|cons a t=>exact .cons a (e t)
def RPs.take(n:Nat)(r:RPs K U H xs us):RPs K U H (xs.take n) (us.take n):=by
 induction n generalizing xs us with
 |zero=>exact .nil
 |succ n e =>
  cases xs with
  |nil=>cases r;exact .nil
  |cons x xs=>cases r with|cons a t=>exact .cons a (e t)
def RPs.drop(n:Nat)(r:RPs K U H xs us):RPs K U H (xs.drop n) (us.drop n):=by
 induction n generalizing xs us with
 |zero=>exact r
 |succ n e =>
  cases xs with
  |nil=>cases r;exact .nil
  |cons x xs=>cases r with|cons a t=>exact e t
def RPs.ints:∀(ns:R6),RPs K U H (ns.map PV.int) (ns.map V.int)
 |[]=>.nil
 |n::r=>.cons (.int n) (RPs.ints r)
end
def jq(a C:Addr)(h:Heap):Prop:=∃o e,h.get? a=J o/\o.cls=.ref C/\o.data=.fields e
abbrev Dx:=Str->SU
def RO(K:ij)(mg:Dx)(U:SM)(H:Hp)(a:Addr):MO->Option HO->Prop
 |.lst xs,e=>∃ys,e=J (.lst ys)/\RPs K U H xs ys
 |.dic g,e=>g=[]/\e=J (.dK [])
 |.exc x,e=>x.fs=[]/\∃C,mg x.cls=J (.ref C)/\e=J (.ext (jq a C))
structure RH(K:ij)(mg:Dx)(U:SM)(H:Hp)(h:MH):Prop where
 len:U.length=h.length
 nd:U.Nodup
 at':∀(n:Nat)(a:Addr)(o:MO),U[n]?=J a->h[n]?=J o->RO K mg U H a o (H a)
def RO.le{K:ij}{mg:Dx}{U j:SM}{H i:Hp}{a:Addr}(l:Le U H j i){o:MO}{g:Option HO}(r:RO K mg U H a o g):RO K mg j i a o g:=by
 cases o with
 |lst xs=>obtain⟨ys,e,r⟩:=r;exact⟨ys,e,r.le l⟩
 |dic s=>exact r
 |exc x=>exact r
def RO.some{K:ij}{mg:Dx}{U:SM}{H:Hp}{a:Addr}{o:MO}{g:Option HO}(r:RO K mg U H a o g):g≠Y:=by
 cases o with
 |lst xs=>obtain⟨ys,e,_⟩:=r;rw[e];simp
 |dic i=>obtain⟨_,e⟩:=r;rw[e];simp
 |exc x=>obtain⟨_,C,_,e⟩:=r;rw[e];simp
def RO.plain{K:ij}{mg:Dx}{U:SM}{H:Hp}{a:Addr}{o:MO}{g:Option HO}(r:RO K mg U H a o g):(∀xs,g≠Option.some (.tup xs))/\∀p u,g≠Option.some (.frz p u):=by
 cases o with
 |lst xs=>obtain⟨ys,e,_⟩:=r;rw[e];exact⟨(λ_ z=>nomatch z),(λ_ _ z=>nomatch z)⟩
 |dic i=>obtain⟨_,e⟩:=r;rw[e];exact⟨(λ_ z=>nomatch z),(λ_ _ z=>nomatch z)⟩
 |exc x=>obtain⟨_,C,_,e⟩:=r;rw[e];exact⟨(λ_ z=>nomatch z),(λ_ _ z=>nomatch z)⟩
section
variable{K:ij}{mg:Dx}{U:SM}{H:Hp}{h:MH}
def RH.obj(r:RH K mg U H h){n:Nat}{a:Addr}(e:U[n]?=J a):∃o,h[n]?=J o/\RO K mg U H a o (H a):=by
 have g:n<h.length:=by rw[<-r.len];exact(mw.mp e).1
 exact⟨h[n],by simp,r.at' n a _ e (by simp)⟩
def RH.new(r:RH K mg U H h){p:Addr}(t:H p=Y){o:MO}{ho:HO}(F:RO K mg U H p o (J ho)):RH K mg (U++[p]) (k_ H p ho) (h++[o])/\Le U H (U++[p]) (k_ H p ho):=by
 have g:∀n a,U[n]?=J a->a≠p:=λn a e z=>by
  obtain⟨B,_,q⟩:=r.obj e;rw[z,t]at q;exact q.some rfl
 have l:Le U H (U++[p]) (k_ H p ho):=⟨⟨[p],rfl⟩,λa xs e=>by rw[aS (bN e t)];exact e,λa G u e=>by rw[aS (bN e t)];exact e⟩;refine⟨⟨by simp[r.len],?_,λn a B e1 e2=>?_⟩,l⟩
 .rw[G3];refine⟨r.nd,by simp,λa E b C=>?_⟩;obtain⟨n,e⟩:=C6.mp E;have y:b=p:=by simpa using C
  rw[y];exact g n a e
 .by_cases i:n<U.length
  .rw[yS i]at e1;rw[yS (by rw[<-r.len];exact i)]at e2;rw[aS (g n a e1)];exact(r.at' n a B e1 e2).le l
  .rw[DG ⋯]at e1;rw[DG (by rw[<-r.len];lia)]at e2;have s:n-U.length=0:=by
    grind
   rw[s]at e1;have j:n-h.length=0:=by have:=r.len;lia
   rw[j]at e2;simp at e1 e2;subst e1;subst e2;rw[bI];exact F.le l
def RH.put(r:RH K mg U H h){n:Nat}{a:Addr}(e:U[n]?=J a){o:MO}{ho:HO}(F:RO K mg U H a o (J ho)):RH K mg U (k_ H a ho) (h.set n o)/\Le U H U (k_ H a ho):=by
 obtain⟨O,_,q⟩:=r.obj e;obtain⟨s,B⟩:=q.plain
 have l:Le U H U (k_ H a ho):=⟨⟨[],by simp⟩,λb xs z=>by
   have:b≠a:=by rintro rfl;exact s _ z
   rw[aS this];exact z,λb G u z=>by
   have:b≠a:=by rintro rfl;exact B _ _ z
   rw[aS this];exact z⟩
 refine⟨⟨by simp[r.len],r.nd,λm b j e1 e2=>?_⟩,l⟩;by_cases g:m=n
 .subst g;rw[e]at e1;cases e1;rw[bI]
  have:m<h.length:=by rw[<-r.len];exact(mw.mp e).1
  rw[BO this]at e2;cases e2;exact F.le l
 .rw[pq (λz=>g z.symm)]at e2;have t:b≠a:=by
   rintro rfl;have C:=mw.mp e;have E:=mw.mp e1;obtain⟨M,y⟩:=C;obtain⟨L,i⟩:=E;exact g ((List.getElem_inj r.nd).mp (i.trans y.symm))
  rw[aS t];exact(r.at' m b j e1 e2).le l
def RH.tup(r:RH K mg U H h){p:Addr}(i:H p=Y)(ys:List V):RH K mg U (k_ H p (.tup ys)) h/\Le U H U (k_ H p (.tup ys)):=by
 have g:∀n a,U[n]?=J a->a≠p:=λn a e z=>by
  obtain⟨s,_,q⟩:=r.obj e;rw[z,i]at q;exact q.some rfl
 have l:Le U H U (k_ H p (.tup ys)):=⟨⟨[],by simp⟩,λa xs e=>by rw[aS (bN e i)];exact e,λa j u e=>by rw[aS (bN e i)];exact e⟩;exact⟨⟨r.len,r.nd,λn a o e1 e2=>by rw[aS (g n a e1)];exact(r.at' n a o e1 e2).le l⟩,l⟩
end
def RS(K:ij)(U:SM)(H:Hp)(a:l_)(Z:L2.St):Prop :=
 Z.length=a.length/\∀(i:Nat)(v:PV),a[i]?=J (J v)->∃e,Z[i]?=J (J e)/\RP K U H v e
def RS.le{K:ij}{U g:SM}{H j:Hp}{a:l_}{Z:L2.St}(l:Le U H g j)(r:RS K U H a Z):RS K g j a Z :=
 ⟨r.1,λi v e=>by obtain⟨s,o,q⟩:=r.2 i v e;exact⟨s,o,q.le l⟩⟩
def RS.set{K:ij}{U:SM}{H:Hp}{a:l_}{Z:L2.St}(r:RS K U H a Z)(i:Nat){v:PV}{l:V}(q:RP K U H v l):RS K U H (a.set i (J v)) (Z.set i (J l)):=by
 refine⟨by simp[r.1],λj u e=>?_⟩;by_cases g:j=i
 .subst g;by_cases o:j<a.length
  .rw[BO o]at e;cases e;exact⟨l,BO (by rw[r.1];exact o),q⟩
  .rw[Eh (by simp;lia)]at e;cases e
 .rw[pq (λz=>g z.symm)]at e;obtain⟨y,s,t⟩:=r.2 j u e;exact⟨y,by rw[pq (λz=>g z.symm)];exact s,t⟩
def QJ(B:Heap)(fs:SM)(h:Heap):Prop:=∀b o,h.get? b=J o->b∉fs->∃a,B.get? b=J a
def Pr(l:List Env)(H:Hp)(a:Heap)(C e:Addr)(h:Heap):Prop :=
 ∃B t,Heap.FlyingW B l e (.ref C) (.ref t) h/\(∀b o,H b=J o->∃g,B.get? b=J g)/\QJ B (A_ l) a/\H e=Y
structure EL(X:Cx)(h:Heap):Prop where
 old:∀b o,X.s₀.heap.get? b=J o->b∉X.ex->∃o',h.get? b=J o'
 cell:∀x c,X.env.cells.lookup x=J c->∃o,h.get? c=J o
 pin:∀p∈X.pn,∃o,h.get? p.1=J o
def Inv.bears{X:Cx}{i:SS}{Z:L2.St}{H:Hp}{s:Shared}(a:Inv X i Z H s):EL X s.heap :=
 ⟨λb o e n=>a.base.there b o e n,λx c e=>let⟨_,o,j,_⟩:=a.cell x c e;⟨o,j⟩,λp g=>⟨_,(a.pin p (C7 _ g)).1⟩⟩
def XP(X:Cx)(i:l_)(U:SM)(H:Hp)(x:DR)(h:MH):Prop:=∀(l C:Addr)(g:SM)(e:Hp)(o:L2.St)(j:Shared)(a:Heap),x.fs=[]->X.mg x.cls=J (.ref C)->Le U H g e->RH X.K X.mg g e h->RS X.K g e i o ->
 Inv X [] o e j->EL X a->Pr X.stack e a C l j.heap->X.xe (.ref l) j
def XM(X:Cx)(i:l_)(U:SM)(H:Hp)(x:DR)(h:MH):Prop:=∀(l C:Addr)(g:SM)(e:Hp)(r:L2.St)(j:Shared)(o:Heap)(a:SQ),x.fs=[]->X.mg x.cls=J (.ref C)->Le U H g e->RH X.K X.mg g e h->RS X.K g e i r ->
 Inv X [] r e { j with heap:=o}->Heap.MadeExcOf o j.heap l (.ref C) a->X.xe (.ref l) j
def XP.le(l:Le U H U' H')(q:XP X σp U H x h):XP X σp U' H' x h :=
 λj C g r e i a e1 e2 o=>q j C g r e i a e1 e2 (l.trans o)
def XM.le(l:Le U H U' H')(q:XM X σp U H x h):XM X σp U' H' x h :=
 λo C i s g j e a e1 e2 r=>q o C i s g j e a e1 e2 (l.trans r)
abbrev Rl(α β:Type):=SM->Hp->α->β->Prop
def Ful{α β:Type}(X:Cx)(R:Rl α β)(g:l_)(U:SM)(H:Hp)(o:Out α)(Q:β->Hp->Prop):Prop:=match o with
 |.ok v i=>∀e a j,Le U H e a->RH X.K X.mg e a i->R e a v j->Q j a
 |.exc x i=>XP X g U H x i
 |.bad=>False
def iN{α β:Type}(X:Cx)(R:Rl α β)(U:SM)(H:Hp)(o:Out α)(Q:β->Hp->Prop):Prop:=match o with
 |.ok v i=>∀e a g,Le U H e a->RH X.K X.mg e a i->R e a v g->Q g a
 |_=>False
def Ful.zero(f:Ful X R σp U H o.ne Q):iN X R U H o Q:=by
 cases o with
 |ok v h=>exact f
 |exc x h=>exact f
 |bad=>exact f
def Ful.le(l:Le U H U1 H1)(f:Ful X R σp U H o Q):Ful X R σp U1 H1 o Q:=by
 cases o with
 |ok v h=>exact λa g e i=>f a g e (l.trans i)
 |exc x h=>exact XP.le l f
 |bad=>exact f
def Ful.bind{α β γ δ:Type}{X:Cx}{R:Rl α β}{S:Rl γ δ}{a:l_}{U:SM}{H:Hp}{o:Out α}{f:α->MH->Out γ}{Q:δ->Hp->Prop}{s:β->Hp->Prop}(q:Ful X S a U H (o.bind f) Q)(k:∀g e v i j,o=.ok v j->Le U H g e->RH X.K X.mg g e j->R g e v i->Ful X S a g e (f v j) Q->s i e):Ful X R a U H o s:=by
 cases o with
 |ok v h=>exact λu t i l r w=>k u t v i h rfl l r w (Ful.le l q)
 |exc x h=>exact q
 |bad=>exact q
abbrev RV'(X:Cx):Rl PV V:=λU H=>RP X.K U H
abbrev RVs'(X:Cx):Rl (R4) (List V):=λU H=>RPs X.K U H
abbrev LY{α:Type}:Rl α α:=λ_ _ x y=>x=y
abbrev Mx(α:Type):=l_->MH->Out α
inductive tM{α β:Type}(X:Cx)(R:Rl α β)(m:Mx α)(Z:L2.St)(H:Hp)(Q:β->Hp->Prop):Prop
 |mk(U:SM)(σp:l_)(h:MH)(rs:RS X.K U H σp Z)(rh:RH X.K X.mg U H h)(q:Ful X R σp U H (m σp h) Q):tM X R m Z H Q
def ME(X:Cx)(e:Expr)(m:Mx PV):Prop:=PE X e (tM X (RV' X) m)
def MT(X:Cx)(e:Expr)(m:Mx Bool):Prop:=PT X e (tM X LY m)
def MW(X:Cx)(e:Expr)(m:Mx Bool):Prop:=PW X e (tM X LY m)
def MA(X:Cx)(a:SW)(m:Mx (R4)):Prop:=PA X a (tM X (RVs' X) m)
def PE.imp(h:PE X e t)(i:∀Z H Q,t' Z H Q->t Z H Q):PE X e t':=λg s Z H Q a q=>h g s Z H Q a (i Z H Q q)
def PT.imp(h:PT X e t)(i:∀Z H Q,t' Z H Q->t Z H Q):PT X e t':=λg s Z H Q a q=>h g s Z H Q a (i Z H Q q)
def PW.imp(h:PW X e t)(i:∀Z H Q,t' Z H Q->t Z H Q):PW X e t':=λa j s Z H Q g q=>h a j s Z H Q g (i Z H Q q)
def PA.imp(h:PA X e t)(i:∀Z H Q,t' Z H Q->t Z H Q):PA X e t':=λa j s Z H Q g q=>h a j s Z H Q g (i Z H Q q)
def PS.imp(h:PS X e t)(i:∀D Z H,t' D Z H->t D Z H):PS X e t':=λg s Z H D a q=>h g s Z H D a (i D Z H q)
def PSs.imp(h:PSs X e t)(i:∀D Z H,t' D Z H->t D Z H):PSs X e t':=λg s Z H D a q=>h g s Z H D a (i D Z H q)
def bK(X:Cx)(U:SM)(H:Hp)(o:SOut)(D:Ends):Prop:=match o with
 |.nx a i=>∀g e j,Le U H g e->RH X.K X.mg g e i->RS X.K g e a j->D.nx j e
 |.bk a i=>∀g e j,Le U H g e->RH X.K X.mg g e i->RS X.K g e a j->D.bk j e
 |.ct a i=>∀g e j,Le U H g e->RH X.K X.mg g e i->RS X.K g e a j->D.ct j e
 |.rt v i=>∀g e l,Le U H g e->RH X.K X.mg g e i->RP X.K g e v l->D.rt l e
 |.exc x a i=>XP X a U H x i
 |.rse x a i=>XM X a U H x i
 |.bad=>False
def bK.le(l:Le U H U1 H1)(f:bK X U H o D):bK X U1 H1 o D:=by
 cases o with
 |nx a h=>exact λe i g j=>f e i g (l.trans j)
 |bk a h=>exact λe i g j=>f e i g (l.trans j)
 |ct a h=>exact λe i g j=>f e i g (l.trans j)
 |rt v h=>exact λe i g j=>f e i g (l.trans j)
 |exc x a h=>exact XP.le l f
 |rse x a h=>exact XM.le l f
 |bad=>exact f
abbrev kl:=l_->MH->SOut
inductive NO(X:Cx)(m:kl)(D:Ends)(Z:L2.St)(H:Hp):Prop
 |mk(U:SM)(σp:l_)(h:MH)(rs:RS X.K U H σp Z)(rh:RH X.K X.mg U H h)(q:bK X U H (m σp h) D):NO X m D Z H
def MS(X:Cx)(st:Stmt)(m:kl):Prop:=PS X st (NO X m)
def n5(X:Cx)(st:List Stmt)(m:kl):Prop:=PSs X st (NO X m)
section
variable{X:Cx}{N W G:R5}{k:Nat}
structure Good(X:Cx)(N W G:R5)(k:Nat):Prop where
 hN:X.N=N
 nd:N.Nodup
 loc:∀x∈N,Loc X.env.scope x
 fn:∀x∈W,X.fn x=I\/X.env.scope.names.lookup x=J .local
 gl:∀x∈G,Gl X x
 dbg:∀x∈N++G,(x==("__debug__":Str))=T/\(x==("__classdict__":Str))=T/\x≠"__name__"
 calm:X.calm=I
 room:Room k X.A
 po:PassesOwn (model X.prog X.w) X.A X.env X.xe
def Good.x(g:Good X N W G k){i:Nat}{x:Str}(a:N[i]?=J x):X.N[i]?=J x:=by rw[g.hN];exact a
def aA{l:R5}{i:Nat}{x:Str}(a:l[i]?=J x):x∈l:=Dm a
def rJ(X:Cx)(g:PV->PV->MH->SX):R2:=λa e H Q=>∃U h x y,RH X.K X.mg U H h/\RP X.K U H x a/\RP X.K U H y e/\iN X (RV' X) U H (g x y h) Q
abbrev BR(X:Cx)(f:Value->Value->Sem Value)(g:PV->PV->MH->SX):Prop:=OpR X f (rJ X g)
def uJ(X:Cx)(g:PV->MH->SX):V->Hp->VK->Prop:=λa H Q=>∃U h x,RH X.K X.mg U H h/\RP X.K U H x a/\iN X (RV' X) U H (g x h) Q
abbrev QK(X:Cx)(f:Value->Sem Value)(g:PV->MH->SX):Prop:=NM X f (uJ X g)
def cJ(X:Cx)(g:R4->MH->SX):List V->Hp->VK->Prop:=λa H Q=>∃U h xs,RH X.K X.mg U H h/\RPs X.K U H xs a/\iN X (RV' X) U H (g xs h) Q
abbrev di(X:Cx)(f:Value)(g:R4->MH->SX):Prop:=ce X f (cJ X g)
def af(i:Nat):Mx PV:=λZ h=>match Z[i]? with
 |some (J v)=>.ok v h
 |_=>.bad
def mC(v:PV):Mx PV:=λ_ h=>.ok v h
def II(g:Good X N W G k)(i:Nat){x:Str}{j:Pos}(a:N[i]?=J x):ME X (.Name x j) (af i):=by
 have d:=g.dbg x (C7 _ (aA a));have hv:NL X.env.scope x:=by
  rcases g.loc x (aA a)with q|q
  .exact .inl q
  .exact .inr (.inl q)
 refine PE.imp (Ao (g.x a) hv d.1 d.2.1) λZ H Q ⟨U,l,h,u,y,f⟩=>?_;unfold af at f
 cases e:l[i]? with
 |none=>rw[e]at f;exact f.elim
 |some o =>
  rw[e]at f
  cases o with
  |none=>exact f.elim
  |some v =>
   obtain⟨s,t,r⟩:=u.2 i v e;exact⟨s,t,f U H s (Le.refl _ _) y r⟩
def aj:ME X (.Constant (.int i) j pos) (mC (.int i)):=PE.imp HZ λ_ H _ ⟨U,_,_,_,a,f⟩=>f U H _ (Le.refl _ _) a (.int i)
def cw:ME X (.Constant (.str i) j pos) (mC (.str i)):=PE.imp H_ λ_ H _ ⟨U,_,_,_,a,f⟩=>f U H _ (Le.refl _ _) a (.str i)
def gJ:ME X (.Constant (.bool i) j pos) (mC (.bl i)):=PE.imp Lj λ_ H _ ⟨U,_,_,_,a,f⟩=>f U H _ (Le.refl _ _) a (.bl i)
def d6:ME X (.Constant .none j pos) (mC .non):=PE.imp H4 λ_ H _ ⟨U,_,_,_,a,f⟩=>f U H _ (Le.refl _ _) a .non
def ai(f:PV->PV->MH->SX)(g mb:Mx PV):Mx PV:=λZ h=>(g Z h).bind λx a=>(mb Z a).bind λy e=>(f x y e).ne
def wx(f:PV->MH->SX)(e:Mx PV):Mx PV:=λZ h=>(e Z h).bind λx a=>(f x a).ne
def ve{f:PV->PV->MH->SX}{i mb:Mx PV}{Z:L2.St}{H:Hp}{Q:VK}(q:tM X (RV' X) (ai f i mb) Z H Q):LA (rJ X f) (tM X (RV' X) i) (tM X (RV' X) mb) Z H Q:=by obtain⟨U,a,h,j,F,q⟩:=q;refine⟨U,a,h,j,F,Ful.bind q λl L x O B _ C g s r=>?_⟩;refine⟨l,a,B,j.le C,g,Ful.bind r λo P y M E _ t e u z=>?_⟩;exact⟨o,E,x,y,e,s.le t,u,z.zero⟩
def aK(e:BR X (binaryOp op) f)(i:ME X a ma)(g:ME X b mb):ME X (.BinOp a op b pos) (ai f ma mb) :=
 PE.imp (LD e i g) λ_ _ _ q=>ve q
def LZ(r:QK X (unaryOp op) f)(l:ME X a ma):ME X (.UnaryOp op a pos) (wx f ma) :=
 PE.imp (LF r l) λ_ _ _ ⟨U,e,h,u,s,q⟩=>⟨U,e,h,u,s,Ful.bind q λi y x B j _ z g o t=>⟨i,j,x,g,o,t.zero⟩⟩
def IJ(g:BR X (compareOp op) f)(j:ME X a ma)(i:ME X b mb)(e:behindInMarks op b=T):ME X (.Compare a [op] [b] pos) (ai f ma mb) :=
 PE.imp (Fq g j i e) λ_ _ _ q=>ve q
def mB(m:Mx PV):Mx Bool:=λZ h=>(m Z h).bind λv a=>match v with
 |.bl b=>.ok b a
 |_=>.bad
def L0(q:tM X LY (mB m) Z H Q):tM X (RV' X) m Z H λx a=>∃c,x=.bl c/\Q c a:=by
 obtain⟨U,e,h,o,r,q⟩:=q;refine⟨U,e,h,o,r,Ful.bind q λj a x s t _ u g l i=>?_⟩
 cases l with
 |bl b=>exact⟨b,rfl,i j a b (Le.refl _ _) g rfl⟩
 |_=>exact i.elim
def IK(j:BR X (compareOp op) f)(r:ME X a ma)(g:ME X b mb)(i:behindInMarks op b=T):MT X (.Compare a [op] [b] pos) (mB (ai f ma mb)) :=
 PT.imp (Fs j r g i) λZ H Q q=>by
  obtain⟨U,e,h,o,l,q⟩:=L0 q;exact ve ⟨U,e,h,o,l,q⟩
def eX(h:ME X e m)(g:∀a,isTrue e X.env a=(do let v <-a;standAt e.pos;holding [v] (truthy v)):=by intro _;rfl):MT X e (mB m) :=
 PT.imp (Ia h g) λ_ _ _ q=>L0 q
def gp(m:Mx Bool):Mx Bool:=λZ h=>(m Z h).bind λb a=>.ok (!b) a
def f9(h:MT X e m):MT X (.UnaryOp .Not e pos) (gp m) :=
 PT.imp (Ic h) λ_ _ _ ⟨U,a,h,s,o,q⟩=>⟨U,a,h,s,o,Ful.bind q λj i x y t _ u g l r=>by
  cases l;exact r j i _ (Le.refl _ _) g rfl⟩
def EB(a b:Mx Bool):Mx Bool:=λZ h=>(a Z h).bind λx e=>if x=I then .ok I e else b Z e
section
variable{a b:Expr}{rest:SW}{ma mb:Mx Bool}{pos:Pos}
def iQ(e:MT X a ma):MW X (.BoolOp .Or [a] pos) ma:=Ib e
def kS(t:MT X a ma)(r:MW X (.BoolOp .Or (b::rest) pos) mb):MW X (.BoolOp .Or (a::b::rest) pos) (EB ma mb) :=
 PW.imp (Lk t r) λZ H Q ⟨U,e,h,l,z,q⟩=>⟨U,e,h,l,z,Ful.bind q λi o x B u _ y g s j=>by
  cases s
  cases x with
  |true=>exact j i o _ (Le.refl _ _) g rfl
  |false=>exact⟨i,e,u,l.le y,g,j⟩⟩
def MW.mt(h:MW X e m):MT X e m:=PW.pt h
end
def jF(a b:Mx PV):Mx PV:=λZ h=>(a Z h).bind λx e=>match x with
 |.bl c=>if c=I then b Z e else .ok (.bl T) e
 |_=>.bad
def FF(a b:Mx PV):Mx PV:=λZ h=>(a Z h).bind λx e=>match x with
 |.bl c=>if c=I then .ok (.bl I) e else b Z e
 |_=>.bad
def qL(a:Mx PV):Mx PV:=λZ h=>(a Z h).bind λx e=>match x with
 |.bl c=>.ok (.bl (!c)) e
 |_=>.bad
section
variable{a b:Expr}{rest:SW}{ma mb:Mx PV}{pos:Pos}
def mI(e:ME X a ma):ME X (.BoolOp op [a] pos) ma:=Ie e
def mO(t:ME X a ma)(r:ME X (.BoolOp .And (b::rest) pos) mb):ME X (.BoolOp .And (a::b::rest) pos) (jF ma mb) :=
 PE.imp (Ig t r) λZ H Q ⟨U,e,h,l,z,q⟩=>⟨U,e,h,l,z,Ful.bind q λj o x B u _ y g s i=>by
  cases s with
  |bl c =>
   refine⟨c,rfl,?_⟩
   cases c with
   |true=>exact⟨j,e,u,l.le y,g,i⟩
   |false=>exact i j o _ (Le.refl _ _) g (.bl T)
  |_=>exact i.elim⟩
def L3(t:ME X a ma)(r:ME X (.BoolOp .Or (b::rest) pos) mb):ME X (.BoolOp .Or (a::b::rest) pos) (FF ma mb) :=
 PE.imp (Ln t r) λZ H Q ⟨U,e,h,l,z,q⟩=>⟨U,e,h,l,z,Ful.bind q λj o x B u _ y g s i=>by
  cases s with
  |bl c =>
   refine⟨c,rfl,?_⟩
   cases c with
   |true=>exact i j o _ (Le.refl _ _) g (.bl I)
   |false=>exact⟨j,e,u,l.le y,g,i⟩
  |_=>exact i.elim⟩
def A2(s:ME X a ma):ME X (.UnaryOp .Not a pos) (qL ma) :=
 PE.imp (Ih s) λZ H Q ⟨U,e,h,r,t,q⟩=>⟨U,e,h,r,t,Ful.bind q λl j x u y _ z g o i=>by
  cases o with
  |bl c=>exact⟨c,rfl,i l j _ (Le.refl _ _) g (.bl _)⟩
  |_=>exact i.elim⟩
def FG(c:Mx Bool)(a b:Mx PV):Mx PV:=λZ h=>(c Z h).bind λx e=>if x=I then a Z e else b Z e
def IL(s:MT X c mc)(y:ME X a ma)(t:ME X b mb):ME X (.IfExp c a b pos) (FG mc ma mb) :=
 PE.imp (Cw s y t) λZ H Q ⟨U,e,h,i,z,q⟩=>⟨U,e,h,i,z,Ful.bind q λj B x C o _ r g u l=>by
  cases u
  cases x with
  |true=>exact⟨j,e,o,i.le r,g,l⟩
  |false=>exact⟨j,e,o,i.le r,g,l⟩⟩
end
def b_:Mx (R4):=λ_ h=>.ok [] h
def ae(a:Mx PV)(r:Mx (R4)):Mx (R4):=λZ h=>(a Z h).bind λx e=>(r Z e).bind λxs g=>.ok (x::xs) g
def ah:MA X [] b_:=PA.imp d7 λZ H Q ⟨U,a,h,g,e,q⟩=>q U H _ (Le.refl _ _) e .nil
def ag(C:ME X e m)(O:MA X es ms)(s:starEach (e::es) X.env=(T,eval e X.env)::starEach es X.env:=by rfl):MA X (e::es) (ae m ms) :=
 PA.imp (bS C O s) λZ H Q ⟨U,a,h,j,L,q⟩=>⟨U,a,h,j,L,Ful.bind q λl P x S E _ F i t r =>
  ⟨l,a,E,j.le F,i,Ful.bind r λo M y R h2 _ u g z B=>B o M _ (Le.refl _ _) g (.cons (t.le u) z)⟩⟩
def p_(xs:R4)(h:MH):SX:=if xs.length<=sizeLine then .ok (.loc h.length) (h++[.lst xs])else .bad
def wy(xs:R4)(h:MH):SX:=if xs.length<=sizeLine then .ok (.tup xs) h else .bad
def nH{U:SM}{H:Hp}{h:MH}{xs:R4}{ys:List V}{Q:VK}(a:RH X.K X.mg U H h)(e:RPs X.K U H xs ys)(f:iN X (RV' X) U H (p_ xs h) Q):ys.length<=sizeLine/\∀p,H p=Y->Q (.ref p) (k_ H p (.lst ys)):=by
 unfold p_ at f
 split at f
 .rename_i j
  refine⟨by rw[<-e.length];exact j,λp i=>?_⟩;obtain⟨l,g⟩:=a.new i (o:=.lst xs) ⟨ys,rfl,e⟩;refine f _ _ _ g l (.loc ?_);rw[<-a.len];simp
 .exact f.elim
def xp{U:SM}{H:Hp}{h:MH}{xs:R4}{ys:List V}{Q:VK}(i:RH X.K X.mg U H h)(e:RPs X.K U H xs ys)(f:iN X (RV' X) U H (wy xs h) Q):ys.length<=sizeLine/\∀p,H p=Y->Q (.ref p) (k_ H p (.tup ys)):=by
 unfold wy at f
 split at f
 .rename_i j
  refine⟨by rw[<-e.length];exact j,λp g=>?_⟩;obtain⟨l,a⟩:=i.tup g ys;exact f _ _ _ a l (.tup (.inl (.inl bI)) (e.le a))
 .exact f.elim
def IM{a:l_}{U:SM}{H:Hp}{h:MH}{xs:R4}{Q:VK}(f:Ful X (RV' X) a U H (p_ xs h) Q):iN X (RV' X) U H (p_ xs h) Q:=by
 unfold p_ at f ⊢
 split at f
 .rw[c_ (by assumption)];exact f
 .exact f.elim
def IN{a:l_}{U:SM}{H:Hp}{h:MH}{xs:R4}{Q:VK}(f:Ful X (RV' X) a U H (wy xs h) Q):iN X (RV' X) U H (wy xs h) Q:=by
 unfold wy at f ⊢
 split at f
 .rw[c_ (by assumption)];exact f
 .exact f.elim
def aR(m:Mx (R4)):Mx PV:=λZ h=>(m Z h).bind p_
def br(m:Mx (R4)):Mx PV:=λZ h=>(m Z h).bind wy
def dk(h:MA X es ms):ME X (.List es pos) (aR ms) :=
 PE.imp (Ix h) λZ H Q ⟨U,a,h,j,l,q⟩=>⟨U,a,h,j,l,Ful.bind q λr o x s t _ u e i g=>nH e i (IM g)⟩
def v3(h:MA X es ms):ME X (.Tuple es j pos) (br ms) :=
 PE.imp (uM h) λZ H Q ⟨U,a,h,l,o,q⟩=>⟨U,a,h,l,o,Ful.bind q λs r x t u _ y e i g=>xp e i (IN g)⟩
def SOut.then(o:SOut)(k:kl):SOut:=match o with
 |.nx Z h=>k Z h
 |o=>o
def aC(a b:kl):kl:=λZ h=>(a Z h).then b
def iv:kl:=λZ h=>.nx Z h
def bD:n5 X [] iv:=PSs.imp Fj λD Z H ⟨U,a,h,g,e,q⟩=>q U H Z (Le.refl _ _) e g
def FH{st:Stmt}{m:kl}(h:MS X st m):n5 X [st] m:=wV h
def bK.then{U:SM}{H:Hp}{o:SOut}{k:kl}{D:Ends}(q:bK X U H (o.then k) D):bK X U H o { D with nx:=λZ H=>NO X k D Z H}:=by
 cases o with
 |nx a h=>exact λe i g l r s=>⟨e,a,h,s,r,bK.le l q⟩
 |_=>exact q
def Bz{st:Stmt}{a:List Stmt}{m u:kl}(g:MS X st m)(i:n5 X a u):n5 X (st::a) (aC m u) :=
 PSs.imp (BP g i) λD Z H ⟨U,e,h,l,j,q⟩=>⟨U,e,h,l,j,bK.then q⟩
def aQ(m:Mx PV):kl:=λZ h=>match m Z h with
 |.ok v a=>.rt v a
 |.exc x a=>.exc x Z a
 |.bad=>.bad
def IQ(j:ME X e m):MS X (.Return (J e) pos) (aQ m) :=
 PS.imp (Ii j) λD Z H ⟨U,a,h,l,g,q⟩=>⟨U,a,h,l,g,by
  unfold aQ at q
  cases e:m a h with
  |ok v i=>rw[e]at q;exact q
  |exc x i=>rw[e]at q;exact q
  |bad=>rw[e]at q;exact q⟩
def Dw{α:Type}(m:Mx α)(k:α->kl):kl:=λZ h=>match m Z h with
 |.ok v a=>k v Z a
 |.exc x a=>.exc x Z a
 |.bad=>.bad
def bK.ex{α β:Type}{R:Rl α β}{m:Mx α}{k:α->kl}{U:SM}{H:Hp}{a:l_}{h:MH}{D:Ends}{Q:β->Hp->Prop}(q:bK X U H (Dw m k a h) D)(w:∀i g v j s,Le U H i g->RH X.K X.mg i g s->R i g v j->bK X i g (k v a s) D->Q j g):Ful X R a U H (m a h) Q:=by
 unfold Dw at q
 cases e:m a h with
 |ok v o=>rw[e]at q;exact λi g j l r z=>w i g v j o l r z (bK.le l q)
 |exc x o=>rw[e]at q;exact q
 |bad=>rw[e]at q;exact q
def bJ(m:Mx PV):kl:=Dw m λ_=>iv
def bQ{e:Expr}{m:Mx PV}{a:Pos}(t:ME X e m)(s:swapsWith e Y a.line X.env=pure T:=by rfl):MS X (.Expr e a) (bJ m) :=
 PS.imp (Fk t s) λD Z H ⟨U,g,h,i,u,q⟩=>⟨U,g,h,i,u,bK.ex q λo j v y B l r z w=>w o j Z (Le.refl _ _) r (i.le l)⟩
def vu(c:Mx Bool)(a b:kl):kl:=Dw c λx=>if x=I then a else b
def cr{c:Expr}{a b:List Stmt}{s:Mx Bool}{o mb:kl}{g:Pos}(u:MT X c s)(B:n5 X a o)(y:n5 X b mb):MS X (.If c a b g) (vu s o mb) :=
 PS.imp (Lq u B y) λD Z H ⟨U,e,h,i,C,q⟩=>⟨U,e,h,i,C,bK.ex q λj E v F t l r z w=>by
  cases z
  cases v with
  |true=>exact⟨j,e,t,i.le l,r,w⟩
  |false=>exact⟨j,e,t,i.le l,r,w⟩⟩
def aO(i:Nat)(m:Mx PV):kl:=Dw m λv Z h=>.nx (Z.set i (J v)) h
def IR(g:Good X N W G k)(i:Nat){x:Str}{e:Expr}{m:Mx PV}{j a:Pos}(s:N[i]?=J x)(C:W[i]?=J x)(E:ME X e m)(B:swapsWith e (J (.Name x a)) j.line X.env=pure T:=by rfl):
  MS X (.Assign [.Name x a] e j) (aO i m):=by
 refine PS.imp (Bf (by rw[g.hN];exact g.nd) (g.x s) (g.loc x (aA s)) E B (g.fn x (aA C))) λD Z H ⟨U,o,h,t,F,q⟩=>?_;exact⟨U,o,h,t,F,bK.ex q λy u v L M l r z w=>w y u _ (Le.refl _ _) r ((t.le l).set i z)⟩
end
section
variable{X:Cx}{N W G:R5}{k:Nat}
abbrev Mg:=PV->kl
def oY(X:Cx)(U:SM)(H:Hp)(o:SOut)(Q:L2.St->Hp->Prop):Prop:=match o with
 |.nx a i=>∀g e j,Le U H g e->RH X.K X.mg g e i->RS X.K g e a j->Q j e
 |.exc x a i=>XP X a U H x i
 |_=>False
def oY.le(l:Le U H U1 H1)(f:oY X U H o Q):oY X U1 H1 o Q:=by
 cases o with
 |nx a h=>exact λe i g j=>f e i g (l.trans j)
 |exc x a h=>exact XP.le l f
 |_=>exact f
inductive tG(X:Cx)(g:Mg)(v':V)(Z:L2.St)(H:Hp)(Q:L2.St->Hp->Prop):Prop
 |mk(U:SM)(σp:l_)(h:MH)(v:PV)(rs:RS X.K U H σp Z)(rh:RH X.K X.mg U H h)(rv:RP X.K U H v v')(q:oY X U H (g v σp h) Q):tG X g v' Z H Q
def MG(X:Cx)(a:Expr)(g:Mg):Prop:=PG X a (tG X g)
def PG.imp(h:PG X e t)(i:∀v Z H Q,t' v Z H Q->t v Z H Q):PG X e t':=λg s Z H v u Q a r q=>h g s Z H v u Q a r (i v Z H Q q)
def m_(i:Nat):Mg:=λv Z h=>.nx (Z.set i (J v)) h
def FI(g:Good X N W G k)(i:Nat)(a:N[i]?=J x)(o:W[i]?=J x):MG X (.Name x pos) (m_ i) :=
 PG.imp (yj (by rw[g.hN];exact g.nd) (g.x a) (g.loc x (aA a)) (g.fn x (aA o))) λs Z H Q ⟨U,e,h,v,r,l,j,q⟩=>q U H _ (Le.refl _ _) l (r.set i j)
abbrev He:=R4->kl
inductive QL(X:Cx)(g:He)(v':List V)(Z:L2.St)(H:Hp)(Q:L2.St->Hp->Prop):Prop
 |mk(U:SM)(σp:l_)(h:MH)(v:R4)(rs:RS X.K U H σp Z)(rh:RH X.K X.mg U H h)(rv:RPs X.K U H v v')(q:oY X U H (g v σp h) Q):QL X g v' Z H Q
def NP(X:Cx)(a:SW)(g:He):Prop:=PGs X a (QL X g)
def PGs.imp(h:PGs X e t)(i:∀v Z H Q,t' v Z H Q->t v Z H Q):PGs X e t':=λg s Z H v u Q a r q=>h g s Z H v u Q a r (i v Z H Q q)
def DT:He:=λa Z h=>match a with
 |[]=>.nx Z h
 |_=>.bad
def yK(a:Mg)(r:He):He:=λg Z h=>match g with
 |v::e=>(a v Z h).then (r e)
 |[]=>.bad
def cZ:NP X [] DT:=PGs.imp Fl λj Z H Q ⟨U,a,h,v,i,g,e,q⟩=>by
 cases e with
 |nil=>exact⟨rfl,q U H Z (Le.refl _ _) g i⟩
 |cons _ _=>exact q.elim
def aT(i:MG X e a)(E:NP X es r)(t:(assignEach (e::es) X.env).map (·.2)=assign e X.env::(assignEach es X.env).map (·.2):=by rfl):NP X (e::es) (yK a r) :=
 PGs.imp (CB i E t) λM Z H Q ⟨U,g,h,v,B,L,s,q⟩=>by
  cases s with
  |nil=>exact q.elim
  |@cons x y xs ys z o =>
   refine⟨_,_,rfl,U,g,h,x,B,L,z,?_⟩;dsimp only[yK]at q
   cases e:a x g h with
   |nx F i=>rw[e]at q;exact λC P O l j u=>⟨C,F,i,xs,u,j,o.le l,oY.le l q⟩
   |_=>rw[e]at q;exact q
def DI(r:He)(n:Nat):Mg:=λv Z h=>match v with
 |.tup xs=>if xs.length=n then r xs Z h else .bad
 |_=>.bad
def dJ(g:Good X N W G k){a:SW}{j:Nat}{r:He}{n:Nat}{i:Pos}(h:NP X a r)(z:(assignEach a X.env).length=n:=by rfl)(e:(assignEach a X.env).findIdx? (·.1)=Y:=by rfl):
  MG X (.Tuple a j i) (DI r n) :=
 PG.imp (Ij g.calm h z e) λC Z H Q ⟨U,l,h,v,y,B,u,q⟩=>by
  cases u with
  |tup s o =>
   dsimp only[DI]at q
   split at q
   .rename_i t
    exact⟨_,_,rfl,s,by rw[<-o.length];exact t,U,l,h,_,y,B,o,q⟩
   .exact q.elim
  |_=>exact q.elim
def lP(m:Mx PV)(g:Mg):kl:=Dw m λv Z h=>match g v Z h with
 |.nx a e=>.nx a e
 |.exc x a e=>.exc x a e
 |_=>.bad
def qK{i e:Expr}{m:Mx PV}{g:Mg}{j:Pos}(B:ME X e m)(E:MG X i g)(u:swapsWithSole [i] e j.line X.env=pure T:=by rfl)(y:swappedStores [i] e X.env=pure Y:=by rfl)(o:(assignEach [i] X.env).map (·.2)=[assign i X.env]:=by rfl):MS X (.Assign [i] e j) (lP m g) :=
 PS.imp (Il B E u y o) λD Z H ⟨U,a,h,s,C,q⟩=>⟨U,a,h,s,C,bK.ex q λt F v L o l r z w=>⟨t,a,o,v,s.le l,r,z,by
  cases e:g v a o with
  |_=>rw[e]at w;exact w⟩⟩
def pd(o i v:PV)(h:MH):Option MH:=match o,i with
 |.loc n,.int j=>(match h[n]? with
  |some (.lst xs)=>(yU xs.length j).map λp=>h.set n (.lst (xs.set p v))
  |_=>Y)
 |_,_=>Y
def E5(mo e:Mx PV):Mg:=λv=>Dw mo λo=>Dw e λi Z h=>match pd o i v h with
 |some a=>.nx Z a
 |none=>.bad
def qt(ho:ME X o mo)(hi:ME X i mi)(ha:∀v,assign (.Subscript o i pos) X.env v=(do
   let r <-holding [v] (eval o X.env)
   let t <-holding [v,r] (eval i X.env)
   standAt pos
   holding [v,r,t] (setItem r t v)
   release [v,r,t] []):=by intro _;rfl):MG X (.Subscript o i pos) (E5 mo mi) :=
 PG.imp (Ik ho hi Cj ha) λv' Z H Q ⟨U,g,h,v,C,rh,rv,q⟩=>by
  refine⟨U,g,h,C,rh,?_⟩;unfold E5 Dw at q
  cases e:mo g h with
  |exc x F=>rw[e]at q;exact q
  |bad=>rw[e]at q;exact q
  |ok r F =>
   rw[e]at q;intro R H1 o' s E ro;refine⟨R,g,F,C.le s,E,?_⟩;dsimp only at q
   cases e2:mi g F with
   |exc x h2=>rw[e2]at q;exact XP.le s q
   |bad=>rw[e2]at q;exact q
   |ok t h2 =>
    rw[e2]at q;intro U2 H2 i' u l ri;have B:=ro.le u;have z:=(rv.le s).le u;unfold pd at q
    cases B with
    |@loc n a P =>
     cases ri with
     |int j =>
      dsimp only at q;obtain⟨S,eo,y⟩:=l.obj P;rw[eo]at q
      cases S with
      |dic ab=>exact q.elim
      |exc x=>exact q.elim
      |lst xs =>
       obtain⟨ys,ey,M⟩:=y;dsimp only at q
       cases L:yU xs.length j with
       |none=>rw[L]at q;exact q.elim
       |some p =>
        rw[L]at q;refine⟨a,ys,j,p,rfl,rfl,ey,by rw[<-M.length];exact L,?_⟩;obtain⟨r3,O⟩:=l.put P (o:=.lst (xs.set p v)) ⟨_,rfl,RPs.set z p M⟩;exact q U2 _ Z (s.trans (u.trans O)) r3 (C.le (s.trans (u.trans O)))
     |_=>exact q.elim
    |_=>exact q.elim
structure MIt where
 xs:R4
 gd:List (Nat×R4):=[]
def MIt.ok(a:MIt)(h:MH):Prop:=∀p∈a.gd,h[p.1]?=J (.lst p.2)
def rB(X:Cx):Rl MIt It:=λr o e a=>∀U H h (i:Nat),Le r o U H->RH X.K X.mg U H h->e.ok h ->
 (i<e.xs.length->a.go i H/\∀l g,a.yld i H l g->∃j x,Le U H j g/\RH X.K X.mg j g h/\e.xs[i]?=J x/\RP X.K j g x l)/\(e.xs.length<=i->a.stop i H)
def MI(X:Cx)(e a:Expr)(m:Mx MIt):Prop:=PI X e a (tM X (rB X) m)
def PI.imp(h:PI X tg e t)(i:∀Z H Q,t' Z H Q->t Z H Q):PI X tg e t':=λg s Z H Q a q=>h g s Z H Q a (i Z H Q q)
def Dp(j:MIt)(g:Mg)(b:kl):R4->kl
 |[]=>λZ h=>if j.ok h then .nx Z h else .bad
 |x::r=>λZ h=>if j.ok h then (match g x Z h with
   |.nx o l=>(match b o l with
    |.nx i a=>Dp j g b r i a
    |.ct i a=>Dp j g b r i a
    |.bk i a=>.nx i a
    |.rt v a=>.rt v a
    |.exc e i a=>.exc e i a
    |.rse e i a=>.rse e i a
    |.bad=>.bad)
   |.exc e o l=>.exc e o l
   |_=>.bad)else .bad
def eE(e:Mx MIt)(g:Mg)(b:kl):kl:=Dw e λa=>Dp a g b a.xs
def df(gd:Good X N W G k)(hi:MI X tg iter mi)(hg:MG X tg g)(hb:n5 X body mb)(hs:∀x,foldedSetIterable iter X.env x=pure x:=by intro _;rfl):MS X (.For tg iter body [] pos) (eE mi g mb):=by
 refine PS.imp (Ip gd.po gd.calm hi hg hb hs) λD Z H ⟨U,o,h,rs,rh,q⟩=>⟨U,o,h,rs,rh,bK.ex q λO R j ap h1 l1 an jr w=>?_⟩;refine⟨λi m Z H=>m=j.xs.length-i/\i<=j.xs.length/\∃U o h,Le O R U H/\RS X.K U H o Z/\RH X.K X.mg U H h/\bK X U H (Dp j g mb (j.xs.drop i) o h) D,⟨_,rfl,vl _,O,o,h1,Le.refl _ _,rs.le l1,an,w⟩,?_⟩;rintro i m Z2 H2 ⟨rfl,hi,U2,u,Q,S,F,B,r⟩;by_cases s:i<j.xs.length
 .have ed:j.xs.drop i=j.xs[i]::j.xs.drop (i+1):=Ox s;rw[ed]at r;unfold Dp at r
  split at r
  .rename_i hok
   obtain⟨j1,j2⟩:=jr U2 H2 Q i S B hok;obtain⟨go,yl⟩:=j1 s;refine .inr ⟨go,λZ3 L=>∃P t h3,Le O R P L/\RS X.K P L t Z3/\RH X.K X.mg P L h3/\bK X P L (Dp j g mb (j.xs.drop (i+1)) t h3) D,λZ3 L z=>⟨_,by ext,rfl,s,z⟩,λx' H' y=>?_⟩;obtain⟨U',x,l',ab,ex,rx⟩:=yl x' H' y;have al:x=j.xs[i]:=by rw[C5 s]at ex;exact(Option.some.inj ex).symm
   subst al;refine⟨U',u,Q,_,F.le l',ab,rx,?_⟩;have l:=bK.le l' r
   cases eg:g j.xs[i] u Q with
   |nx Z4 h4 =>
    rw[eg]at l;intro U5 H5 Z5 l5 r5 s5;refine⟨U5,Z4,h4,s5,r5,?_⟩;have a:=bK.le l5 l;have l6:Le O R U5 H5:=S.trans (l'.trans l5);dsimp only at a
    cases em:mb Z4 h4 with
    |nx E C=>rw[em]at a;exact λU7 H7 Z7 M r7 s7=>⟨U7,E,C,l6.trans M,s7,r7,bK.le M a⟩
    |ct E C=>rw[em]at a;exact λU7 H7 Z7 M r7 s7=>⟨U7,E,C,l6.trans M,s7,r7,bK.le M a⟩
    |bk E C=>rw[em]at a;exact a
    |rt v C=>rw[em]at a;exact a
    |exc e E C=>rw[em]at a;exact a
    |rse e E C=>rw[em]at a;exact a
    |bad=>rw[em]at a;exact a
   |exc e Z4 h4=>rw[eg]at l;exact l
   |_=>rw[eg]at l;exact l.elim
  .exact r.elim
 .have e:i=j.xs.length:=by ext
  rw[e,List.drop_length]at r;unfold Dp at r
  split at r
  .rename_i hok
   obtain⟨j1,j2⟩:=jr U2 H2 Q i S B hok;exact .inl ⟨j2 (by ext),r U2 H2 Z2 (Le.refl _ _) B F⟩
  .exact r.elim
def Hf(v:PV)(h:MH):Out MIt:=match v with
 |.loc n=>(match h[n]? with
  |some (.lst xs)=>.ok ⟨xs,[(n,xs)]⟩ h
  |_=>.bad)
 |.frl xs=>.ok ⟨xs,[]⟩ h
 |_=>.bad
def L4(m:Mx PV):Mx MIt:=λZ h=>(m Z h).bind Hf
def xH(C:∀j g h,Le U H j g->RH X.K X.mg j g h->(⟨xs,gd⟩:MIt).ok h->∃ys,SqL X.K g a ys/\RPs X.K j g xs ys):rB X U H ⟨xs,gd⟩ (O5 X.K a):=by
 intro j g h i l B ok;obtain⟨ys,r,t⟩:=C j g h l B ok;refine⟨λo=>?_,λo=>⟨ys,r,by rw[<-t.length];exact o⟩⟩;have u:=C5 o;obtain⟨y,s,E⟩:=t.get u;refine⟨⟨ys,y,r,s⟩,λF L ⟨e,z⟩=>?_⟩;subst e
 have:=z ys r
 rw[s]at this;cases this;exact⟨j,_,Le.refl _ _,B,u,E⟩
def FJ(F:ME X l m):MI X tg l (L4 m) :=
 PI.imp (Fm F) λZ H Q ⟨U,z,h,S,rh,q⟩=>⟨U,z,h,S,rh,Ful.bind q λC B x x' h1 _ l1 i P g=>by
  cases P with
  |@loc n a e =>
   obtain⟨E,eo,t⟩:=i.obj e;dsimp only[Hf]at g;rw[eo]at g
   cases E with
   |dic O=>exact g.elim
   |exc x=>exact g.elim
   |lst xs =>
    obtain⟨ys,L,ry⟩:=t;refine⟨a,rfl,⟨ys,SqL.of L⟩,g C B _ (Le.refl _ _) i (xH λU' R M l j ok=>?_)⟩;obtain⟨o,y,u⟩:=j.at' n a _ (l.get e) (ok (n,xs) (by simp));exact⟨o,SqL.of y,u⟩
  |frl s r =>
   exact⟨_,rfl,⟨_,s.sq⟩,g C B _ (Le.refl _ _) i (xH λU' R M l j ok=>⟨_,(l.sqf s).sq,r.le l⟩)⟩
  |_=>exact g.elim⟩
def L5(m:Mx PV):Mx MIt:=λZ h=>(m Z h).bind λv a=>match v with
 |.tup xs=>.ok ⟨xs,[]⟩ a
 |_=>.bad
def IT(M:ME X l m):MI X tg l (L5 m) :=
 PI.imp (Io M) λZ H Q ⟨U,t,h,P,rh,q⟩=>⟨U,t,h,P,rh,Ful.bind q λL F x R h1 _ l1 u O C=>by
  cases O with
  |@tup xs a ys s r =>
   refine⟨_,rfl,⟨_,s⟩,C L F _ (Le.refl _ _) u ?_⟩;intro U' H' h' i l o ok;have g:=l.sqt s;have r':=r.le l;refine⟨λj=>?_,λj=>⟨ys,g,by rw[<-r.length];exact j⟩⟩;have E:=C5 j;obtain⟨y,B,S⟩:=r'.get E;refine⟨⟨ys,y,g,B⟩,λR H2 ⟨e,z⟩=>?_⟩;subst e
   have:=z ys g
   rw[B]at this;cases this;exact⟨U',_,Le.refl _ _,o,E,S⟩
  |_=>exact C.elim⟩
def bX(lo:Int)(n:Nat):R4:=(List.range n).map λ(i:Nat)=>PV.int (lo+(i:Int))
def qP(lo:Int)(n:Nat):(bX lo n).length=n:=by simp[bX]
def x9(lo:Int)(n:Nat):rB X U H ⟨bX lo n,[]⟩ (Lv lo n):=by intro g r h i l j ok;have e:=qP lo n;refine⟨λa=>⟨by rw[e]at a;exact a,λs o ⟨e1,e2⟩=>?_⟩,λa=>by rw[e]at a;exact a⟩;subst e1;subst e2;rw[e]at a;exact⟨g,.int (lo+i),Le.refl _ _,j,by simp[bX,a],.int _⟩
def gi(m:Mx (R4)):Mx MIt:=λZ h=>(m Z h).bind λa e=>match a with
 |[.int j]=>if -(2^62)<=j/\j<2^62 then .ok ⟨bX 0 j.toNat,[]⟩ e else .bad
 |_=>.bad
def uz(m:Mx (R4)):Mx MIt:=λZ h=>(m Z h).bind λa e=>match a with
 |[.int i,.int j]=>if -(2^62)<=i/\i<2^62 /\ -(2^62)<=j/\j<2^62 then .ok ⟨bX i (j-i).toNat,[]⟩ e else .bad
 |_=>.bad
def Ag(F:Gl X "range")(z:X.mg "range"=Y)(C:MA X [a] m)(u:starEach [a] X.env=[(T,eval a X.env)]:=by rfl):MI X tg (.Call (.Name "range" p) [a] [] pos) (gi m):=by
 refine PI.imp (Aw F z C u) λZ H Q ⟨U,g,h,B,E,q⟩=>⟨U,g,h,B,E,Ful.bind q λs r x M O _ P i y e=>?_⟩
 cases y with
 |nil=>exact e.elim
 |cons l t =>
  cases t with
  |nil =>
   cases l with
   |int j =>
    dsimp only at e
    split at e
    .rename_i o
     exact⟨j,rfl,o.1,o.2,e s r _ (Le.refl _ _) i (x9 0 j.toNat)⟩
    .exact e.elim
   |_=>exact e.elim
  |cons R L=>cases l<;>exact e.elim
def Ap{O a b:Expr}{m:Mx (R4)}{p g:Pos}(P:Gl X "range")(C:X.mg "range"=Y)(F:MA X [a,b] m)(z:starEach [a,b] X.env=[(T,eval a X.env),(T,eval b X.env)]:=by rfl)(l:starEach [b] X.env=[(T,eval b X.env)]:=by rfl):MI X O (.Call (.Name "range" p) [a,b] [] g) (uz m):=by
 refine PI.imp (Aj P C F z l) λZ H Q ⟨U,i,h,E,M,q⟩=>⟨U,i,h,E,M,Ful.bind q λr o x R S _ l1 j B e=>?_⟩
 split at e
 .cases B with
  |cons s t =>
   cases t with
   |cons L u =>
    cases u;cases s;cases L
    split at e
    .rename_i y
     exact⟨_,_,rfl,y,e r o _ (Le.refl _ _) j (x9 _ _)⟩
    .exact e.elim
 .exact e.elim
def cE(c:Mx Bool)(b:kl):Nat->kl
 |0=>λ_ _=>.bad
 |n+1=>Dw c λx=>if x=I then (λZ h=>match b Z h with
   |.nx g a=>cE c b n g a
   |.ct g a=>cE c b n g a
   |.bk g a=>.nx g a
   |.rt v a=>.rt v a
   |.exc e g a=>.exc e g a
   |.rse e g a=>.rse e g a
   |.bad=>.bad)else iv
def E6(c:Mx Bool)(b:kl):kl:=λZ h=>if z:∃n,cE c b n Z h≠.bad then cE c b (Classical.choose z) Z h else .bad
def mJ:∀{n:Nat}{Z:l_}{h:MH},cE c b n Z h≠.bad->cE c b (n+1) Z h=cE c b n Z h
 |n+1,Z,h,q=>by
  rw[cE]at q;rw[cE]
  conv=>rhs;rw[cE]
  unfold Dw at q ⊢
  cases e:c Z h with
  |exc x a=>rfl
  |bad=>rfl
  |ok x a =>
   rw[e]at q
   cases x with
   |false=>rfl
   |true =>
    simp only[if_true]at q ⊢
    cases em:b Z a with
    |nx g i=>rw[em]at q;exact mJ q
    |ct g i=>rw[em]at q;exact mJ q
    |_=>rfl
def xx(q:cE c b n Z h≠.bad)(l:n<=m):cE c b m Z h=cE c b n Z h:=by
 induction l with
 |refl=>rfl
 |step l a=>rw[mJ (by rw[a];exact q),a]
def m8(q:cE c b n Z h≠.bad):E6 c b Z h=cE c b n Z h:=by
 have z:∃n,cE c b n Z h≠.bad:=⟨n,q⟩;delta E6;rw[dif_pos z];have a:=Classical.choose_spec z;rcases Nat.le_total n (Classical.choose z)with l|l
 .exact xx q l
 .exact (xx a l).symm
def pz(gd:Good X N W G k)(M:MT X c mc)(P:n5 X body mb):MS X (.While c body [] pos) (E6 mc mb):=by
 refine PS.imp (CZ gd.po M P) λD Z H ⟨U,a,h,Q,rh,q⟩=>?_;refine⟨λm Z H=>∃U a h,RS X.K U H a Z/\RH X.K X.mg U H h/\bK X U H (cE mc mb m a h) D,?_,?_⟩
 .unfold E6 at q
  split at q
  .exact⟨_,U,a,h,Q,rh,q⟩
  .exact q.elim
 .rintro m S H1 ⟨L,g,R,i,s,B⟩
  cases m with
  |zero=>exact B.elim
  |succ m =>
   refine⟨L,g,R,i,s,bK.ex B λy H2 v v' E C F z w=>?_⟩;cases z
   cases v with
   |false=>exact w y H2 S (Le.refl _ _) F (i.le C)
   |true =>
    rw[c_ rfl]at w ⊢;refine⟨λZ H=>∃U a h,RS X.K U H a Z/\RH X.K X.mg U H h/\bK X U H (cE mc mb m a h) D,λZ' H' z=>⟨m,HQ _,z⟩,y,g,E,i.le C,F,?_⟩
    cases em:mb g E with
    |nx l j=>rw[em]at w;exact λr H7 O o u t=>⟨r,l,j,t,u,bK.le o w⟩
    |ct l j=>rw[em]at w;exact λr H7 O o u t=>⟨r,l,j,t,u,bK.le o w⟩
    |bk l j=>rw[em]at w;exact w
    |rt v j=>rw[em]at w;exact w
    |exc e l j=>rw[em]at w;exact w
    |rse e l j=>rw[em]at w;exact w
    |bad=>rw[em]at w;exact w
def cR(f:PV->Option PyData):R4->Option (List PyData)
 |[]=>J []
 |x::r=>match f x,cR f r with
  |some d,J a=>J (d::a)
  |_,_=>Y
def rd:Nat->MH->PV->Option PyData
 |0,_,v=>(match v with
  |.non=>J .none
  |.bl b=>J (.bool b)
  |.int i=>J (.int i)
  |.str x=>J (.str x)
  |_=>Y)
 |n+1,h,v=>(match v with
  |.non=>J .none
  |.bl b=>J (.bool b)
  |.int i=>J (.int i)
  |.str x=>J (.str x)
  |.tup xs=>(cR (rd n h) xs).map PyData.tuple
  |.frl xs=>(cR (rd n h) xs).map PyData.list
  |.loc m=>(match h[m]? with
   |some (.lst xs)=>(cR (rd n h) xs).map PyData.list
   |_=>Y))
def gF{l:Heap}{f:PV->Option PyData}{K:ij}{U:SM}{H:Hp}(hf:∀v j u d,RP K U H v j->aW j u->f v=J d->∃i,Reads l u d i):
  ∀{xs:R4}{ys:List V}{g:SQ}{a:List PyData},RPs K U H xs ys->aI ys g->cR f xs=J a->∃i,ReadsAll l g a i:=by
 intro xs
 induction xs with
 |nil =>
  intro ys g a r v e;cases r;cases v;cases e;exact⟨_,.nil⟩
 |cons x xs s =>
  intro ys g a r v e;cases r with|cons r t=>cases v with|cons v w =>
  simp only[cR]at e
  split at e
  .rename_i d o e1 e2
   cases e;obtain⟨C,y⟩:=hf _ _ _ _ r v e1;obtain⟨B,z⟩:=s t w e2;exact⟨_,.cons y z⟩
  .cases e
def gA{S:SS}{Z:L2.St}{H:Hp}{s:Shared}{U:SM}{h:MH}(g:Inv X S Z H s)(rh:RH X.K X.mg U H h):
  ∀(n:Nat)(v:PV)(z:V)(u:Value)(d:PyData),RP X.K U H v z->aW z u->rd n h v=J d->∃B,Reads s.heap u d B:=by
 intro n
 induction n with
 |zero =>
  intro v z u d rp r e
  cases rp with
  |non=>cases e;cases r;exact⟨_,.none⟩
  |bl b=>cases e;cases r;exact⟨_,.bool b⟩
  |int i=>cases e;obtain⟨t,rfl⟩:=r;exact⟨_,.int i t⟩
  |str i=>cases e;obtain⟨t,rfl⟩:=r;exact⟨_,.str i t⟩
  |_=>cases e
 |succ n E =>
  intro v z u d rp r e
  cases rp with
  |non=>cases e;cases r;exact⟨_,.none⟩
  |bl b=>cases e;cases r;exact⟨_,.bool b⟩
  |int i=>cases e;obtain⟨t,rfl⟩:=r;exact⟨_,.int i t⟩
  |str i=>cases e;obtain⟨t,rfl⟩:=r;exact⟨_,.str i t⟩
  |@tup xs a ys s F =>
   cases r;simp only[rd]at e
   cases q:cR (rd n h) xs with
   |none=>rw[q]at e;cases e
   |some L =>
    rw[q]at e;cases e;obtain⟨j,l,⟨o,e1,e2,m,e3⟩,_⟩:=g.tuple s;obtain⟨B,y⟩:=gF (E) F l q;exact⟨_,.tuple e1 e2 e3 (by simpa using y)⟩
  |@frl xs a ys s F =>
   cases r;simp only[rd]at e
   cases q:cR (rd n h) xs with
   |none=>rw[q]at e;cases e
   |some L =>
    rw[q]at e;cases e;obtain⟨j,l,⟨o,m,e1,e2,_,e3⟩,_⟩:=g.list s.sq;obtain⟨B,y⟩:=gF (E) F l q;exact⟨_,.list e1 e2 e3 (by simpa using y)⟩
  |loc O =>
   cases r;simp only[rd]at e;obtain⟨M,eo,C⟩:=rh.obj O;rw[eo]at e
   cases M with
   |dic Q=>cases e
   |exc x=>cases e
   |lst xs =>
    obtain⟨ys,P,R⟩:=C;dsimp only at e
    cases q:cR (rd n h) xs with
    |none=>rw[q]at e;cases e
    |some L =>
     rw[q]at e;cases e;obtain⟨j,l,⟨o,m',e1,e2,_,e3⟩,_⟩:=g.list (SqL.of P);obtain⟨B,y⟩:=gF (E) R l q;exact⟨_,.list e1 e2 e3 (by simpa using y)⟩
def qd(x y:PV)(h:MH):SX:=match rd 60 h x,rd 60 h y with
 |some a,J b=>if SeqAt.shaped a=I/\SeqAt.shaped b=I then .ok (.bl (PyData.eqv a b)) h else .bad
 |_,_=>.bad
def n7(x y:PV)(h:MH):SX:=match rd 60 h x,rd 60 h y with
 |some a,J b=>if SeqAt.shaped a=I/\SeqAt.shaped b=I then .ok (.bl (!PyData.eqv a b)) h else .bad
 |_,_=>.bad
def fo(L:Room k X.A):BR X (compareOp .Eq) qd:=by
 intro M s Z H B r u v Q e i g ⟨U,h,x,y,j,t,z,q⟩;unfold qd at q
 split at q
 .rename_i a b F o
  split at q
  .rename_i l
   obtain⟨_,C⟩:=gA e j 60 x B u a t i F;obtain⟨_,E⟩:=gA e j 60 y r v b z g o;exact eq_dataH C E l.1 l.2 L.units ⟨.bl _,H,e,rfl,q U H _ (Le.refl _ _) j (.bl _)⟩
  .exact q.elim
 .exact q.elim
def jN(L:Room k X.A):BR X (compareOp .NotEq) n7:=by
 intro M s Z H B r u v Q e i g ⟨U,h,x,y,j,t,z,q⟩;unfold n7 at q
 split at q
 .rename_i a b F o
  split at q
  .rename_i l
   obtain⟨_,C⟩:=gA e j 60 x B u a t i F;obtain⟨_,E⟩:=gA e j 60 y r v b z g o;exact ne_dataH C E l.1 l.2 L.units ⟨.bl _,H,e,rfl,q U H _ (Le.refl _ _) j (.bl _)⟩
  .exact q.elim
 .exact q.elim
def sj(f:Int->Int->PV):PV->PV->MH->SX:=λx y h=>match x,y with
 |.int i,.int j=>.ok (f i j) h
 |_,_=>.bad
def uy(r:OpR X F (Hb f))(l:∀U H i j,RP X.K U H (g i j) (f i j)):BR X F (sj g):=by
 intro z s Z H L E u v Q e o a ⟨U,h,x,y,C,t,B,q⟩;unfold sj at q
 split at q
 .cases t;cases B;exact r z s Z H _ _ u v Q e o a ⟨_,_,rfl,rfl,q U H _ (Le.refl _ _) C (l U H _ _)⟩
 .exact q.elim
def Dy:=sj λi j=>.bl (decide (i<j))
def FK:=sj λi j=>.bl (decide (i<=j))
def Em:=sj λi j=>.bl (decide (j<i))
def EM:=sj λi j=>.bl (decide (j<=i))
def uG:BR X (compareOp .Lt) Dy:=uy LG λ_ _ _ _=>.bl _
def L6:BR X (compareOp .LtE) FK:=uy LH λ_ _ _ _=>.bl _
def Hg:BR X (compareOp .Gt) Em:=uy LJ λ_ _ _ _=>.bl _
def L7:BR X (compareOp .GtE) EM:=uy LK λ_ _ _ _=>.bl _
def i7(a:Bool):PV->PV->MH->SX:=λx y h=>match y with
 |.non=>(match x with
  |.non=>.ok (.bl (!a)) h
  |_=>.ok (.bl a) h)
 |.bl b=>(match x with
  |.bl c=>.ok (.bl (if a then !(c==b)else c==b)) h
  |.non=>.ok (.bl a) h
  |.int _=>.ok (.bl a) h
  |.str _=>.ok (.bl a) h
  |.tup _=>.ok (.bl a) h
  |_=>.bad)
 |_=>.bad
def j3(x y:PV)(h:MH):SX:=match x,y with
 |.int i,.int j=>if IntMulOk i j then .ok (.int (i*j)) h else .bad
 |.loc n,.int j=>(match h[n]? with
  |some (.lst xs)=>if -(2^63)<=j/\j<2^63 then p_ (List.flatten (List.replicate j.toNat xs)) h else .bad
  |_=>.bad)
 |_,_=>.bad
def En(x y:PV)(h:MH):SX:=match x,y with
 |.int i,.int j=>if j≠0/\Builtin.divisionGoesByPylong i j=T then .ok (.int (i.fdiv j)) h else .bad
 |_,_=>.bad
def mn(x y:PV)(h:MH):SX:=match x,y with
 |.int i,.int j=>if j≠0 then .ok (.int (i.fmod j)) h else .bad
 |_,_=>.bad
def ov(x y:PV)(h:MH):SX:=match x,y with
 |.int i,.int j=>if fG i j then .ok (.int (i^j.toNat)) h else .bad
 |_,_=>.bad
def ik(x y:PV)(h:MH):SX:=match x,y with
 |.int i,.int j=>.ok (.int (i+j)) h
 |.str a,.str b=>if a.length+b.length<=sizeLine then .ok (.str (a++b)) h else .bad
 |.loc n,.loc m=>(match h[n]?,h[m]? with
  |some (.lst xs),J (.lst ys)=>p_ (xs++ys) h
  |_,_=>.bad)
 |.tup xs,.tup ys=>if xs≠[]then wy (xs++ys) h else .bad
 |_,_=>.bad
def Eb(x:PV)(h:MH):SX:=match x with
 |.int i=>.ok (.int (-i)) h
 |_=>.bad
def IU:QK X (unaryOp .USub) Eb:=by
 intro l s Z H o u Q e a ⟨U,h,x,j,g,q⟩
 cases g with
 |int i=>exact Iv l s Z H _ u Q e a ⟨i,rfl,q U H _ (Le.refl _ _) j (.int _)⟩
 |_=>exact q.elim
def Hh:BR X (binaryOp .FloorDiv) En:=by
 intro z s Z H B r u v Q e g a ⟨U,h,x,y,o,j,l,q⟩;unfold En at q
 split at q
 .cases j;cases l
  split at q
  .rename_i i
   obtain⟨t,rfl⟩:=g;obtain⟨C,rfl⟩:=a;exact floordiv_int i.1 ⟨.int _,H,e.tok _,⟨_,rfl⟩,q U H _ (Le.refl _ _) o (.int _)⟩ (.inl i.2)
  .exact q.elim
 .exact q.elim
def eZ:BR X (binaryOp .Mod) mn:=by
 intro z s Z H B r u v Q e g a ⟨U,h,x,y,o,j,l,q⟩;unfold mn at q
 split at q
 .cases j;cases l
  split at q
  .rename_i i
   obtain⟨t,rfl⟩:=g;obtain⟨C,rfl⟩:=a;exact mod_int' i ⟨.int _,H,e.tok _,⟨_,rfl⟩,q U H _ (Le.refl _ _) o (.int _)⟩
  .exact q.elim
 .exact q.elim
def wk:BR X (binaryOp .Pow) ov:=by
 intro t s Z H C B u v Q e g a ⟨U,h,x,y,z,o,r,q⟩;unfold ov at q
 split at q
 .rename_i i j
  cases o;cases r
  split at q
  .rename_i l
   exact Iu t s Z H _ _ u v Q e g a ⟨i,j,rfl,rfl,l,q U H _ (Le.refl _ _) z (.int _)⟩
  .exact q.elim
 .exact q.elim
def bq:BR X (binaryOp .Add) ik:=by
 intro C s Z H x' y' u v Q l o g ⟨U,h,x,y,r,rx,B,q⟩
 cases rx with
 |int i =>
  cases B with
  |int j=>exact Ir C s Z H _ _ u v Q l o g ⟨i,j,rfl,rfl,q U H _ (Le.refl _ _) r (.int _)⟩
  |_=>exact q.elim
 |str a =>
  cases B with
  |str b =>
   dsimp only[ik]at q
   split at q
   .rename_i hl
    exact zt C s Z H _ _ u v Q l o g ⟨a,b,rfl,rfl,hl,q U H _ (Le.refl _ _) r (.str _)⟩
   .exact q.elim
  |_=>exact q.elim
 |@loc n a e =>
  cases B with
  |@loc m b e2 =>
   dsimp only[ik]at q;obtain⟨o1,h1,t⟩:=r.obj e;obtain⟨o2,h2,E⟩:=r.obj e2;rw[h1,h2]at q
   cases o1 with
   |dic O=>exact q.elim
   |exc x=>exact q.elim
   |lst xs =>
    cases o2 with
    |dic O=>exact q.elim
    |exc x=>exact q.elim
    |lst ys =>
     obtain⟨R,ex,P⟩:=t;obtain⟨F,ey,M⟩:=E;obtain⟨S,z2⟩:=nH r (P.append M) q;exact IE C s Z H _ _ u v Q l o g ⟨a,b,R,F,rfl,rfl,ex,ey,by rw[<-DO];exact S,z2⟩
  |_=>exact q.elim
 |tup s1 t =>
  cases B with
  |tup s2 E =>
   dsimp only[ik]at q
   split at q
   .rename_i L
    obtain⟨S,z2⟩:=xp r (t.append E) q;refine Fz C s Z H _ _ u v Q l o g ⟨_,_,_,_,rfl,rfl,s1,s2,?_,by rw[<-DO];exact S,λz=>?_,λ_=>z2⟩
    .rintro rfl;cases t;exact L rfl
    .subst z;cases E;unfold wy at q
     split at q
     .exact q U H _ (Le.refl _ _) r (by rw[G9];exact .tup s1 t)
     .exact q.elim
   .exact q.elim
  |_=>exact q.elim
 |_=>cases B<;>exact q.elim
def RPs.rep{K:ij}{U:SM}{H:Hp}{xs:R4}{ys:List V}(r:RPs K U H xs ys):∀n:Nat,RPs K U H (List.replicate n xs).flatten (List.replicate n ys).flatten
 |0=>.nil
 |n+1=>by exact r.append (RPs.rep r n)
def fY:BR X (binaryOp .Mult) j3:=by
 intro S s Z H x' y' u v Q l o g ⟨U,h,x,y,C,R,z,q⟩
 cases R with
 |int i =>
  cases z with
  |int j =>
   dsimp only[j3]at q
   split at q
   .rename_i M
    obtain⟨t,rfl⟩:=o;obtain⟨t',rfl⟩:=g;exact PyProof.Rows.mul_int ⟨.int _,H,l.tok _,⟨_,rfl⟩,q U H _ (Le.refl _ _) C (.int _)⟩ M
   .exact q.elim
  |_=>exact q.elim
 |@loc n a e =>
  cases z with
  |int j =>
   dsimp only[j3]at q;obtain⟨L,h1,O⟩:=C.obj e;rw[h1]at q
   cases L with
   |dic P=>exact q.elim
   |exc x=>exact q.elim
   |lst xs =>
    dsimp only at q
    split at q
    .rename_i E
     obtain⟨B,ex,r⟩:=O;obtain⟨F,z2⟩:=nH C (r.rep j.toNat) q;refine IF S s Z H _ _ u v Q l o g ⟨a,j,B,rfl,rfl,ex,E.1,E.2,?_,z2⟩;rw[xL]at F;rw[Nat.mul_comm];exact F
    .exact q.elim
  |_=>exact q.elim
 |_=>cases z<;>exact q.elim
def qe{e:SS}{Z:L2.St}{H:Hp}{s:Shared}{Q:VK}{x':V}{u:Value}{b c:Bool}(a:Inv X e Z H s)(r:aW x' u)(g:plainIs u (.bool b)=I)(i:(u == .bool b)=c)(q:Q (.bl c) H):
  wpAny (model X.prog X.w) X.A (compareOp .Is u (.bool b)) (EP X e Z Q) X.xe s:=by
 exact d_ (wpAny_isSame_plain g (il (by rw[i];exact⟨.bl c,H,a,rfl,q⟩)))
def lR{e:SS}{Z:L2.St}{H:Hp}{s:Shared}{Q:VK}{x':V}{u:Value}{b c:Bool}(a:Inv X e Z H s)(r:aW x' u)(g:plainIs u (.bool b)=I)(i:(!(u == .bool b))=c)(q:Q (.bl c) H):
  wpAny (model X.prog X.w) X.A (compareOp .IsNot u (.bool b)) (EP X e Z Q) X.xe s:=by
 exact d_ (wpAny_isSame_plain g (il (by rw[i];exact⟨.bl c,H,a,rfl,q⟩)))
def yr:BR X (compareOp .Is) (i7 T):=by
 intro r s Z H E B u v Q a e j ⟨U,h,x,y,g,l,o,q⟩
 cases o with
 |non =>
  refine Iw r s Z H _ _ u v Q a e j ⟨rfl,?_⟩;cases l<;>exact q U H _ (Le.refl _ _) g (by first | exact .bl I | exact .bl T)
 |bl b =>
  cases j
  cases l with
  |non=>cases e;exact qe (x':=.non) a rfl (by cases b<;>rfl) (by cases b<;>rfl) (q U H _ (Le.refl _ _) g (.bl T))
  |bl c=>cases e;exact qe (x':=.bl c) a rfl (by cases b<;>cases c<;>rfl) (by cases b<;>cases c<;>rfl) (q U H _ (Le.refl _ _) g (.bl _))
  |int i=>obtain⟨t,rfl⟩:=e;exact qe (x':=.int i) a ⟨_,rfl⟩ (by cases b<;>rfl) (by cases b<;>rfl) (q U H _ (Le.refl _ _) g (.bl T))
  |str i=>obtain⟨t,rfl⟩:=e;exact qe (x':=.str i) a ⟨_,rfl⟩ (by cases b<;>rfl) (by cases b<;>rfl) (q U H _ (Le.refl _ _) g (.bl T))
  |tup C z=>cases e;exact qe (x':=.ref _) a rfl (by cases b<;>rfl) (by cases b<;>rfl) (q U H _ (Le.refl _ _) g (.bl T))
  |_=>exact q.elim
 |_=>exact q.elim
def Ar:BR X (compareOp .IsNot) (i7 I):=by
 intro r s Z H E B u v Q a e j ⟨U,h,x,y,g,l,o,q⟩
 cases o with
 |non =>
  refine Fp r s Z H _ _ u v Q a e j ⟨rfl,?_⟩;cases l<;>exact q U H _ (Le.refl _ _) g (by first | exact .bl I | exact .bl T)
 |bl b =>
  cases j
  cases l with
  |non=>cases e;exact lR (x':=.non) a rfl (by cases b<;>rfl) (by cases b<;>rfl) (q U H _ (Le.refl _ _) g (.bl I))
  |bl c=>cases e;exact lR (x':=.bl c) a rfl (by cases b<;>cases c<;>rfl) (by cases b<;>cases c<;>rfl) (q U H _ (Le.refl _ _) g (.bl _))
  |int i=>obtain⟨t,rfl⟩:=e;exact lR (x':=.int i) a ⟨_,rfl⟩ (by cases b<;>rfl) (by cases b<;>rfl) (q U H _ (Le.refl _ _) g (.bl I))
  |str i=>obtain⟨t,rfl⟩:=e;exact lR (x':=.str i) a ⟨_,rfl⟩ (by cases b<;>rfl) (by cases b<;>rfl) (q U H _ (Le.refl _ _) g (.bl I))
  |tup C z=>cases e;exact lR (x':=.ref _) a rfl (by cases b<;>rfl) (by cases b<;>rfl) (q U H _ (Le.refl _ _) g (.bl I))
  |_=>exact q.elim
 |_=>exact q.elim
def aL(x y:PV)(h:MH):SX:=match y with
 |.int i=>(match x with
  |.loc n=>(match h[n]? with
   |some (.lst xs)=>(match nw xs i with
    |some v=>.ok v h
    |none=>.bad)
   |_=>.bad)
  |.tup xs=>(match nw xs i with
   |some v=>.ok v h
   |none=>.bad)
  |.frl xs=>(match nw xs i with
   |some v=>.ok v h
   |none=>.bad)
  |.str z=>(match nw z.cps.toList i with
   |some c=>if z.length<=sizeLine then .ok (.str ⟨#[c]⟩) h else .bad
   |none=>.bad)
  |_=>.bad)
 |_=>.bad
def rD{K:ij}{U:SM}{H:Hp}{xs:R4}{ys:List V}{i:Int}{v:PV}(r:RPs K U H xs ys)(e:nw xs i=J v):∃a,nw ys i=J a/\RP K U H v a:=by
 unfold nw at e ⊢;rw[<-r.length]
 cases q:yU xs.length i with
 |none=>rw[q]at e;cases e
 |some j =>
  rw[q]at e;exact r.get e
def Hi{a b:Expr}{P mb:Mx PV}{L:Pos}(ha:ME X a P)(hb:ME X b mb)(hs:nM b):ME X (.Subscript a b L) (ai aL P mb):=by
 refine PE.imp (LR IB ha hb hs) λZ H Q q=>?_;obtain⟨U,u,h,R,rh,q⟩:=q;refine⟨U,u,h,R,rh,Ful.bind q λS H1 x x' h1 _ l1 O rx q1=>⟨S,u,h1,R.le l1,O,Ful.bind q1 λB C y y' h2 _ l2 l ry g=>?_⟩⟩;have E:=rx.le l2
 cases ry with
 |int i =>
  cases E with
  |@loc n a e =>
   obtain⟨ob,eo,F⟩:=l.obj e;dsimp only[aL]at g;rw[eo]at g
   cases ob with
   |dic ab=>exact g.elim
   |exc x=>exact g.elim
   |lst xs =>
    obtain⟨ys,ey,r⟩:=F;dsimp only at g
    cases j:nw xs i with
    |none=>rw[j]at g;exact g.elim
    |some v =>
     rw[j]at g;obtain⟨t,o,s⟩:=rD r j;exact .inl ⟨a,ys,i,t,rfl,rfl,SqL.of ey,o,g B C _ (Le.refl _ _) l s⟩
  |@tup xs a ys M r =>
   dsimp only[aL]at g
   cases j:nw xs i with
   |none=>rw[j]at g;exact g.elim
   |some v =>
    rw[j]at g;obtain⟨t,o,s⟩:=rD r j;exact .inr (.inl ⟨_,_,i,t,rfl,rfl,M,o,g B C _ (Le.refl _ _) l s⟩)
  |@frl xs a ys M r =>
   dsimp only[aL]at g
   cases j:nw xs i with
   |none=>rw[j]at g;exact g.elim
   |some v =>
    rw[j]at g;obtain⟨t,o,s⟩:=rD r j;exact .inl ⟨_,_,i,t,rfl,rfl,M.sq,o,g B C _ (Le.refl _ _) l s⟩
  |str z =>
   dsimp only[aL]at g
   cases j:nw z.cps.toList i with
   |none=>rw[j]at g;exact g.elim
   |some c =>
    rw[j]at g;dsimp only at g
    split at g
    .rename_i hz
     exact .inr (.inr ⟨z,i,c,rfl,rfl,hz,j,g B C _ (Le.refl _ _) l (.str _)⟩)
    .exact g.elim
  |_=>exact g.elim
 |_=>exact g.elim
def lx(f:R4->MH->SX)(m:Mx (R4)):Mx PV:=λZ h=>(m Z h).bind λxs a=>(f xs a).ne
section
variable{x:Str}{id T:String}{e:Expr}{es:SW}{f:R4->MH->SX}{m:Mx (R4)}{p pos:Pos}
def Hj{Z:L2.St}{H:Hp}{Q:VK}(q:tM X (RV' X) (lx f m) Z H Q):Pj (cJ X f) (tM X (RVs' X) m) Z H Q:=by obtain⟨U,a,h,o,s,q⟩:=q;exact⟨U,a,h,o,s,Ful.bind q λi t x u r _ y g l j=>⟨i,r,x,g,l,j.zero⟩⟩
def BE(g:Good X N W G k)(j:Nat)(i:G[j]?=J x)(o:di X (.builtin id) f)(l:X.mg x=Y)(hv:bootBuiltins x=J (.builtin id))(s:MA X (e::es) m)(r:starEach (e::es) X.env=(false,eval e X.env)::starEach es X.env:=by rfl)(a:(backTo pos (starEach es X.env)).any (·.1)=false:=by rfl):ME X (.Call (.Name x p) (e::es) [] pos) (lx f m) :=
 have d:=g.dbg x (n4 _ (aA i))
 PE.imp (eG o (g.gl x (aA i)) l hv s d.2.2 d.1 r a) λ_ _ _ q=>Hj q
def zZ(g:Good X N W G k)(j:Nat)(i:G[j]?=J x)(o:di X (.type T) f)(l:X.mg x=Y)(hv:bootBuiltins x=J (.type T))(s:MA X (e::es) m)(r:starEach (e::es) X.env=(false,eval e X.env)::starEach es X.env:=by rfl)(a:(backTo pos (starEach es X.env)).any (·.1)=false:=by rfl):ME X (.Call (.Name x p) (e::es) [] pos) (lx f m) :=
 have d:=g.dbg x (n4 _ (aA i))
 PE.imp (jD o (g.gl x (aA i)) l hv s d.2.2 d.1 r a) λ_ _ _ q=>Hj q
end
def Dz(xs:R4)(h:MH):SX:=match xs with
 |[.int i]=>.ok (.int (if i<0 then -i else i)) h
 |_=>.bad
def yW(xs:R4)(h:MH):SX:=match xs with
 |[.int i,.int j]=>.ok (.int (if j<i then j else i)) h
 |_=>.bad
def DU(xs:R4)(h:MH):SX:=match xs with
 |[.int i,.int j]=>.ok (.int (if j>i then j else i)) h
 |_=>.bad
def yY(xs:R4)(h:MH):SX:=match xs with
 |[.int i]=>.ok (.int i) h
 |[.bl b]=>.ok (.int (if b then 1 else 0)) h
 |_=>.bad
def ny(xs:R4)(h:MH):SX:=match xs with
 |[.loc n]=>(match h[n]? with
  |some (.lst ys)=>.ok (.int ys.length) h
  |_=>.bad)
 |[.tup ys]=>.ok (.int ys.length) h
 |[.frl ys]=>.ok (.int ys.length) h
 |[.str z]=>if z.length<=sizeLine then .ok (.int z.length) h else .bad
 |_=>.bad
def AZ:di X (.builtin "abs") Dz:=by
 intro l s Z H xs j Q a r ⟨U,h,t,o,rp,q⟩
 cases rp with
 |nil=>exact q.elim
 |cons e g =>
  cases g with
  |cons _ _=>cases e<;>exact q.elim
  |nil =>
   cases e with
   |int i=>exact BN l s Z H _ j Q a r ⟨i,rfl,q U H _ (Le.refl _ _) o (.int _)⟩
   |_=>exact q.elim
def u4{f:R4->MH->SX}{F:Int->Int->Int}{r:List V->Hp->VK->Prop}{g:Value}(hf:∀i j h,f [.int i,.int j] h=.ok (.int (F i j)) h)(B:∀xs h,(∀i j,xs≠[.int i,.int j])->f xs h=.bad)(o:ce X g (λxs H Q=>∃i j,xs=[.int i,.int j]/\Q (.int (F i j)) H)):di X g f:=by
 intro E s Z H xs C Q a r ⟨U,h,l,M,rp,q⟩;by_cases z:∃i j,l=[.int i,.int j]
 .obtain⟨i,j,rfl⟩:=z
  cases rp with
  |cons t u=>cases u with
   |cons L y =>
    cases y;cases t;cases L;rw[hf]at q;exact o E s Z H _ C Q a r ⟨i,j,rfl,q U H _ (Le.refl _ _) M (.int _)⟩
 .rw[B l h λi j e=>z ⟨i,j,e⟩]at q;exact q.elim
def qJ(g:Good X N W G k):di X (.builtin "min") yW:=u4 (r:=λ_ _ _=>True) (λ_ _ _=>rfl) (λxs h z=>by delta yW;split<;>first | rfl | exact absurd rfl (z _ _)) (t6 g.calm)
def IV(g:Good X N W G k):di X (.builtin "max") DU:=u4 (r:=λ_ _ _=>True) (λ_ _ _=>rfl) (λxs h z=>by delta DU;split<;>first | rfl | exact absurd rfl (z _ _)) (sR g.calm)
def qC:di X (.type "int") yY:=by
 intro j s Z H xs g Q a r ⟨U,h,t,l,rp,q⟩
 cases rp with
 |nil=>exact q.elim
 |cons e o =>
  cases o with
  |cons _ _=>cases e<;>exact q.elim
  |nil =>
   cases e with
   |int i=>exact tf j s Z H _ g Q a r (.inl ⟨i,rfl,q U H _ (Le.refl _ _) l (.int _)⟩)
   |bl b=>exact tf j s Z H _ g Q a r (.inr ⟨b,rfl,q U H _ (Le.refl _ _) l (.int _)⟩)
   |_=>exact q.elim
def gR:di X (.builtin "len") ny:=by
 intro o s Z H xs l Q g r ⟨U,h,O,j,rp,q⟩
 cases rp with
 |nil=>exact q.elim
 |cons y C =>
  cases C with
  |cons _ _=>cases y<;>exact q.elim
  |nil =>
   cases y with
   |@loc n a e =>
    obtain⟨B,M,t⟩:=j.obj e;dsimp only[ny]at q;rw[M]at q
    cases B with
    |dic F=>exact q.elim
    |exc x=>exact q.elim
    |lst xs =>
     obtain⟨ys,E,i⟩:=t;exact lg o s Z H _ l Q g r ⟨_,_,rfl,.inl ⟨ys,SqL.of E,rfl⟩,by rw[<-i.length];exact q U H _ (Le.refl _ _) j (.int _)⟩
   |tup u i=>exact lg o s Z H _ l Q g r ⟨_,_,rfl,.inr ⟨_,u,rfl⟩,by rw[<-i.length];exact q U H _ (Le.refl _ _) j (.int _)⟩
   |frl u i=>exact lg o s Z H _ l Q g r ⟨_,_,rfl,.inl ⟨_,u.sq,rfl⟩,by rw[<-i.length];exact q U H _ (Le.refl _ _) j (.int _)⟩
   |str z =>
    dsimp only[ny]at q
    split at q
    .rename_i L
     exact lg o s Z H _ l Q g r ⟨_,_,rfl,⟨L,rfl⟩,q U H _ (Le.refl _ _) j (.int _)⟩
    .exact q.elim
   |_=>exact q.elim
def DJ(h:MH):PV->Option String
 |.non=>J "NoneType"
 |.bl _=>J "bool"
 |.int _=>J "int"
 |.str _=>J "str"
 |.tup _=>J "tuple"
 |.frl _=>J "list"
 |.loc n=>match h[n]? with
  |some (.lst _)=>J "list"
  |some (.dic _)=>J "dict"
  |_=>Y
def cL(t:String)(a:String):Bool:=t==a||(t == "bool" && a == "int")
def dS(a:List String)(x:PV)(h:MH):SX:=match DJ h x with
 |some t=>.ok (.bl (a.any (cL t))) h
 |none=>.bad
def Hk(a:String):Prop:=∀K:ij,∀t∈["NoneType","bool","int","str","tuple","list","dict"],PySem.W.kitOne K (.type t) (.type a)=J (cL t a)
def pT(e:∀K,PySem.W.kitOne K (.type "NoneType") (.type b)=J (cL "NoneType" b))(g:∀K,PySem.W.kitOne K (.type "bool") (.type b)=J (cL "bool" b))(j:∀K,PySem.W.kitOne K (.type "int") (.type b)=J (cL "int" b))(r:∀K,PySem.W.kitOne K (.type "str") (.type b)=J (cL "str" b))(l:∀K,PySem.W.kitOne K (.type "tuple") (.type b)=J (cL "tuple" b))(o:∀K,PySem.W.kitOne K (.type "list") (.type b)=J (cL "list" b))(i:∀K,PySem.W.kitOne K (.type "dict") (.type b)=J (cL "dict" b)):Hk b:=by
 intro K t a;simp only[nk,Ew,or_false]at a;rcases a with rfl|rfl|rfl|rfl|rfl|rfl|rfl
 .exact e K
 .exact g K
 .exact j K
 .exact r K
 .exact l K
 .exact o K
 .exact i K
def xF:Hk "int":=pT (λ_=>rfl) (λ_=>rfl) (λ_=>rfl) (λ_=>rfl) (λ_=>rfl) (λ_=>rfl) (λ_=>rfl)
def uV:Hk "bool":=pT (λ_=>rfl) (λ_=>rfl) (λ_=>rfl) (λ_=>rfl) (λ_=>rfl) (λ_=>rfl) (λ_=>rfl)
def iW:Hk "list":=pT (λ_=>rfl) (λ_=>rfl) (λ_=>rfl) (λ_=>rfl) (λ_=>rfl) (λ_=>rfl) (λ_=>rfl)
def tS:Hk "tuple":=pT (λ_=>rfl) (λ_=>rfl) (λ_=>rfl) (λ_=>rfl) (λ_=>rfl) (λ_=>rfl) (λ_=>rfl)
def nI{R:SS}{Z:L2.St}{H:Hp}{s:Shared}{U:SM}{h:MH}{x:PV}{F:V}{u:Value}{t:String}(g:Inv X R Z H s)(rh:RH X.K X.mg U H h)(Q:RP X.K U H x F)(j:aW F u)(e:DJ h x=J t):
  t∈["NoneType","bool","int","str","tuple","list","dict"]/\u≠.builtin "__main__.__loader__#opaque"/\∃C,PySem.W.KitX X.K u (.type t) C/\C s.heap:=by
 cases Q with
 |non=>cases e;cases j;exact⟨by simp,(λz=>nomatch z),_,PySem.W.kitx_none,trivial⟩
 |bl b=>cases e;cases j;exact⟨by simp,(λz=>nomatch z),_,PySem.W.kitx_bool,trivial⟩
 |int i=>cases e;obtain⟨t,rfl⟩:=j;exact⟨by simp,(λz=>nomatch z),_,PySem.W.kitx_int,trivial⟩
 |str i=>cases e;obtain⟨t,rfl⟩:=j;exact⟨by simp,(λz=>nomatch z),_,PySem.W.kitx_str,trivial⟩
 |tup B M =>
  cases e;cases j;obtain⟨l,E,⟨o,e1,e2,_⟩,_⟩:=g.tuple B;exact⟨by simp,(λz=>nomatch z),_,PySem.W.kitx_tuple,⟨o,e1,e2⟩⟩
 |frl B M =>
  cases e;cases j;obtain⟨l,E,⟨o,m,e1,e2,_,e3⟩,_⟩:=g.list B.sq;exact⟨by simp,(λz=>nomatch z),_,PySem.W.kitx_list,⟨o,e1,e2⟩⟩
 |@loc n a O =>
  obtain⟨L,eo,r⟩:=rh.obj O;dsimp only[DJ]at e;rw[eo]at e;cases j
  cases L with
  |lst xs =>
   cases e;obtain⟨ys,y,_⟩:=r;obtain⟨l,E,⟨o,m,e1,e2,_,e3⟩,_⟩:=g.list (SqL.of y);exact⟨by simp,(λz=>nomatch z),_,PySem.W.kitx_list,⟨o,e1,e2⟩⟩
  |dic P =>
   cases e;obtain⟨_,y⟩:=r;obtain⟨_,_,vs,_,p⟩:=(g.hok a _ y);obtain⟨o,es,ep,S,h2,_⟩:=p;exact⟨by simp,(λz=>nomatch z),_,PySem.W.kitx_dict,⟨o,S,h2.1⟩⟩
  |exc x=>cases e
def i9(g:Good X N W G k){a:Expr}{m:Mx PV}{l:String}{c:Str}{i j:Nat}{p q y:Pos}(R:G[i]?=J "isinstance")(hm:X.mg "isinstance"=Y)(S:G[j]?=J c)(hc:X.mg c=Y)(hv:bootBuiltins c=J (.type l))(hT:Hk l)(ha:ME X a m)(he:starEach [a,.Name c q] X.env=(T,eval a X.env)::starEach [.Name c q] X.env:=by rfl)(P:starEach [.Name c q] X.env=[(T,eval (.Name c q) X.env)]:=by rfl)(E:(backTo y (starEach [.Name c q] X.env)).any (·.1)=T:=by rfl):
  ME X (.Call (.Name "isinstance" p) [a,.Name c q] [] y) (wx (dS [l]) m):=by
 have d1:=g.dbg _ (n4 _ (aA R));have d:=g.dbg c (n4 _ (aA S));have u:ce X (.builtin "isinstance") (λxs H Q=>∃z,xs=[z,.ty l]/\uJ X (dS [l]) z H Q):=by
  intro Kt s Z H xs us Q o r ⟨z,e,U,h,x,B,L,q⟩;subst e
  cases r with
  |cons r1 t1=>cases t1 with
   |cons r2 t2 =>
    cases t2;obtain rfl:=(r2);unfold dS at q
    cases C:DJ h x with
    |none=>rw[C]at q;exact q.elim
    |some t =>
     rw[C]at q;obtain⟨ht,F,Hq,Za,hz⟩:=nI o B L r1 C
     exact PySem.W.kia_one Za o.kIn hz (hT X.K t ht) F λtk=>⟨.bl _,H,o.tok _,rfl,by
      have q':=q U H _ (Le.refl _ _) B (.bl _)
      simpa using q'⟩
 refine PE.imp (eG u (g.gl _ (aA R)) hm PyProof.Rows.Boot.«isinstance» (bS ha (bS (nB (v:=.ty l) (g.gl c (aA S)) hc hv rfl d.2.2 d.1) d7 P) he) d1.2.2 d1.1 he E) λZ H Q ⟨U,M,h,rs,B,q⟩=>?_;exact⟨U,M,h,rs,B,Ful.bind q λU1 H1 x z h1 _ l1 O L q1=>⟨z,rfl,U1,h1,x,O,L,q1.zero⟩⟩
def IW(K:ij)(mg:Dx)(F:R4->MH->SX):Sp:=λl H Q E=>∃U j h,RPs K U H j l/\RH K mg U H h/\match F j h with
 |.ok v g=>∀e a i,Le U H e a->RH K mg e a g->RP K e a v i->Q i a
 |.exc x g=>∀C e a,x.fs=[]->mg x.cls=J (.ref C)->Le U H e a->RH K mg e a g->E (.ref C) Y a
 |.bad=>False
def KI(P:Program)(w:World):EA:=λouter H s E e a=>∃i C g,e=.ref i/\a.os=s.os/\AllBare a.gens/\Un (A_ outer) [] H g s.heap a.heap/\HOk P w g a.heap/\Pr outer g s.heap C i a.heap/\E (.ref C) Y g
structure Cal(X:Cx)(x:Str)(ps:R5)(F:R4->MH->SX)(k:Nat):Prop where
 ex:∃f fd,X.mg x=J (.ref f)/\PySem.W.keepIn X.K (.ref f)=I/\qg X.K fd ps []/\FnOk X.prog X.w X.K X.mg X.base (KI X.prog X.w) k f fd ps (IW X.K X.mg F)
def Cal.to(c:Cal X x ps F i)(e1:g.prog=X.prog)(e2:g.w=X.w)(e3:g.K=X.K)(e4:g.mg=X.mg)(e5:g.base=X.base):Cal g x ps F i:=by obtain⟨f,fd,a,b,d,e⟩:=c.ex;refine⟨f,fd,by rw[e4];exact a,by rw[e3];exact b,by rw[e3];exact d,?_⟩;rw[e1,e2,e3,e4,e5];exact e
def aF(F:R4->MH->SX)(m:Mx (R4)):Mx PV:=λZ h=>(m Z h).bind F
def FL(g:Good X N W G k){x:Str}{j:Nat}(hj:G[j]?=J x){ps:R5}{F:R4->MH->SX}(C:Cal X x ps F k){e:Expr}{es:SW}{m:Mx (R4)}{p P:Pos}(ha:MA X (e::es) m)(he:starEach (e::es) X.env=(T,eval e X.env)::starEach es X.env:=by rfl)(as:(backTo P (starEach es X.env)).any (·.1)=T:=by rfl):ME X (.Call (.Name x p) (e::es) [] P) (aF F m):=by
 obtain⟨f,fd,hm,hk,hb,F'⟩:=C.ex;have d:=g.dbg x (n4 _ (aA hj));intro Kt s Z H Q M ⟨U,al,h,rs,rh,q⟩;refine wpAny_Call_Name_kw (rj M (g.gl x (aA hj)) hm ?_ d.1)
 refine PySem.W.callWith_K M.ok.mod.kin hk (lf (ha P Kt s Z H (λvs o=>∃t xs L,Le U H t o/\RH X.K X.mg t o L/\RPs X.K t o xs vs/\Ful X (RV' X) al t o (F xs L) Q) M
  ⟨U,al,h,rs,rh,Ful.bind q λt o xs vs L _ l1 y rx B=>⟨t,xs,L,l1,y,rx,B⟩⟩) λus O ⟨vs,o,R,r,t,xs,L,l1,y,rx,B⟩=>⟨R.kIn,?_⟩) he as
 have run:∀E:XK,IW X.K X.mg F vs o Q E->(∀S C i l,l.os=O.os->AllBare l.gens->Un (A_ X.stack) [] o i O.heap l.heap->HOk X.prog X.w i l.heap->Pr X.stack i O.heap C S l.heap->E (.ref C) Y i->X.xe (.ref S) l) ->
   wpAny (model X.prog X.w) X.A (call (.ref f) us) (EP X Kt Z Q) X.xe O:=λE ab hE=>by
  have hl:(us++[]).length=ps.length:=by rw[G9,<-r.length];exact F'.len _ _ _ _ ab
  have an:=hb O us R.kIn hl;rw[G9]at an;refine wpAny_call (codeAny_mono (F'.run X.A X.stack O o ⟨us,[]⟩ us vs Q E g.room R.env0 an r ab) λr l hq=>?_)
  cases r with
  |error e =>
   obtain⟨S,C,i,rfl,a1,a2,a3,a4,a5,a6⟩:=hq;exact hE S C i l a1 a2 a3 a4 a5 a6
  |ok fl =>
   cases fl with
   |ret u=>exact R.after hq
   |next=>exact False.elim hq
   |brk=>exact False.elim hq
   |cont=>exact False.elim hq
 cases eF:F xs L with
 |bad=>rw[eF]at B;exact B.elim
 |ok v h' =>
  rw[eF]at B;exact run (λ_ _ _=>False) ⟨t,xs,L,rx,y,by rw[eF];exact B⟩ λ_ _ _ _ _ _ _ _ _ z=>z.elim
 |exc x' h' =>
  rw[eF]at B;refine run (λc _ i=>∃C U',c=.ref C/\x'.fs=[]/\X.mg x'.cls=J (.ref C)/\Le t o U' i/\RH X.K X.mg U' i h') ⟨t,xs,L,rx,y,by rw[eF];exact λC U' i a b c d=>⟨C,U',rfl,a,b,c,d⟩⟩ λS C i l a1 a2 a3 a4 a5 a6=>?_;obtain⟨C',U',eC,b1,b2,b3,b4⟩:=a6;cases eC;have IX:=R.call' (s':=l) a1 a3 a4 a2 (λb z=>absurd z (by simp));have ap:=Inv.unpinned (Kt:=[]) IX;exact B S C U' i Z l O.heap b1 b2 b3 b4 (rs.le (l1.trans b3)) ap (Inv.bears R) a5
def bA(n:Nat)(a:R4):l_:=a.map J++List.replicate (n-a.length) Y
def bc(n g:Nat)(m:kl):R4->MH->SX:=λe h=>if e.length=g then (match m (bA n e) h with
 |.nx _ a=>.ok .non a
 |.rt v a=>.ok v a
 |.exc x _ a=>.exc x a
 |.rse x _ a=>.exc x a
 |_=>.bad)else .bad
def BQ{K:ij}{U:SM}{H:Hp}{N:R5}{a:R4}{j:List V}(r:RPs K U H a j):RS K U H (bA N.length a) (L2.start N j):=by
 have l:=r.length;refine⟨by simp[bA,L2.start,l],λi v e=>?_⟩;unfold bA at e;by_cases g:i<a.length
 .rw[yS (by simpa using g),yT]at e
  cases q:a[i]? with
  |none=>rw[q]at e;cases e
  |some x =>
   rw[q]at e;cases e;obtain⟨t,o,s⟩:=r.get q;refine⟨t,?_,s⟩;delta L2.start;rw[yS (by simp;lia),yT,o];rfl
 .rw[DG (by simpa using g),Kz]at e
  split at e<;>cases e
def vw{B h:Heap}(k:B.StaysIn h){b:Addr}{o a:Obj}(e1:B.get? b=J a)(e2:h.get? b=J o):a=o:=by
 have:=k b a e1
 rw[e2]at this;exact(Option.some.inj this).symm
def xR{X:Cx}{S:L2.St}{H:Hp}{F:Shared}{t B:Heap}(g:Inv X [] S H F)(L:X.ex=[])(R:B.StaysIn F.heap)(y:B.StaysIn t)(Q:F.heap.UpToSlots t)(r:∀b o,X.s₀.heap.get? b=J o->b∉X.fs->∃i,B.get? b=J i)(E:∀b o,H b=J o->∃i,B.get? b=J i):Un X.fs [] X.H₀ H X.s₀.heap t/\HOk X.prog X.w H t:=by
 have j:∀b:Addr,b∉X.ex:=λb=>by rw[L];simp
 have kp:∀b o i,B.get? b=J i->F.heap.get? b=J o->t.get? b=J o:=λb o i e1 e2=>by
  have:=vw R e1 e2
  subst this;exact y b i e1
 refine⟨⟨λb o e n hf _=>?_,λb o e n hf _=>?_,λb o e n _=>g.base.free b o e n (j b),λb o e _=>?_,g.base.tups,g.base.frzs,g.base.tbls⟩,λa o e=>?_⟩
 .obtain⟨i,l⟩:=r b o e hf;exact kp b o i l (g.base.keep b o e n hf (j b))
 .obtain⟨sl,e1⟩:=g.base.slot b o e n hf (j b);obtain⟨_,U,s,M⟩:=g.ok.funs.mem hf;rw[e]at s;cases s;obtain⟨C,e2⟩:=Q b _ e1 (λP z=>M P z);exact⟨C,e2⟩
 .by_cases hf:b∈X.fs
  .obtain⟨_,U,s,M⟩:=g.ok.funs.mem hf;rw[e]at s;cases s;obtain⟨sl,e1⟩:=g.base.slot b o e (g.ok.frf b hf) hf (j b);obtain⟨C,e2⟩:=Q b _ e1 (λP z=>M P z);exact⟨_,e2⟩
  .obtain⟨i,l⟩:=r b o e hf;exact⟨i,y b i l⟩
 .refine (g.hok a o e).stay (λb u O z=>?_) (λ_ z=>z) λ_ _ z=>z;rcases O with rfl|O
  .obtain⟨i,l⟩:=E _ _ e;exact kp _ u i l z
  .obtain⟨i,l⟩:=E _ _ O;exact kp _ u i l z
def _root_.L2.ObjOk.has(x:ObjOk P w H h a o):∃u,h.get? a=J u:=by
 cases o with
 |lst xs=>obtain⟨_,_,_,_,e⟩:=x;exact⟨_,e⟩
 |tup xs=>obtain⟨_,_,_,o,e,_⟩:=x;exact⟨o,e⟩
 |dK g=>obtain⟨_,_,_,_,o,_,_,e,_⟩:=x;exact⟨o,e⟩
 |dT g=>obtain⟨_,_,_,_,o,_,_,e,_⟩:=x;exact⟨o,e⟩
 |set S n=>obtain⟨o,_,_,_,e,_⟩:=x;exact⟨o,e⟩
 |ins C l fs=>obtain⟨_,_,_,e,_⟩:=x;exact⟨_,e⟩
 |own y=>obtain⟨o,e⟩:=x;exact⟨o,e⟩
 |xd fs=>obtain⟨_,⟨o,_,_,e,_⟩,_⟩:=x;exact⟨o,e⟩
 |rng lo j=>obtain⟨_,_,_,e⟩:=x;exact⟨_,e⟩
 |frz i u=>obtain⟨e,_⟩:=x;exact⟨_,e⟩
 |tbl r=>exact⟨_,(x)⟩
 |met f y=>exact⟨_,(x)⟩
 |ext φ=>obtain⟨_,⟨o,e⟩,_⟩:=x;exact⟨o,e⟩
structure io(X:Cx):Prop where
 stk:X.stack=X.env::X.outer
 fr:X.env.frame=J X.env.locals
 ex:X.ex=[]
def Ps{P:Program}{w:World}{K:ij}{mg:SD}{base:Heap}{x a:Str}{st:Stmt}{f:Addr}{fd:FuncData}{ps:R5}{m:kl}(Fu:Fun K x a st f fd)(S:wr N ps (aM st))(hl:∀y∈N,Loc (aM st) y)(a6:∀y∈G,(aM st).names.lookup y=J .globalImplicit)(dbg:∀x∈N++G,(x==("__debug__":Str))=T/\(x==("__classdict__":Str))=T/\x≠"__name__")(hb:∀X:Cx,X.prog=P->X.w=w->X.K=K->X.mg=mg->X.base=base->X.env.scope=aM st->Good X N N G k->io X->n5 X (aJ st) m):
  FnOk P w K mg base (KI P w) (k+1) f fd ps (IW K mg (bc N.length ps.length m)):=by
 have len:∀vs H Q E,IW K mg (bc N.length ps.length m) vs H Q E->vs.length=ps.length:=by
  rintro vs H Q E ⟨U,zs,h,r,rh,q⟩;rw[<-r.length];unfold bc at q;by_cases hp:zs.length=ps.length
  .exact hp
  .rw[f_ hp]at q;exact q.elim
 obtain⟨oc,od,kV,bv,pm,an,g,ct,bt,rfl,lk,a5⟩:=Fu.ex;refine LO lk a5 S len λA outer s H vs Q E hr a3=>?_;obtain⟨U,zs,h,r,rh,q⟩:=a3;refine⟨_,hb _ rfl rfl rfl rfl rfl rfl ⟨rfl,S.nd,hl,λ_ _=>.inl rfl,a6,dbg,rfl,hr,PassesOwn.leaving⟩ ⟨rfl,rfl,rfl⟩,U,bA N.length zs,h,BQ r,rh,?_⟩;unfold bc at q;by_cases hp:zs.length=ps.length
 .rw[c_ hp]at q
  cases e:m (bA N.length zs) h with
  |nx Z' h'=>rw[e]at q;exact λU' O Z' l r' s'=>q U' O .non l r' .non
  |rt v h'=>rw[e]at q;exact q
  |bk Z h'=>rw[e]at q;exact q.elim
  |ct Z h'=>rw[e]at q;exact q.elim
  |bad=>rw[e]at q;exact q.elim
  |exc x Z h' =>
   rw[e]at q;intro ea C U' O Z' s' bx as ap l ab a2 j a4 a7;obtain⟨B,t,ay,F,a1,al⟩:=a7;refine wpAny_leaves_onW (base:=B) (env:=envOfC a (aM st) s.heap.objs.size f g) (outer:=outer) j.ok.frames rfl ay λa0 i sm=>?_;have L:∀b o,s.heap.get? b=J o->b∉A_ outer->∃ob,B.get? b=J ob:=λb o R hf=>by
    obtain⟨o',e'⟩:=a4.old b o R (by show b∉([]:SM);simp);refine a1 b o' e' λhm=>?_;rcases nk.mp (j.stkSub b hm)with z|z
    .exact absurd (ml R) (by rw[z];exact DH _)
    .exact hf z
   obtain⟨un,ax⟩:=xR (B:=B) j rfl ay.1 i.1 sm L F;exact⟨ea,C,O,rfl,j.os,j.bare,un,ax,⟨B,t,i,F,L,al⟩,q C U' O as ap l ab⟩
  |rse x Z h' =>
   rw[e]at q;intro ea C U' O Z' s' h0 bm as ap l ab a2 j M;have a9:=j.stack;have a8:∀env∈(envOfC a (aM st) s.heap.objs.size f g::outer),∀b,env.frame=J b->b∈A_ (envOfC a (aM st) s.heap.objs.size f g::outer):=λenv he b hb=>Ev.mpr ⟨env,he,hb⟩;refine wpAny_leaves_madeW (base:=PySem.W.hideAll h0 (A_ (envOfC a (aM st) s.heap.objs.size f g::outer))) (h:=h0) (env:=envOfC a (aM st) s.heap.objs.size f g) (outer:=outer) j.ok.frames rfl (λb o z=>PySem.W.of_hideAll _ z)
    (PySem.W.funFrames_hide (base:=base) a9 a8) M λa0 t i _ _ sm=>?_
   have sub:∀b,b∈A_ (envOfC a (aM st) s.heap.objs.size f g::outer)->b=s.heap.objs.size\/b∈A_ outer:=λb hm=>nk.mp (j.stkSub b hm);have L:∀b o,s.heap.get? b=J o->b∉A_ outer->∃ob,(PySem.W.hideAll h0 (A_ (envOfC a (aM st) s.heap.objs.size f g::outer))).get? b=J ob:=λb o R hf=>by
    obtain⟨o',e'⟩:=j.base.there b o R (by show b∉([]:SM);simp);refine⟨o',PySem.W.hideAll_get _ e' λhm=>?_⟩;rcases sub b hm with z|z
    .exact absurd (ml R) (by rw[z];exact DH _)
    .exact hf z
   have F:∀b o,O b=J o->∃ob,(PySem.W.hideAll h0 (A_ (envOfC a (aM st) s.heap.objs.size f g::outer))).get? b=J ob:=λb o R=>by
    obtain⟨u,eu⟩:∃u,h0.get? b=J u:=(j.hok b o R).has;refine⟨u,PySem.W.hideAll_get _ eu λhm=>?_⟩
    have:=j.stkFree b hm
    rw[R]at this;cases this
   have bf:h0.UpToSlots a0:=(Heap.UpToSlots.of_keeps M.keeps).trans sm;obtain⟨un,ax⟩:=xR (B:=PySem.W.hideAll h0 (A_ (envOfC a (aM st) s.heap.objs.size f g::outer))) j rfl (λb o z=>PySem.W.of_hideAll _ z) i.1 bf L F;have al:O ea=Y:=by
    cases z:O ea with
    |none=>rfl
    |some o =>
     obtain⟨u,eu⟩:=(j.hok ea o z).has;rw[M.new]at eu;cases eu
   exact⟨ea,C,O,rfl,j.os,j.bare,un,ax,⟨_,t,i,F,L,al⟩,q C U' O as ap l ab⟩
 .rw[f_ hp]at q;exact q.elim
def rb(v:PV)(h:MH):Out MIt:=match v with
 |.loc n=>(match h[n]? with
  |some (.lst xs)=>.ok ⟨xs,[(n,xs)]⟩ h
  |_=>.bad)
 |.frl xs=>.ok ⟨xs,[]⟩ h
 |.tup xs=>.ok ⟨xs,[]⟩ h
 |_=>.bad
def b8(m:Mx PV):Mx MIt:=λZ h=>(m Z h).bind rb
def bL(j:ME X l m):MI X tg l (b8 m):=by
 intro o s Z H R g ⟨U,a,h,r,t,q⟩;by_cases z:∃xs i,m a h=.ok (.tup xs) i
 .obtain⟨xs,i,e⟩:=z;refine IT j o s Z H R g ⟨U,a,h,r,t,?_⟩;unfold b8 at q;delta L5;rw[e]at q ⊢;exact q
 .refine FJ j o s Z H R g ⟨U,a,h,r,t,?_⟩;unfold b8 at q;delta L4
  cases e:m a h with
  |ok v i =>
   rw[e]at q
   cases v with
   |tup xs=>exact absurd ⟨xs,i,e⟩ z
   |_=>exact q
  |exc x i=>rw[e]at q;exact q
  |bad=>rw[e]at q;exact q
def Inv.bigM{e:SS}{Z:L2.St}{H:Hp}{s:Shared}(a:Inv X e Z H s):sysModules<s.heap.objs.size:=by have h:=(a.mod.glob.keeps a.bk).lt;exact NI (by decide) h
def EN:Mx PV:=λ_ h=>.ok (.loc h.length) (h++[.dic []])
def xj:ME X (.Dict [] [] pos) EN:=λl s Z H Q a ⟨U,i,h,r,e,q⟩=>by
 have hf:=a.hok.fresh (i3 _);obtain⟨j,g⟩:=e.new hf (o:=.dic []) ⟨rfl,rfl⟩;refine wpAny_Dict_empty ⟨.ref s.heap.objs.size,_,a.laid (t':=s.toks) (λ_ _ q=>ls _ q) (i3 _) ?_,rfl,q _ _ _ g j (.loc (by rw[<-e.len];simp))⟩;exact⟨vl _,beq_eq_false_iff_ne.mpr (Ne.symm (qp (Inv.bigM a))),[],.nil,Heap.DictOf.new s.heap⟩
structure FnAt(P:Program)(w:World)(K:ij)(mg:SD)(base:Heap)(x:Str)(ps:R5)(F:R4->MH->SX)(k:Nat):Prop where
 ex:∃f fd,mg x=J (.ref f)/\PySem.W.keepIn K (.ref f)=I/\qg K fd ps []/\FnOk P w K mg base (KI P w) k f fd ps (IW K mg F)/\∃oc od osl,K.lookup f=J ⟨oc,od,.func fd,osl⟩
def FnAt.mono{P:Program}{w:World}{K:ij}{mg:SD}{base:Heap}{x:Str}{g:R5}{F:R4->MH->SX}{i j:Nat}(c:FnAt P w K mg base x g F i)(h:i<=j):FnAt P w K mg base x g F j :=
 let⟨f,fd,a,b,d,e,z⟩:=c.ex;⟨f,fd,a,b,d,e.mono h,z⟩
def FnAt.cal{P:Program}{w:World}{K:ij}{mg:SD}{base:Heap}{x:Str}{g:R5}{F:R4->MH->SX}{i:Nat}(c:FnAt P w K mg base x g F i){X:Cx}(e1:X.prog=P)(e2:X.w=w)(e3:X.K=K)(e4:X.mg=mg)(e5:X.base=base):Cal X x g F i:=by subst e1;subst e2;subst e3;subst e4;subst e5;obtain⟨f,fd,a,b,d,e,_⟩:=c.ex;exact⟨f,fd,a,b,d,e⟩
structure e_(K:ij)(x:Str)(st:Stmt):Prop where
 ex:∃f fd,PySem.W.nsIn K mainGlobals x=J (J (.ref f))/\Fun K x x st f fd
def EO{K:ij}{x:Str}{st:Stmt}{f:Addr}{i:Value}{j g:Option Addr}{sl:Array (SU)}{kV o pm e ct:Value}(a:PySem.W.nsIn K mainGlobals x=J (J (.ref f)))(l:K.lookup f=J ⟨i,j,.func (PySem.W.fnOf x x (iB st) (aJ st) (aM st) .none kV o pm g e ct),sl⟩)(c:PySem.W.codeIn K e x=I)(kp:PySem.W.keepIn K (.ref f)=I):e_ K x st :=
 ⟨f,_,a,IH l c kp⟩
def nS(x:Str)(st:Stmt)(i:R5):Prop:=∀(kV g pm:Value)(j:Option Addr)(a ct:Value)(e:SQ),e.length=i.length->bindArgs (PySem.W.fnOf x x (iB st) (aJ st) (aM st) .none kV g pm j a ct) ⟨e,[]⟩=pure (i.zip e)
def IY{P:Program}{w:World}{K:ij}{mg:SD}{base:Heap}{x:Str}{st:Stmt}{g:R5}{m:kl}(kin:K.In base)(ns:base.Ns mainGlobals mg)(D:e_ K x st)(S:wr N g (aM st))(B:nS x st g)(o:∀y∈N,(aM st).names.lookup y=J .local\/(aM st).names.lookup y=J .cell)(i:∀y∈G,(aM st).names.lookup y=J .globalImplicit)(dbg:∀x∈N++G,(x==("__debug__":Str))=T/\(x==("__classdict__":Str))=T/\x≠"__name__")(s:∀X:Cx,X.prog=P->X.w=w->X.K=K->X.mg=mg->X.base=base->X.env.scope=aM st->Good X N N G k->io X->n5 X (aJ st) m):
  FnAt P w K mg base x g (bc N.length g.length m) (k+1):=by
 obtain⟨f,fd,a,e⟩:=D.ex;have u:=e.ex;obtain⟨l,r,kV,t,pm,C,z,ct,j,e1,e2,_⟩:=u;exact⟨f,fd,PySem.W.mg_of kin ns a,e.kp,e.binds B,Ps e S o i dbg s,l,r,j,e2⟩
def IZ{P:Program}{w:World}{K:ij}{mg:SD}{h:Heap}{x y:Str}{st:Stmt}{F:R4->MH->SX}{l:Addr}(D:e_ K x st)(B:nS x st [y])(j:mg x=J (.ref l))(kin:K.In h)(ns:h.Ns mainGlobals mg)(H:∀base:Heap,K.In base->base.Ns mainGlobals mg->FnAt P w K mg base x [y] F k):
  ∃fd:FuncData,(∀(s:Shared)(u:Value),BindsTo s fd ⟨[u],[]⟩ [(y,u)])/\∀base:Heap,K.In base->base.Ns mainGlobals mg->FnOk P w K mg base (KI P w) k l fd [y] (IW K mg F):=by
 obtain⟨f,fd,a,C⟩:=D.ex;have e:=j.symm.trans (PySem.W.mg_of kin ns a);obtain⟨R,U,kV,g,pm,z,i,ct,L,e1,e2,e3⟩:=C.ex;refine⟨fd,λs u=>.of_eq ?_,λbase kb nb=>?_⟩
 .rw[e1];exact B kV g pm z i ct [u] rfl
 .obtain⟨Q,E,Z,S,O,M,t,r,o,g5⟩:=(H base kb nb).ex
  grind
def L8(K:ij):Sp:=λe H Q _=>∃(a:Addr)(ns:R6),e=[.ref a]/\SqF K H a (ns.map V.int)/\ns.length<=63/\∀g,Q (.bl I) g
def I_{l:PySem.W.OpenLaw}{q:Program}{loose:R5}{XP:(Str->SU)->Heap->Prop}{L:World->Heap->Prop}{d:DefRec}{K:Params->ij}{x:Str}{F:R4->MH->SX}(hn:l.most=J 63)(j:d.params.defaults=[])(hr:Room k callerA)(hY:∀(w:World)(h:Heap),L w h->(K w.params).In h)(P:∀(w:World)(mg:SD)(g:Addr)(h:Heap),(K w.params).In h->h.Ns mainGlobals mg->mg d.name=J (.ref g) ->
   ∃fd:FuncData,(∀(s:Shared)(u:Value),BindsTo s fd ⟨[u],[]⟩ [(x,u)])/\∀base:Heap,(K w.params).In base->base.Ns mainGlobals mg->FnOk l.prog w (K w.params) mg base (KI l.prog w) k g fd [x] (IW (K w.params) mg F))(Z:∀ns:R6,ns.length<=63->∃M,F [.frl (ns.map .int)] []=.ok (.bl I) M):
  PySem.W.WalkO q loose XP L l.row.toRowW d [] (λf O=>PySem.call f O):=by
 refine L2.FE (x:=x) (CX:=λw=>KI l.prog w) (sp:=λw=>L8 (K w.params)) hn (by decide) j hr hY (λw mg g h S B C=>?_) (λw H a ns i hO hS=>?_) λw H s e s' z=>?_
 .obtain⟨fd,hb,U⟩:=P w mg g h S B C;refine⟨fd,hb,λbase kb nb=>(U base kb nb).imp λO H Q E z=>?_⟩;obtain⟨a,ns,rfl,t,i,R⟩:=z;obtain⟨M,e⟩:=Z ns i;refine⟨[],[.frl (ns.map .int)],[],.cons (.frl t (RPs.ints ns)) .nil,⟨rfl,NH,λn a o z _=>by simp at z⟩,?_⟩;rw[e];intro U' H' v' _ _ r;cases r;exact R H'
 .have t:SqF (K w.params) H a (ns.map V.int):=by
   rcases hS with(z|z)|z
   .rcases hO a with y|⟨o,xs,y⟩
    .rw[y]at z;cases z
    .rw[y]at z;cases z
   .exact .inl z
   .exact .inr z
  exact⟨a,ns,rfl,t,i,λ_=>rfl⟩
 .obtain⟨_,_,_,_,_,_,_,_,_,z⟩:=z;exact z
end
section
variable{α:Type}{Z:l_}{h:MH}
@[simp]theorem kY:mC v Z h=.ok v h:=rfl
@[simp]theorem dy{v:PV}{r:l_}:af 0 (J v::r) h=.ok v h:=rfl
@[simp]theorem cM{i:Nat}{o:Option PV}{r:l_}:af (i+1) (o::r) h=af i r h:=by simp[af]
@[simp]theorem nR:ai f a b Z h=(a Z h).bind λx h1=>(b Z h1).bind λy h2=>(f x y h2).ne:=rfl
@[simp]theorem lQ:wx f a Z h=(a Z h).bind λx h1=>(f x h1).ne:=rfl
@[simp]theorem zQ:lx f a Z h=(a Z h).bind λx h1=>(f x h1).ne:=rfl
@[simp]theorem d8:aF f a Z h=(a Z h).bind f:=rfl
@[simp]theorem b7:b_ Z h=.ok [] h:=rfl
@[simp]theorem bj:ae a r Z h=(a Z h).bind λx h1=>(r Z h1).bind λxs h2=>.ok (x::xs) h2:=rfl
@[simp]theorem kA:aR a Z h=(a Z h).bind p_:=rfl
@[simp]theorem NQ:br a Z h=(a Z h).bind wy:=rfl
@[simp]theorem NR:EN Z h=.ok (.loc h.length) (h++[.dic []]):=rfl
@[simp]theorem nT:mB a Z h=(a Z h).bind λv h1=>match v with|.bl b=>.ok b h1|_=>.bad:=rfl
@[simp]theorem nz:gp a Z h=(a Z h).bind λb h1=>.ok (!b) h1:=rfl
@[simp]theorem An:EB a b Z h=(a Z h).bind λx h1=>if x=I then .ok I h1 else b Z h1:=rfl
@[simp]theorem L9:jF a b Z h=(a Z h).bind λx h1=>match x with|.bl c=>if c=I then b Z h1 else .ok (.bl T) h1|_=>.bad:=rfl
@[simp]theorem NS:FF a b Z h=(a Z h).bind λx h1=>match x with|.bl c=>if c=I then .ok (.bl I) h1 else b Z h1|_=>.bad:=rfl
@[simp]theorem L_:qL a Z h=(a Z h).bind λx h1=>match x with|.bl c=>.ok (.bl (!c)) h1|_=>.bad:=rfl
@[simp]theorem NT:FG c a b Z h=(c Z h).bind λx h1=>if x=I then a Z h1 else b Z h1:=rfl
@[simp]theorem o9:iv Z h=.nx Z h:=rfl
@[simp]theorem cy:aC a b Z h=(a Z h).then b:=rfl
@[simp]theorem aq:(SOut.nx Z h).then k=k Z h:=rfl
@[simp]theorem wW:(SOut.rt v h).then k=.rt v h:=rfl
@[simp]theorem then_bk:(SOut.bk Z h).then k=.bk Z h:=rfl
@[simp]theorem then_ct:(SOut.ct Z h).then k=.ct Z h:=rfl
@[simp]theorem Ca:(SOut.rse x Z h).then k=.rse x Z h:=rfl
@[simp]theorem BF:(SOut.exc x Z h).then k=.exc x Z h:=rfl
@[simp]theorem By:SOut.bad.then k=.bad:=rfl
def Out.rt(o:SX)(Z:l_):SOut:=match o with
 |.ok v a=>.rt v a
 |.exc x a=>.exc x Z a
 |.bad=>.bad
@[simp]theorem QM:(Out.ok v h).rt Z=.rt v h:=rfl
@[simp]theorem Pt:(Out.exc x h:SX).rt Z=.exc x Z h:=rfl
@[simp]theorem Pu:(Out.bad:SX).rt Z=.bad:=rfl
@[simp]theorem xu:aQ m Z h=(m Z h).rt Z:=rfl
def Out.go{α:Type}(o:Out α)(Z:l_)(k:α->kl):SOut:=match o with
 |.ok v a=>k v Z a
 |.exc x a=>.exc x Z a
 |.bad=>.bad
@[simp]theorem aw:(Out.ok v h).go Z k=k v Z h:=rfl
@[simp]theorem go_exc:(Out.exc x h:Out α).go Z k=.exc x Z h:=rfl
@[simp]theorem go_bad:(Out.bad:Out α).go Z k=.bad:=rfl
@[simp]theorem Pw:Dw m k Z h=(m Z h).go Z k:=rfl
@[simp]theorem pi:bJ m Z h=(m Z h).go Z λ_=>iv:=rfl
@[simp]theorem mE:vu c a b Z h=(c Z h).go Z λx=>if x=I then a else b:=rfl
@[simp]theorem nQ:aO i m Z h=(m Z h).go Z λv Z h=>.nx (Z.set i (J v)) h:=rfl
@[simp]theorem NU:lP m g Z h=(m Z h).go Z λv Z h=>match g v Z h with|.nx Z2 h2=>.nx Z2 h2|.exc x Z2 h2=>.exc x Z2 h2|_=>.bad:=rfl
@[simp]theorem Px:m_ i v Z h=.nx (Z.set i (J v)) h:=rfl
@[simp]theorem Py:DT [] Z h=.nx Z h:=rfl
@[simp]theorem Pz:yK a r (v::vs) Z h=(a v Z h).then (r vs):=rfl
@[simp]theorem PC:DI r n (.tup xs) Z h=if xs.length=n then r xs Z h else .bad:=rfl
@[simp]theorem rQ:eE mi g b Z h=(mi Z h).go Z λit=>Dp it g b it.xs:=rfl
@[simp]theorem wR:b8 m Z h=(m Z h).bind rb:=rfl
@[simp]theorem Ma:gi m Z h=(m Z h).bind λvs h1=>match vs with
 |[.int j]=>if -(2^62)<=j/\j<2^62 then .ok ⟨bX 0 j.toNat,[]⟩ h1 else .bad
 |_=>.bad:=rfl
@[simp]theorem Mb:uz m Z h=(m Z h).bind λvs h1=>match vs with
 |[.int i,.int j]=>if -(2^62)<=i/\i<2^62 /\ -(2^62)<=j/\j<2^62 then .ok ⟨bX i (j-i).toNat,[]⟩ h1 else .bad
 |_=>.bad:=rfl
@[simp]theorem PD:E5 mo mi v Z h=(mo Z h).go Z λo=>Dw mi λi Z h=>match pd o i v h with
 |some h2=>.nx Z h2
 |none=>.bad:=rfl
def SOut.fin(o:SOut):SX:=match o with
 |.nx _ a=>.ok .non a
 |.rt v a=>.ok v a
 |.exc x _ a=>.exc x a
 |.rse x _ a=>.exc x a
 |_=>.bad
@[simp]theorem fin_exc:(SOut.exc x Z h).fin=.exc x h:=rfl
@[simp]theorem fin_rse:(SOut.rse x Z h).fin=.exc x h:=rfl
@[simp]theorem dA:(SOut.rt v h).fin=.ok v h:=rfl
@[simp]theorem fin_nx:(SOut.nx Z h).fin=.ok .non h:=rfl
theorem cW(e:ps.length=np):bc n np m ps h=(m (bA n ps) h).fin:=by delta bc;rw[c_ e];rfl
end
section
variable{h:MH}{i j:Int}
@[simp]theorem Mc:ik (.int i) (.int j) h=.ok (.int (i+j)) h:=rfl
@[simp]theorem NV:Eb (.int i) h=.ok (.int (-i)) h:=rfl
@[simp]theorem NW:Dy (.int i) (.int j) h=.ok (.bl (decide (i<j))) h:=rfl
@[simp]theorem NX:FK (.int i) (.int j) h=.ok (.bl (decide (i<=j))) h:=rfl
@[simp]theorem NY:Em (.int i) (.int j) h=.ok (.bl (decide (j<i))) h:=rfl
@[simp]theorem NZ:EM (.int i) (.int j) h=.ok (.bl (decide (j<=i))) h:=rfl
@[simp]theorem N0:qd (.int i) (.int j) h=.ok (.bl (decide (i=j))) h:=rfl
@[simp]theorem N3:n7 (.int i) (.int j) h=.ok (.bl (!decide (i=j))) h:=rfl
@[simp]theorem N4:qd (.bl a) (.bl b) h=.ok (.bl (a==b)) h:=by simp[qd,rd,SeqAt.shaped,PyData.canLay0,PyData.depth,PyData.eqv]
@[simp]theorem N5:n7 (.bl a) (.bl b) h=.ok (.bl (!(a==b))) h:=by simp[n7,rd,SeqAt.shaped,PyData.canLay0,PyData.depth,PyData.eqv]
theorem gD(a:j≠0):mn (.int i) (.int j) h=.ok (.int (i.fmod j)) h:=by simp[mn,a]
def xW(a:j≠0)(e:j.natAbs.log2<9000):En (.int i) (.int j) h=.ok (.int (i.fdiv j)) h:=by simp[En,a,PyProof.noPylong_of_log2 e]
def iw(a:-(2^64)<i/\i<2^64):j3 (.int i) (.int j) h=.ok (.int (i*j)) h:=by simp[j3,IntMulOk.of_left (intBits_le_64 a.1 a.2)]
def FM(a:-(2^64)<j/\j<2^64):j3 (.int i) (.int j) h=.ok (.int (i*j)) h:=by simp[j3,IntMulOk.of_right (intBits_le_64 a.1 a.2)]
def v4(a:0<=j/\j<=1000000/\i.natAbs<2^64):ov (.int i) (.int j) h=.ok (.int (i^j.toNat)) h:=by simp[ov,fG,a]
@[simp]theorem PF:Dz [.int i] h=.ok (.int (if i<0 then -i else i)) h:=rfl
@[simp]theorem N6:yW [.int i,.int j] h=.ok (.int (if j<i then j else i)) h:=rfl
@[simp]theorem N7:DU [.int i,.int j] h=.ok (.int (if j>i then j else i)) h:=rfl
@[simp]theorem PH:yY [.int i] h=.ok (.int i) h:=rfl
@[simp]theorem PJ:yY [.bl b] h=.ok (.int (if b then 1 else 0)) h:=rfl
@[simp]theorem Md:ny [.frl xs] h=.ok (.int xs.length) h:=rfl
@[simp]theorem Me:ny [.tup xs] h=.ok (.int xs.length) h:=rfl
theorem gk(a:xs.length<=1000):p_ xs h=.ok (.loc h.length) (h++[.lst xs]):=by delta p_;rw[c_ (tx a (by decide))]
def oi(a:m<n):yU n (m:Int)=J m:=by delta yU;rw[c_ ⋯,c_ ⋯];simp
@[simp]theorem ux:nw (a::r) 0=J a:=cY (j:=0) rfl
@[simp]theorem Mf:nw (a::b::r) 1=J b:=cY (j:=1) rfl
@[simp]theorem QN:nw (a::b::c::r) 2=J c:=cY (j:=2) rfl
@[simp]theorem QO:nw (a::b::c::d::r) 3=J d:=cY (j:=3) rfl
def Out.ofO(o:Option PV)(h:MH):SX:=match o with
 |some v=>.ok v h
 |none=>.bad
@[simp]theorem Mh:Out.ofO (J v) h=.ok v h:=rfl
@[simp]theorem Mi:aL (.tup xs) (.int i) h=Out.ofO (nw xs i) h:=rfl
@[simp]theorem Mj:aL (.frl xs) (.int i) h=Out.ofO (nw xs i) h:=rfl
theorem iJ(e:h[n]?=J (.lst xs)):aL (.loc n) (.int i) h=Out.ofO (nw xs i) h:=by simp only[aL,e];rfl
def pC(e:h[n]?=J (.lst xs)):pd (.loc n) (.int i) v h=(yU xs.length i).map λp=>h.set n (.lst (xs.set p v)):=by simp only[pd,e]
def mQ(e:h[n]?=J (.lst xs)):rb (.loc n) h=.ok ⟨xs,[(n,xs)]⟩ h:=by simp only[rb,e]
@[simp]theorem KJ:rb (.tup xs) h=.ok ⟨xs,[]⟩ h:=rfl
@[simp]theorem KL:rb (.frl xs) h=.ok ⟨xs,[]⟩ h:=rfl
@[simp]theorem xU:(⟨xs,[]⟩:MIt).ok h↔True:=⟨λ_=>trivial,λ_ p hp=>nomatch hp⟩
@[simp]theorem qZ:(⟨xs,[(n,zs)]⟩:MIt).ok h↔h[n]?=J (.lst zs):=by
 constructor
 .intro q;exact q (n,zs) (by simp)
 .intro q p hp;have e:=G2.mp hp;subst e;exact q
end
theorem FN(e:it.ok h):Dp it g b [] Z h=.nx Z h:=by rw[Dp];dsimp only;rw[c_ e]
def v9(g:Nat->Shared->Prop)(turn:∀n s,g n s->wpAny (model prog w) A (pyNext it) (λr j=>match r with
   |none=>R (.ok .next) j
   |some v=>wpAny (model prog w) A (letOwnedTupleGo target it v) (λ_ i=>wpAny (model prog w) A (assign target env v) (λ_ o =>
     wpAny (model prog w) A (forIn ifs I λc r=>if r=I then do let ok <-isTrue c env (eval c env);pure (ForInStep.yield ok)else pure (ForInStep.yield r)) (λok a =>
      if ok=I then wpAny (model prog w) A (eval elt env) (λx y =>
       wpAny (model prog w) A (call (.builtin "list.append") [acc,x]) (λ_ u=>∃m,m<n/\g m u) (λ_ _=>False) y) (λ_ _=>False) a
      else ∃m,m<n/\g m a) (λ_ _=>False) o) (λ_ _=>False) i) (λ_ _=>False) j) (λ_ _=>False) s)(n:Nat)(h:g n s):
  codeAny (model prog w) A (.compLoop (.ListComp elt [⟨target,iter,ifs,0⟩] scope pos) 0 it acc env) R s:=by
 refine codeAny_loop rfl g (λn s F=>?_) n h;refine wpAny_noted ?_;rw[compTurn_list];refine d_ (wpAny_standAt (d_ (wpAny_mono (turn n s F) (λr j l=>?_) λ_ _ e=>e.elim)))
 cases r with
 |none=>exact il l
 |some v =>
  refine d_ (wpAny_mono l (λ_ i z=>?_) λ_ _ e=>e.elim);refine d_ (wpAny_mono z (λ_ o C=>d_ (wpAny_mono C (λok a t=>?_) λ_ _ e=>e.elim)) λ_ _ e=>e.elim)
  cases ok with
  |false=>exact il ⟨rfl,t⟩
  |true =>
   exact d_ (d_ (wpAny_mono t (λx y E=>d_ (wpAny_mono E (λ_ u B=>il (il ⟨rfl,B⟩)) λ_ _ e=>e.elim)) λ_ _ e=>e.elim))
def kG(env:Env):List (Str×NameKind)->List (Str×Addr)->List (Str×Addr)
 |[],a=>a
 |(n,k)::r,a=>kG env r (if(k==NameKind.free)=I then(n,(env.cells.lookup n).getD 0)::a else a)
def uh(h:∀y∈scope.names,y.2=.free->∃c,env.cells.lookup y.1=J c):closureFor scope env=pure (kG env scope.names []):=by
 have key:∀(l:List (Str×NameKind))(e:List (Str×Addr)),(∀y∈l,y.2=.free->∃c,env.cells.lookup y.1=J c) ->
   (forIn l e λ(x:Str×NameKind)(r:List (Str×Addr))=>if(x.2==NameKind.free)=I then(do let a <-cellOf env x.1;pure (ForInStep.yield ((x.1,a)::r)):Sem _)else pure (ForInStep.yield r))=(pure (kG env l e):Sem _):=by
  intro l
  induction l with
  |nil=>intro e _;rfl
  |cons y l t =>
   intro e j;obtain⟨n,k⟩:=y;rw[OI];have s:=λz u=>j z (oh _ u);by_cases g:(k==NameKind.free)=I
   .obtain⟨c,o⟩:=j (n,k) BD (by simpa using g);rw[c_ g];have i:cellOf env n=pure c:=by unfold cellOf;rw[o]
    rw[i];refine(t ((n,c)::e) s).trans ?_;simp only[kG,g,if_true,o,Option.getD_some]
   .rw[f_ g];refine(t e s).trans ?_;simp[kG,g]
 exact(congrArg (λz=>z >>= λr=>pure r) (key scope.names [] h)).trans rfl
def oC:∀(l:List (Str×NameKind))(g:List (Str×Addr)),(∀a,g.lookup x=J a->a=(env.cells.lookup x).getD 0)->(∀a,(kG env l g).lookup x=J a->a=(env.cells.lookup x).getD 0)/\((∃k,(x,k)∈l/\k=.free)\/(∃a,g.lookup x=J a)->∃a,(kG env l g).lookup x=J a):=by
 intro l
 induction l with
 |nil =>
  intro g h;refine⟨h,λz=>?_⟩;rcases z with⟨k,z,_⟩|z
  .cases z
  .exact z
 |cons y r u =>
  intro g h;obtain⟨n,k⟩:=y;have B:∀a,(if(k==NameKind.free)=I then(n,(env.cells.lookup n).getD 0)::g else g).lookup x=J a->a=(env.cells.lookup x).getD 0:=λa i=>by
   split at i
   .rw[Fe]at i
    split at i
    .rename_i e
     have:x=n:=by simpa using e
     subst this;exact(Option.some.inj i).symm
    .exact h a i
   .exact h a i
  obtain⟨s,t⟩:=u _ B;refine⟨s,λz=>t ?_⟩;rcases z with⟨o,z,j⟩|⟨a,z⟩
  .rcases nk.mp z with e|e
   .cases e;right;subst j;exact⟨(env.cells.lookup x).getD 0,by simp⟩
   .exact .inl ⟨o,e,j⟩
  .right;split
   .rw[Fe];split
    .exact⟨_,rfl⟩
    .exact⟨a,z⟩
   .exact⟨a,z⟩
def cP{env:Env}(o:env.scope.kind=.function):∀{names:List (Str×NameKind)}{x:Str}{k:NameKind},names.lookup x=J k ->
  (names.map λ(n,k)=>if(k==NameKind.free&&env.scope.kind == .function&&env.kindOf n==J .cell)then(n,NameKind.cell)else(n,k)).lookup x=J (if k=.free/\env.kindOf x=J .cell then .cell else k):=by
 intro names
 induction names with
 |nil=>intro x k h;simp at h
 |cons y r i =>
  intro x k h;obtain⟨n,g⟩:=y;have l:=@i x k;show List.lookup x ((if(g==NameKind.free&&env.scope.kind == .function&&env.kindOf n==J .cell)=I then(n,NameKind.cell)else(n,g))::_)=_
  cases a:x==n with
  |true =>
   have e:x=n:=by simpa using a
   subst e;simp only[Fe,a]at h;cases h;by_cases z:k=.free/\env.kindOf x=J .cell
   .rw[c_ (by simp[z.1,z.2,o]),c_ z];simp
   .rw[f_ (by simp[o];intro s t;exact z ⟨s,t⟩),f_ z];simp
  |false =>
   simp only[Fe,a]at h;by_cases j:(g==NameKind.free&&env.scope.kind == .function&&env.kindOf n==J .cell)=I
   .rw[c_ j];simp only[Fe,a];exact l h
   .rw[f_ j];simp only[Fe,a];exact l h
def eM(X:Cx)(a:Scope)(cl:List (Str×Addr))(e:Shared)(g:Hp)(i:SM)(j:R5):Cx :=
 { X with N:=j,s₀:=e,H₀:=g,env:=compEnvC a cl e.heap.objs.size X.env,outer:=X.stack,ex:=i,fn:=λx=>decide (a.names.lookup x=J .cell),pn:=[],xe:=λ_ _=>False}
structure B0(X:Cx)(N:R5)(scope:Scope)(vars frees:R5)(fm:R8):Prop where
 kind:scope.kind=.function
 cell:∀y∈scope.names,y.2=.cell->scope.names.lookup y.1=J .cell
 names:∀y∈scope.names,y.2=.local->scope.names.lookup y.1=J .local
 hv:∀x∈vars,scope.names.lookup x=J .local\/scope.names.lookup x=J .cell
 hf:∀x∈frees,scope.names.lookup x=J .free
 all:∀y∈scope.names,y.2=.free->y.1∈frees
 fm:fm.map (λi=>N[i]?)=frees.map J
 cl:∀x∈frees,X.env.kindOf x=J .cell
def EF(a:Nat)(fm:R8)(Z:l_):l_:=List.replicate a Y++fm.map λi=>(Z[i]?).getD Y
def BK(a:MIt)(n:Nat)(gt:Mg)(mt:Mx Bool)(g:Mx PV):R4->l_->MH->Out Unit
 |[],_,h=>if a.ok h then .ok () h else .bad
 |x::r,Z,h=>if a.ok h then (match gt x Z h with
  |.nx e l=>(mt e l).ne.bind λb j=>if b=I then (g e j).ne.bind λv i=>(match i[n]? with
    |some (.lst ys)=>if ys.length<sizeLine then BK a n gt mt g r e (i.set n (.lst (ys++[v])))else .bad
    |_=>.bad)else BK a n gt mt g r e j
  |_=>.bad)else .bad
def bF(l:Nat)(fm:R8)(i:Mx MIt)(gt:Mg)(mt:Mx Bool)(g:Mx PV):Mx PV:=λZ h =>
 (i Z h).bind λe a=>(BK e a.length gt mt g e.xs (EF l fm Z) (a++[.lst []])).bind λ_ j=>.ok (.loc a.length) j
def Ja(X:Cx)(a:SW)(m:Mx Bool):Prop :=
 ∀(e:SS)(s:Shared)(Z:L2.St)(H:Hp)(Q:Bool->Hp->Prop),Inv X e Z H s->tM X LY m Z H Q ->
  wpAny (model X.prog X.w) X.A (forIn a I λc r=>if r=I then do let ok <-isTrue c X.env (eval c X.env);pure (ForInStep.yield ok)else pure (ForInStep.yield r)) (TP X e Z Q) X.xe s
def oy:Mx Bool:=λ_ h=>.ok I h
def fK:Ja X [] oy:=λi s Z H Q a ⟨U,e,h,j,g,q⟩=>wpAny_tests_nil ⟨H,a,q U H I (Le.refl _ _) g rfl⟩
def dN(h:MT X c m):Ja X [c] m:=λe s Z H Q a q=>wpAny_tests_one (h e s Z H Q a q)
inductive CS(X:Cx)(U:SM)(H:Hp)(σp:l_)(gt:Mg)(mt:Mx Bool)(me:Mx PV)(Z0:l_)(Q:VK)(J:It)(H1:Hp):Prop
 |mk(U1:SM)(it:MIt)(h1:MH)(l:Le U H U1 H1)(rh:RH X.K X.mg U1 H1 h1)(j:rB X U1 H1 it J)(q:Ful X (RV' X) σp U1 H1 ((BK it h1.length gt mt me it.xs Z0 (h1++[.lst []])).bind λ_ h3=>.ok (.loc h1.length) h3) Q):CS X U H σp gt mt me Z0 Q J H1
inductive CI(X Y:Cx)(it:MIt)(tn:Nat->Heap->Prop)(fp U0:SM)(H0:Hp)(σp:l_)(n1:Nat)(gt:Mg)(mt:Mx Bool)(me:Mx PV)(Q:VK)(n:Nat)(s6:Shared):Prop
 |mk(i:Nat)(Z6:L2.St)(H6:Hp)(U6:SM)(σp6:l_)(h6:MH)(e:n=it.xs.length-i)(l:i<=it.xs.length)(v:Inv Y [] Z6 H6 s6)(t:tn i s6.heap)(f:∀b∈fp,H6 b=none)(le:Le U0 H0 U6 H6)(rs:RS X.K U6 H6 σp6 Z6)(rh:RH X.K X.mg U6 H6 h6)
   (q:Ful X (RV' X) σp U6 H6 ((BK it n1 gt mt me (it.xs.drop i) σp6 h6).bind λ_ h3=>.ok (.loc n1) h3) Q):CI X Y it tn fp U0 H0 σp n1 gt mt me Q n s6
def ua(g:Q (newEnv scope s.heap.objs.size globals (cellsFrom (s.heap.objs.size+1) scope.names closure) qual Y .none (J env) builtinsNs) { s with heap:=pushCells (s.heap.push { cls:=.type "dict",data:=.dict #[]}) scope.names}):
  wpAny M A (newFunctionEnv scope globals closure [] qual Y .none (J env)) Q E s:=by
 simp only[newFunctionEnv,Option.isSome_some,if_true];refine d_ (wpAny_alloc ?_);refine d_ (wpAny_layCells _ (λe kind a=>by cases i:kind==NameKind.cell<;>simp) _ _ _ _ ?_);rw[show({ s with heap:=s.heap.push { cls:=.type "dict",data:=.dict #[]}}:Shared).heap.objs.size=s.heap.objs.size+1 from DP ..];exact d_ (il (il g))
def dM:∀(names:List (Str×NameKind))(n:Nat)(a:List (Str×Addr)),cellsFrom n names a=cellsFrom n names []++a
 |[],n,a=>rfl
 |(x,k)::r,n,a=>by
  unfold cellsFrom;split
  .rw[dM r (n+1) ((x,n)::a),dM r (n+1) [(x,n)]];simp
  .exact dM r n a
def fZ:∀(names:List (Str×NameKind))(n:Nat)(x:Str),(∃c,(x,c)∈cellsFrom n names [])↔(x,NameKind.cell)∈names
 |[],n,x=>by simp[cellsFrom]
 |(y,k)::r,n,x=>by
  unfold cellsFrom;split
  .rename_i i
   have g:k=NameKind.cell:=by simpa using i
   subst g;rw[dM];constructor
   .rintro⟨c,a⟩;rcases n9.mp a with a|a
    .exact oh _ ((fZ r (n+1) x).mp ⟨c,a⟩)
    .have:x=y:=by simp at a;exact a.1
     rw[this];exact BD
   .intro h;rcases nk.mp h with e|h
    .have:x=y:=by simpa using e
     subst this;exact⟨n,n4 _ (by simp)⟩
    .obtain⟨c,a⟩:=(fZ r (n+1) x).mpr h;exact⟨c,C7 _ a⟩
  .rw[fZ r n x];constructor
   .exact oh _
   .intro h;rcases nk.mp h with e|h
    .exfalso
     grind
    .exact h
def oV{α:Type}:∀(a b:List (Str×α))(x:Str),(a++b).lookup x=(a.lookup x).or (b.lookup x):= by grind
def BS{α:Type}:∀(a:List (Str×α))(x:Str),a.lookup x=Y->∀c,(x,c)∉a:= by grind
section
variable{X:Cx}{N W G:R5}{k:Nat}
def sL(g:Good X N W G k){tg as cb:Expr}{cd:SW}{t:Scope}{dF:Pos}{B frees G':R5}{fm:R8}{mi:Mx MIt}{gt:Mg}{mt:Mx Bool}{me:Mx PV}(C:B0 X N t B frees fm)(nd:(B++frees).Nodup)(g4:∀x∈G',t.names.lookup x=J .globalImplicit)(dbg:∀x∈(B++frees)++G',(x==("__debug__":Str))=T/\(x==("__classdict__":Str))=T/\x≠"__name__")(hi:MI X tg as mi)(hY:∀ab:Cx,ab.prog=X.prog->ab.w=X.w->ab.K=X.K->ab.mg=X.mg->ab.base=X.base->ab.env.scope=relabel t X.env->Good ab (B++frees) B G' k->MG ab tg gt/\Ja ab cd mt/\ME ab cb me)(hs:∀x,foldedSetIterable as X.env x=pure x){use:Option (Value->Sem Unit)}{Qv:SA}{pp:Pos}{Kt:SS}{s:Shared}{Z:L2.St}{H:Hp}{Q:VK}(dc:Inv X Kt Z H s)(tm:tM X (RV' X) (bF B.length fm mi gt mt me) Z H Q)(fin:∀(eC C:Addr) (H6:Hp) (s7:Shared) (m7:SD),Inv X Kt Z H6 s7->H6 C=Y->s7.heap.Ns C m7->C≠X.env.locals->X.s₀.heap.objs.size<=C->C∉X.fs->(∀x c,X.env.cells.lookup x=J c->c≠C)->(∀p∈X.pn++Kt,p.1≠C)->Q (.ref eC) H6 ->
   compPost (model X.prog X.w) X.A X.xe use Qv (.ref eC) C (.ok .next) s7):
  wpAny (model X.prog X.w) X.A (comprehension (.ListComp cb [⟨tg,as,cd,0⟩] t dF) t X.env pp (newList []) T (eval as X.env) use) Qv X.xe s:=by
 obtain⟨U,al,h,rs,rh,q⟩:=tm;have bv:∀y∈t.names,y.2=.free->∃c,X.env.cells.lookup y.1=J c:=λy hy e=>dc.ok.has y.1 (.inl (C.cl _ (C.all y hy e)));refine wpAny_comprehension_free (use:=use) rfl hs (uh bv) C.kind C.names ?_;generalize c8:kG X.env t.names []=cl;have eF:∀x a,cl.lookup x=J a->X.env.cells.lookup x=J a\/((X.env.cells.lookup x)=Y/\a=0):=λx a e=>by
  rw[<-c8]at e
  have:=(oC (env:=X.env) (x:=x) t.names [] (λa z=>by simp at z)).1 a e
  cases z:X.env.cells.lookup x with
  |none=>right;rw[z]at this;exact⟨rfl,this⟩
  |some c=>left;rw[z]at this;rw[this];rfl
 have eL:∀x∈frees,∃c,cl.lookup x=J c/\X.env.cells.lookup x=J c:=λx hx=>by
  obtain⟨c,hc⟩:=dc.ok.has x (.inl (C.cl x hx));have hm:(∃kk,(x,kk)∈t.names/\kk=.free):=⟨.free,PySem.mem_of_lookup (C.hf x hx),rfl⟩;obtain⟨a,ha⟩:=(oC (env:=X.env) (x:=x) t.names [] (λa z=>by simp at z)).2 (.inl hm);rw[c8]at ha;rcases eF x a ha with z|⟨z,_⟩
  .rw[hc]at z;cases z;exact⟨c,ha,hc⟩
  .rw[hc]at z;cases z
 have d1:∀x a,cl.lookup x=J a->X.env.cells.lookup x=J a/\x∈frees:=λx a e=>by
   have only:∀(l:List (Str×NameKind))(cs:List (Str×Addr))(x:Str)(a:Addr),(kG X.env l cs).lookup x=J a->(x,NameKind.free)∈l\/cs.lookup x=J a:=by
    intro l
    induction l with
    |nil=>intro cs x a e;exact .inr e
    |cons y l ih =>
     intro cs x a e;obtain⟨n,kk⟩:=y;rcases ih _ x a e with z|z
     .exact .inl (oh _ z)
     .split at z
      .rename_i hk
       have hz:kk=NameKind.free:=by simpa using hk
       rw[Fe]at z
       split at z
       .rename_i e'
        have:x=n:=by simpa using e'
        subst this;subst hz;exact .inl BD
       .exact .inr z
      .exact .inr z
   have e':=e;rw[<-c8]at e';rcases only _ _ x a e' with z'|z'
   .refine⟨?_,C.all _ z' rfl⟩;rcases eF x a e with z|⟨z,_⟩
    .exact z
    .obtain⟨c,hc⟩:=bv _ z' rfl;rw[z]at hc;cases hc
   .simp at z'
 have start:=hi Kt s Z H (CS X U H al gt mt me (EF B.length fm al) Q) dc
  ⟨U,al,h,rs,rh,Ful.bind q λU1 H1 it f3 h1 _ l1 cp jr q1=>⟨U1,it,h1,l1,cp,jr,q1⟩⟩
 refine wpAny_mono start (λx hC eh=>wpAny_mono eh (λhF F es=>?_) λ_ _ e=>e) λ_ _ e=>e;obtain⟨fi,fp,tn,f3,H2,rfl,I2,S,d5,f2,U1,it,h1,l1,cp,jr,q1⟩:=es;refine wpAny_newObj_type ?_;have ge:H2 F.heap.objs.size=Y:=I2.hok.fresh (i3 _);have M:=I2.lnew (ys:=[]) (its:=[]) (t':=F.toks) .nil (vl _);obtain⟨ey,l3⟩:=cp.new ge (o:=.lst []) (ho:=.lst []) ⟨[],rfl,.nil⟩;generalize g2:({ F with heap:=F.heap.push { cls:=.type "list",data:=.seq ([]:SQ).toArray},toks:=F.toks}:Shared)=E at M;generalize e9:k_ H2 F.heap.objs.size (.lst [])=L at M ey l3;have hA:L F.heap.objs.size=J (.lst []):=by rw[<-e9];exact bI
 have f0:E.heap=F.heap.push { cls:=.type "list",data:=.seq ([]:SQ).toArray}:=by rw[<-g2]
 have cf:tn 0 E.heap:=S.keep _ _ _ d5 λb _ o e=>by rw[f0];exact ls _ e
 have b6:∀b∈fp,iL X Kt L b:=λb R=>by
  obtain⟨a0,a1⟩:=f2 b R;refine⟨?_,a1⟩;obtain⟨o,eo,_⟩:=S.obj _ _ d5 b R;rw[<-e9,aS (qp (ml eo))];exact a0
 have dn:wpAny (model X.prog X.w) X.A (newFunctionEnv t X.env.globals cl [] X.env.qual Y .none (J X.env)) (λBB ep =>
    codeAny (model X.prog X.w) X.A (.compStart (.ListComp cb [⟨tg,as,cd,0⟩] t dF) 0 (.ref fi) (.ref F.heap.objs.size) { BB with scope:=relabel t X.env}) (compPost (model X.prog X.w) X.A X.xe use Qv (.ref F.heap.objs.size) BB.locals) ep) X.xe E:=by
  refine ua ?_;have O:∀b o,E.heap.get? b=J o->(pushCells (E.heap.push { cls:=.type "dict",data:=.dict #[]}) t.names).get? b=J o:=λb o e=>pushCells_keeps _ _ b o (ls _ e);have d2:=(Heap.Ns.new E.heap (.type "dict")).keeps (pushCells_keeps t.names _);have ca:=cellsFrom_ok t.names (E.heap.push { cls:=.type "dict",data:=.dict #[]}) (E.heap.objs.size+1) [] ⟨λ_ _ hm=>(nomatch hm),List.Pairwise.nil⟩ (by rw[DP];exact i3 _);rw[DP]at ca;rw[dM];have cm:=fZ t.names (E.heap.objs.size+1);generalize cellsFrom (E.heap.objs.size+1) t.names []=cn at ca cm ⊢;generalize pushCells (E.heap.push { cls:=.type "dict",data:=.dict #[]}) t.names=h' at O d2 ca ⊢;dsimp only[newEnv];have a7:∀x c,(cn++cl).lookup x=J c->((x,c)∈cn/\t.names.lookup x=J .cell/\E.heap.objs.size<c/\h'.IsCell c Y)\/(X.env.cells.lookup x=J c/\t.names.lookup x=J .free):=λx c e=>by
   rw[oV]at e
   cases z:cn.lookup x with
   |some c' =>
    rw[z]at e
    have:c'=c:=by simpa using e
    subst this;have m:=PySem.mem_of_lookup z;obtain⟨q1,q2⟩:=ca.empty x c' m;exact .inl ⟨m,C.cell _ ((cm x).mp ⟨c',m⟩) rfl,q2,q1⟩
   |none =>
    rw[z]at e;obtain⟨q1,q2⟩:=d1 x c (by simpa using e);exact .inr ⟨q1,C.hf x q2⟩
  have et:∀x c,x∈frees->cl.lookup x=J c->(cn++cl).lookup x=J c:=λx c hx e=>by
   rw[oV]
   cases z:cn.lookup x with
   |none=>simpa using e
   |some c' =>
    have:=C.cell _ ((cm x).mp ⟨c',PySem.mem_of_lookup z⟩) rfl
    rw[C.hf x hx]at this;cases this
  have old:∀x c,X.env.cells.lookup x=J c->c<E.heap.objs.size:=λx c e=>by
   obtain⟨v,qc⟩:=M.cell x c e;exact qc.lt
  have ok:(eM X t (cn++cl) E L fp (B++frees)).Ok:=by
   refine⟨M.ok.mod,C.kind,M.ok.glob,M.ok.blt,i3 _,λx y c h1 h2=>?_,λx hx=>?_,λx c hx e=>?_,M.ok.hd,M.ok.frames,.inl rfl,
    λb R=>⟨?_,λx c e z=>?_⟩,M.bs,tx M.ok.bsz M.sz,λb o e R=>?_,λb R z=>?_,M.stack,M.stkFree⟩
   .rcases a7 x c h1 with⟨a1,_,a2,_⟩|⟨a1,_⟩<;>rcases a7 y c h2 with⟨b1,_,b2,_⟩|⟨b1,_⟩
    .exact PySem.name_of_addr ca.apart a1 b1
    .exact absurd (NI a2 (old y c b1)) (DH _)
    .exact absurd (NI b2 (old x c a1)) (DH _)
    .exact M.ok.inj x y c a1 b1
   .
    have b4:(relabel t X.env).names.lookup x=J .cell\/(relabel t X.env).names.lookup x=J .free:=hx
    cases e:t.names.lookup x with
    |none =>
     exfalso;have nn:∀(l:List (Str×NameKind)),l.lookup x=Y->(l.map λ(n,k)=>if(k==NameKind.free&&X.env.scope.kind == .function&&X.env.kindOf n==J .cell)then(n,NameKind.cell)else(n,k)).lookup x=Y:=by
      intro l
      induction l with
      |nil=>intro _;rfl
      |cons y l ih =>
       intro hl;obtain⟨n,kk⟩:=y;rw[Fe]at hl
       split at hl
       .cases hl
       .rename_i gy
        rw[wj];dsimp only
        split<;>(rw[Fe];simp only[gy];exact ih hl)
     have e2:=nn t.names e;rcases b4 with z|z
     .rw[show(relabel t X.env).names.lookup x=Y from e2]at z;cases z
     .rw[show(relabel t X.env).names.lookup x=Y from e2]at z;cases z
    |some kk =>
     have e2:=cP (env:=X.env) M.ok.kind e;have hk:kk=.free\/kk=.cell:=by
      rcases b4 with z|z
      .rw[show(relabel t X.env).names.lookup x=_ from e2]at z;have z':=Option.some.inj z;by_cases zz:kk=.free/\X.env.kindOf x=J .cell
       .exact .inl zz.1
       .rw[f_ zz]at z';exact .inr z'
      .rw[show(relabel t X.env).names.lookup x=_ from e2]at z;have z':=Option.some.inj z;by_cases zz:kk=.free/\X.env.kindOf x=J .cell
       .exact .inl zz.1
       .rw[f_ zz]at z';exact .inl z'
     rcases hk with hk|hk
     .subst hk;have hf:=C.all _ (PySem.mem_of_lookup e) rfl;obtain⟨c,h1,_⟩:=eL x hf;exact⟨c,et x c hf h1⟩
     .subst hk;obtain⟨c,hc⟩:=(cm x).mpr (PySem.mem_of_lookup e);show ∃c,(cn++cl).lookup x=J c;rw[oV]
      cases z:cn.lookup x with
      |some c'=>exact⟨c',rfl⟩
      |none=>exact absurd hc (BS cn x z c)
   .have b4:=of_decide_eq_true hx;rcases a7 x c e with⟨_,_,q,_⟩|⟨_,q⟩
    .exact Fh q
    .rw[q]at b4;cases b4
   .obtain⟨o,eo,_⟩:=S.obj _ _ cf b R;exact qp (ml eo)
   .rcases a7 x c e with⟨_,_,q,_⟩|⟨q,_⟩
    .obtain⟨o,eo,_⟩:=S.obj _ _ cf b R;exact absurd (NI q (z▸ml eo)) (DH _)
    .exact (b6 b R).2.2.2.2.1 x c q z
   .obtain⟨_,_,_,h4,_⟩:=b6 b R;rcases h4 with h4|h4
    .exact M.ok.noex b o e h4
    .exact absurd (y_ (ml e) (tx M.ok.bsz h4)) (DH _)
   .obtain⟨_,h2,h3,_⟩:=b6 b R;rcases nk.mp (M.stkSub b z)with e|e
    .exact h2 e
    .exact h3 e
  obtain⟨mX,hH,lX⟩:=M.loc;have f7:Le U H (U1++[F.heap.objs.size]) L:=l1.trans l3
  let ay:L2.St:=List.replicate B.length Y++fm.map λi=>(Z[i]?).getD Y
  have g0:fm.length=frees.length:=by have:=congrArg List.length C.fm;simpa using this
  have ec:Inv (eM X t (cn++cl) E L fp (B++frees)) [] ay L { E with heap:=h',toks:=E.toks}:=by
   refine⟨ok,rfl,M.bare,Un.kept O,⟨_,d2,λi x v hN hv hB=>?_⟩,λx c e=>?_,?_,λx c e=>?_,λp hp=>absurd (show p∈([]:SS)from hp) (by simp),M.hok.kept O,?_⟩
   .have c6:(B++frees)[i]?=J x:=hN;have er:B.length<=i:=by
     by_cases z:B.length<=i
     .exact z
     .exfalso;have ax:ay[i]?=J (J v):=hv;rw[yS (by simp;ext),Kz]at ax
      split at ax<;>cases ax
    have ax:ay[i]?=J (J v):=hv;rw[DG (by simpa using er),K9,yT]at ax;rw[DG er]at c6
    cases ej:fm[i-B.length]? with
    |none=>rw[ej]at ax;cases ax
    |some j =>
     rw[ej]at ax;have ef:=congrArg (λl=>l[i-B.length]?) C.fm;simp only[yT,ej,c6,Lh]at ef;have hq:N[j]?=J x:=by simpa using ef
     have ev:Z[j]?=J (J v):=by
      have:(Z[j]?).getD Y=J v:=by simpa using ax
      cases z:Z[j]? with
      |none=>rw[z]at this;cases this
      |some o=>rw[z]at this;simp at this;rw[this]
     have hx:x∈frees:=Dm c6;have fl:NL X.env.scope x:=.inr (.inl (C.cl x hx));obtain⟨u,ru,eu⟩:=lX j x v (by rw[g.hN];exact hq) ev fl;refine⟨u,ru,.inr ⟨?_,?_⟩⟩
     .left;show(relabel t X.env).names.lookup x=J .cell
      have:=cP (env:=X.env) M.ok.kind (C.hf x hx)
      rw[c_ ⟨rfl,C.cl x hx⟩]at this;exact this
     .rcases eu with⟨hk,_⟩|⟨_,c,hc,c9⟩
      .rw[C.cl x hx]at hk;cases hk
      .obtain⟨c',h1,h2⟩:=eL x hx;rw[hc]at h2;cases h2;obtain⟨o,eo,ed⟩:=c9;exact⟨c,et x c hx h1,o,O _ _ eo,ed⟩
   .rcases a7 x c e with⟨_,_,_,q⟩|⟨q,_⟩
    .exact⟨Y,q⟩
    .obtain⟨v,o,eo,ed⟩:=M.cell x c q;exact⟨v,o,O _ _ eo,ed⟩
   .exact M.hok.fresh (i3 _)
   .rcases a7 x c e with⟨_,_,q,_⟩|⟨q,_⟩
    .exact M.hok.fresh (Fh q)
    .exact M.freeC x c q
   .show ay.length=(B++frees).length;simp[ay,g0]
  have gY:Good (eM X t (cn++cl) E L fp (B++frees)) (B++frees) B G' k:=by
   refine⟨rfl,nd,λx hx=>?_,λx hx=>?_,λx hx=>?_,dbg,g.calm,g.room,PassesOwn.never⟩
   .rcases n9.mp hx with z|z
    .rcases C.hv x z with z|z
     .left
      have:=cP (env:=X.env) M.ok.kind z
      rw[f_ (λq=>nomatch q.1)]at this;exact this
     .right
      have:=cP (env:=X.env) M.ok.kind z
      rw[f_ (λq=>nomatch q.1)]at this;exact this
    .right
     have:=cP (env:=X.env) M.ok.kind (C.hf x z)
     rw[c_ ⟨rfl,C.cl x z⟩]at this;exact this
   .rcases C.hv x hx with z|z
    .right
     have:=cP (env:=X.env) M.ok.kind z
     rw[f_ (λq=>nomatch q.1)]at this;exact this
    .exact .inl (decide_eq_true z)
   .have:=cP (env:=X.env) M.ok.kind (g4 x hx)
    rw[f_ (λq=>nomatch q.1)]at this;exact this
  obtain⟨hg,ht,he⟩:=hY (eM X t (cn++cl) E L fp (B++frees)) rfl rfl rfl rfl rfl rfl gY;have hj:RS X.K (U1++[F.heap.objs.size]) L (EF B.length fm al) ay:=by
   refine⟨by simp[ay,EF],λi v e=>?_⟩;unfold EF at e;by_cases z:B.length<=i
   .rw[DG (by simpa using z),K9,yT]at e
    cases ej:fm[i-B.length]? with
    |none=>rw[ej]at e;cases e
    |some j =>
     rw[ej]at e;have ev:al[j]?=J (J v):=by
      have:(al[j]?).getD Y=J v:=by simpa using e
      cases z:al[j]? with
      |none=>rw[z]at this;cases this
      |some o=>rw[z]at this;simp at this;rw[this]
     obtain⟨v',e',rv⟩:=rs.2 j v ev;refine⟨v',?_,rv.le f7⟩;show ay[i]?=_;rw[DG (by simpa using z),K9,yT,ej];simp[e']
   .rw[yS (by simp;ext),Kz]at e
    split at e<;>cases e
  have q3:Ful X (RV' X) al (U1++[F.heap.objs.size]) L ((BK it h1.length gt mt me it.xs (EF B.length fm al) (h1++[.lst []])).bind λ_ h3=>.ok (.loc h1.length) h3) Q:=Ful.le l3 q1;have bf:(U1++[F.heap.objs.size])[h1.length]?=J F.heap.objs.size:=by rw[<-cp.len];simp
  have c3:∀b3:Shared,b3={ E with heap:=h',toks:=E.toks}->codeAny (model X.prog X.w) X.A (.compLoop (.ListComp cb [⟨tg,as,cd,0⟩] t dF) 0 (.ref fi) (.ref F.heap.objs.size) (compEnvC t (cn++cl) E.heap.objs.size X.env))
    (compPost (model X.prog X.w) X.A X.xe use Qv (.ref F.heap.objs.size) E.heap.objs.size) b3:=by
   rintro b3 rfl;refine v9 (CI X (eM X t (cn++cl) E L fp (B++frees)) it tn fp (U1++[F.heap.objs.size]) L al h1.length gt mt me Q) ?_ it.xs.length
    ⟨0,ay,L,_,_,_,rfl,vl _,ec,S.keep _ _ _ cf (λb _ o e=>O b o e),λb R=>(b6 b R).1,Le.refl _ _,hj,ey,by simpa using q3⟩
   rintro n s6 ⟨i,Z6,H6,U6,bm,h6,rfl,hG,I6,e6,en,l6,gn,dd,q6⟩;have bx:∀{H':Hp},(∀b∈fp,H' b=Y)->∀b∈fp,iL (eM X t (cn++cl) E L fp (B++frees)) [] H' b:=λ{H'} hn b R =>
    ⟨hn b R,(ok.exf b R).1,ok.exfs b R,.inl R,(ok.exf b R).2,λp hp=>absurd (show p∈([]:SS)from hp) (by simp)⟩
   by_cases b5:i<it.xs.length
   .have ed:it.xs.drop i=it.xs[i]::it.xs.drop (i+1):=Ox b5;rw[ed]at q6;simp only[BK]at q6;by_cases hok:it.ok h6
    .rw[c_ hok]at q6;obtain⟨j1,_⟩:=jr U6 H6 h6 i (l3.trans l6) dd hok;obtain⟨go,yl⟩:=j1 b5;refine lf (S.item (eM X t (cn++cl) E L fp (B++frees)) rfl rfl rfl g.calm i [] s6 Z6 H6 (λ_ _=>False) I6 (bx en) e6 go) λr s7 ⟨u,hr,h7⟩=>?_;subst hr;refine lf h7 λ_ s8 ⟨x8,H8,I8,r8,y8,dV,g5⟩=>?_;obtain⟨U8,x,l8,f4,ex,rx⟩:=yl x8 H8 y8;have hu:x=it.xs[i]:=by rw[C5 b5]at ex;exact(Option.some.inj ex).symm
     subst hu;have g1:=I8.pinned (bx g5) (S.obj _ _ dV);have q8:=Ful.le l8 q6;have c0:∀{Z9:L2.St}{H9:Hp}{s9:Shared},Inv (eM X t (cn++cl) E L fp (B++frees)) ([]++ng fp s8.heap) Z9 H9 s9->Inv (eM X t (cn++cl) E L fp (B++frees)) [] Z9 H9 s9/\tn (i+1) s9.heap/\∀b∈fp,H9 b=Y:=λ{Z9 H9 s9} I9=>by
      refine⟨I9.unpinned,S.keep _ _ _ dV λb R o e=>(I9.pin (b,o) (n4 _ (n4 _ (iq R e)))).1,λb R=>?_⟩;obtain⟨o,e,d⟩:=S.obj _ _ dV b R;exact(I9.pin (b,o) (n4 _ (n4 _ (iq R e)))).2.1
     cases eg:gt it.xs[i] bm h6 with
     |nx P h9 =>
      rw[eg]at q8;dsimp only at q8
      refine lf (hg _ s8 Z6 H8 x8 u (λZ' H'=>∃U',Le U8 H8 U' H'/\RH X.K X.mg U' H' h9/\RS X.K U' H' P Z') g1 r8 ⟨U8,bm,h6,_,gn.le l8,f4,rx,by
       show oY _ _ _ (gt it.xs[i] bm h6) _
       rw[eg];exact λU' H' Z' l r s=>⟨U',l,r,s⟩⟩) λ_ s9 ⟨Z9,H9,I9,U9,l9,gV,cc⟩=>?_
      have q9:=Ful.le l9 q8
      cases em:mt P h9 with
      |ok b a9 =>
       rw[em,Out.ne_ok]at q9;rw[Out.bind_ok]at q9
       refine lf (ht _ s9 Z9 H9 (λb' H'=>b'=b/\∃U',Le U9 H9 U' H'/\RH X.K X.mg U' H' a9) I9 ⟨U9,P,h9,cc,gV,by
        show Ful _ _ _ _ _ (mt P h9) _
        rw[em];exact λU' H' v' l r e=>⟨e.symm,U',l,r⟩⟩) λb' f6 ⟨c7,e0,eb,dx,a8,c1⟩=>?_
       subst eb;have an:=Ful.le a8 q9
       cases b' with
       |false =>
        rw[f_ Ld]at an ⊢;obtain⟨ea,fa,fk⟩:=c0 e0;exact⟨_,by ext,i+1,Z9,c7,dx,P,a9,rfl,b5,ea,fa,fk,l6.trans (l8.trans (l9.trans a8)),cc.le a8,c1,an⟩
       |true =>
        rw[c_ rfl]at an ⊢
        cases ee:me P a9 with
        |ok v e7 =>
         rw[ee,Out.ne_ok]at an;rw[Out.bind_ok]at an
         refine lf (he _ f6 Z9 c7 (λv' H'=>∃U',Le dx c7 U' H'/\RH X.K X.mg U' H' e7/\RP X.K U' H' v v') e0 ⟨dx,P,a9,cc.le a8,c1,by
          show Ful _ _ _ _ _ (me P a9) _
          rw[ee];exact λU' H' v' l r e=>⟨U',l,r,e⟩⟩) λf1 f5 ⟨v',c4,hw,el,d0,dt,c2,ei⟩=>?_
         have a3:=Ful.le dt an;have bt:Le (U1++[F.heap.objs.size]) L d0 c4:=l6.trans (l8.trans (l9.trans (a8.trans dt)));obtain⟨oa,gg,hh⟩:=c2.obj (bt.get bf);rw[gg]at a3
         cases oa with
         |dic hE=>exact a3.elim
         |exc x=>exact a3.elim
         |lst ys =>
          dsimp only at a3;by_cases b0:ys.length<sizeLine
          .rw[c_ b0]at a3;obtain⟨c5,g3,ry⟩:=hh;obtain⟨ez,ds⟩:=c2.put (bt.get bf) (o:=.lst (ys++[v])) (ho:=.lst (c5++[v'])) ⟨_,rfl,ry.append (.cons ei .nil)⟩;have ap:=sU (X:=eM X t (cn++cl) E L fp (B++frees)) _ f5 Z9 c4 (.ref F.heap.objs.size) [v'] (.ref F.heap.objs.size) [f1] (λ_ H'=>H'=k_ c4 F.heap.objs.size (.lst (c5++[v']))) hw rfl (.cons el .nil) ⟨F.heap.objs.size,c5,v',rfl,rfl,g3,by rw[<-ry.length];exact b0,rfl⟩;refine lf ap λ_ hK ⟨_,hD,f8,_,eH⟩=>?_;subst eH;obtain⟨eq,ek,ew⟩:=c0 f8;exact⟨_,by ext,i+1,Z9,_,d0,P,_,rfl,b5,eq,ek,ew,bt.trans ds,(cc.le a8).le (dt.trans ds),ez,Ful.le ds a3⟩
          .rw[f_ b0]at a3;exact a3.elim
        |exc x e7=>rw[ee]at an;exact an.elim
        |bad=>rw[ee]at an;exact an.elim
      |exc x a9=>rw[em]at q9;exact q9.elim
      |bad=>rw[em]at q9;exact q9.elim
     |_=>rw[eg]at q8;exact q8.elim
    .rw[f_ hok]at q6;exact q6.elim
   .have e:i=it.xs.length:=by ext
    rw[e,List.drop_length]at q6;simp only[BK]at q6;by_cases hok:it.ok h6
    .rw[c_ hok]at q6;obtain⟨_,j2⟩:=jr U6 H6 h6 i (l3.trans l6) dd hok;refine lf (S.done (eM X t (cn++cl) E L fp (B++frees)) rfl rfl rfl g.calm i [] s6 Z6 H6 (λ_ _=>False) I6 (bx en) e6 (j2 (by ext))) λr s7 ⟨hr,I7⟩=>?_;subst hr;obtain⟨m7,gx,_⟩:=I7.loc;have IX:=M.call' (s':=s7) (ch:=fp) I7.os I7.base I7.hok I7.bare λb R=>by
      obtain⟨_,a2,_,a4,a5,a6⟩:=b6 b R;exact⟨a4,a2,a5,a6⟩
     exact fin _ _ H6 s7 m7 IX I7.free gx (Dv M.lt) M.sz (M.nofs (i3 _)) (λx c e z=>by
      obtain⟨v,qc⟩:=M.cell x c e
      exact absurd qc.lt (by rw[z];exact DH _)) (λp hp z=>absurd (ml (M.pin p hp).1) (by rw[z];exact DH _)) (q6 U6 H6 _ (Le.refl _ _) dd (.loc (l6.get bf)))
    .rw[f_ hok]at q6;exact q6.elim
  exact codeAny_compStart_list (c3 _ rfl) (S.self X.A 0 _ _ _ (S.keep _ _ _ cf (λb _ o e=>O b o e)) (c3 _ rfl))
 exact dn
def FO(g:Good X N W G k){M l r:Expr}{t:SW}{j:Scope}{z:Pos}{i frees L:R5}{fm:R8}{P:Mx MIt}{gt:Mg}{mt:Mx Bool}{O:Mx PV}(C:B0 X N j i frees fm)(nd:(i++frees).Nodup)(F:∀x∈L,j.names.lookup x=J .globalImplicit)(dbg:∀x∈(i++frees)++L,(x==("__debug__":Str))=T/\(x==("__classdict__":Str))=T/\x≠"__name__")(R:MI X M l P)(hY:∀a:Cx,a.prog=X.prog->a.w=X.w->a.K=X.K->a.mg=X.mg->a.base=X.base->a.env.scope=relabel j X.env->Good a (i++frees) i L k->MG a M gt/\Ja a t mt/\ME a r O)(hs:∀x,foldedSetIterable l X.env x=pure x:=by intro _;rfl):ME X (.ListComp r [⟨M,l,t,0⟩] j z) (bF i.length fm P gt mt O):=by
 intro Kt s Z H Q B tm;refine sL g C nd F dbg R hY hs B tm λE D S s7 U IX hC ns hL hz al u hp q=>?_;refine⟨U,ns,λab y=>⟨.ref E,S,?_,rfl,q⟩⟩;exact IX.turned (t':=s7.toks) (λb o hb e=>y.extBut b o hb e) hC hL (.inr hz) u hp
def FP(g:Good X N W G k)(i:Nat){y:Str}{py B:Pos}{Q u E:Expr}{F:SW}{a:Scope}{O:Pos}{t frees G':R5}{fm:R8}{mi:Mx MIt}{gt:Mg}{mt:Mx Bool}{me:Mx PV}(M:N[i]?=J y)(hw:W[i]?=J y)(S:swapsWith (.ListComp E [⟨Q,u,F,0⟩] a O) (J (.Name y py)) B.line X.env=pure I)(C:B0 X N a t frees fm)(nd:(t++frees).Nodup)(ap:∀x∈G',a.names.lookup x=J .globalImplicit)(dbg:∀x∈(t++frees)++G',(x==("__debug__":Str))=T/\(x==("__classdict__":Str))=T/\x≠"__name__")(hi:MI X Q u mi)(hY:∀j:Cx,j.prog=X.prog->j.w=X.w->j.K=X.K->j.mg=X.mg->j.base=X.base->j.env.scope=relabel a X.env->Good j (t++frees) t G' k->MG j Q gt/\Ja j F mt/\ME j E me)(hs:∀x,foldedSetIterable u X.env x=pure x:=by intro _;rfl):MS X (.Assign [.Name y py] (.ListComp E [⟨Q,u,F,0⟩] a O) B) (aO i (bF t.length fm mi gt mt me)):=by
 intro Kt s Z H D al tm;obtain⟨U,an,h,rs,rh,q⟩:=tm;rw[exec_Assign_Name_used _ _ _ _ S];refine d_ (wpAny_standAt (d_ ?_))
 refine d_ (wpAny_mono (sL g C nd ap dbg hi hY hs al
  ⟨U,an,h,rs,rh,bK.ex q λU1 H1 v v' h1 l r z w=>w U1 H1 _ (Le.refl _ _) r ((rs.le l).set i z)⟩ λL P H6 s7 m7 IX hC ns hL hz as ab hp q6=>?_) (λ_ s' hq=>il (il hq)) λ_ _ e=>e)
 .obtain⟨o,es,ep,ho,hd,hr⟩:=id ns;have IP:Inv X (Kt++[(P,o)]) Z H6 s7:=IX.pins_of λp ax=>(n9.mp ax).elim (λz=>IX.pin p (n4 _ z)) λz=>by
   have e:p=(P,o):=by simpa using z
   subst e;exact⟨ho,hC,hL,as,λv z=>by rw[hd]at z;cases z⟩
  have st:=yj (pos:=py) (by rw[g.hN];exact g.nd) (g.x M) (g.loc y (aA M)) (g.fn y (aA hw)) (Kt++[(P,o)]) s7 Z H6 (.ref L) (.ref L) (λZ' H'=>Z'=Z.set i (J (.ref L))/\H'=H6) IP rfl ⟨rfl,rfl⟩;refine lf st λ_ s8 ⟨Z8,H8,I8,e1,e2⟩=>?_;subst e1;subst e2;have pn:=I8.pin (P,o) (n4 _ (n4 _ (by simp)));refine⟨m7,⟨o,es,ep,pn.1,hd,hr⟩,λay R=>⟨_,_,?_,q6⟩⟩;exact(I8.unpinned).turned (t':=s8.toks) (λb o hb e=>R.extBut b o hb e) hC hL (.inr hz) ab hp
end
@[inline]abbrev FQ:SQ:=[.type "ValueError",.type "Exception",.type "BaseException",.type "object"]
structure ER(K:ij)(mg:Dx)(x:Str)(C:Addr):Prop where
 bd:mg x=J (.ref C)
 ok:PySem.W.excIn K C FQ "ValueError.__new__"=I
abbrev rN(X:Cx)(x:Str)(C:Addr):Prop:=ER X.K X.mg x C
def re{K:ij}{h:Heap}{C:Addr}{s:SQ}{a:String}(t:K.In h)(q:PySem.W.excIn K C s a=I):
  ∃o N O q bs i H sub F g M z u E y B R,h.get? C=J (excClassObj O q C N bs o i H sub F g M z u E y B a)/\h.Ns N R/\R "__init__"=Y/\OwnTail h s o/\∀base r,PySem.W.mroIn K C base=J r->(Value.ref C::o).contains base=r:=by
 unfold PySem.W.excIn at q
 split at q
 .rename_i M cd sl P
  split at q
  .rename_i C' o z u E y n B X Q
   simp only[G8,beq_iff_eq,G4]at q;obtain⟨⟨⟨⟨⟨rfl,rfl⟩,j⟩,U⟩,hok⟩,L⟩:=q;obtain⟨O,bs,S,ns,Z,hd,H,sub,F,g,W⟩:=cd;subst X j;have G:sl=#[z,u,E,y,J (.builtin n),B]:=by obtain⟨l⟩:=sl;simp only at Q;rw[Q]
   subst G
   exact⟨o,ns,O,Z,bs,hd,H,sub,F,g,M,z,u,E,y,B,_,t _ _ P,.of_isNs (PySem.W.isNs_of_in t hok),PySem.W.nsMap_none_of_in t hok L,PySem.W.tail_of_in t U,λbase r e=>by
    unfold PySem.W.mroIn PySem.W.clsIn at e;rw[P]at e
    simpa using e⟩
  .cases q
 .cases q
section
variable{X:Cx}{N W G:R5}{k:Nat}
def kg(x:Str)(m:Mx (R4)):kl:=Dw m λa Z h=>if a.length<=sizeLine then .rse ⟨x,[]⟩ Z h else .bad
def CP(g:Good X N W G k){x:Str}{j:Nat}{C:Addr}(hj:G[j]?=J x)(P:rN X x C){e:Expr}{u:SW}{m:Mx (R4)}{np a S:Pos}(ha:MA X (e::u) m)(he:starEach (e::u) X.env=(T,eval e X.env)::starEach u X.env:=by rfl)(al:(backTo a (starEach u X.env)).any (·.1)=T:=by rfl):
  MS X (.Raise (J (.Call (.Name x np) (e::u) [] a)) Y S) (kg x m):=by
 intro Kt s Z H D i ⟨U,E,h,rs,rh,q⟩;have d:=g.dbg x (n4 _ (aA hj));obtain⟨bm,Nn,nm,qn,bs,B,sn,sub,ab,Q,dd,k0,k1,k2,k3,k5,mN,hC,hN,ap,M,_⟩:=re i.mod.kin P.ok;refine wpAny_Raise_call_subT (nm:=nm) (q:=qn) (N:=Nn) (bs:=bs) (hdct:=B) (sn:=sn) (sub:=sub) (ab:=ab) (col:=Q) (dd:=dd) (k0:=k0) (k1:=k1) (k2:=k2) (k3:=k3) (k5:=k5)
  PySem.F.excBase_ValueError (M.hasType PySem.F.excBase_ValueError.hasBase) (i.ok.hd g.calm) (by rw[he];show(T||(backTo a (starEach u X.env)).any (·.1))=T;rw[al];rfl) ap (rj i (g.gl x (aA hj)) P.bd ⟨rfl,?_⟩ d.1)
 have A:=ha a Kt s Z H (λvs t=>∃o xs L,Le U H o t/\RH X.K X.mg o t L/\RPs X.K o t xs vs/\bK X o t (if xs.length<=sizeLine then .rse ⟨x,[]⟩ E L else .bad) D) i
  ⟨U,E,h,rs,rh,bK.ex q λo t v v' L l r z w=>⟨o,v,L,l,r,z,w⟩⟩
 rw[he]at A ⊢;refine Calls.evalArgs_plain (wpAny_mono A (λus s2 ⟨vs,t,O,rv,o,xs,L,l1,an,rx,w⟩=>?_) λ_ _ y=>y);by_cases R:xs.length<=sizeLine
 .rw[c_ R]at w;refine⟨rfl,by rw[<-rv.length,<-rx.length];exact R,O.bk _ _ hC,hN.keeps O.bk,M.keeps O.bk,λh' ea F=>?_⟩;have I0:=Inv.unpinned (Kt:=[]) O;exact w ea C o t Z { s2 with heap:=h'} s2.heap us rfl P.bd (Le.refl _ _) an (rs.le l1) I0 F
 .rw[f_ R]at w;exact w.elim
def qU{M:Model}{A:Around}{E:SA}{h:Heap}{gn:Array GenState}{d:Drawn}{t:Nat}{os:OsState}{ea C D N1 N2:Addr}{Z:Obj}{u q1 U q2:Str}{S j F a:SQ}{P L:Bool}{y B:R5}{l g:SQ}{z O:Bool}{e o:Option Bool}{s R:Option Addr}{a0 a1 a2 a3 a5 b0 b1 b2 b3 b5:SU}{n1 n2:String}{Q:Bool->Shared->Prop}(hC:h.get? C=J (excClassObj u q1 C N1 S j P y l z e s a0 a1 a2 a3 a5 n1))(hD:h.get? D=J (excClassObj U q2 D N2 F a L B g O o R b0 b1 b2 b3 b5 n2))(he:h.get? ea=J Z)(i:Z.cls=.ref C)(hB:a.contains (.type "BaseException")=I)(r:(Value.ref C::j).contains (.ref D)=I)(hq:Q I ⟨h,gn,d,t,os⟩):wpAny M A (excMatches (.ref ea) (.ref D)) Q E ⟨h,gn,d,t,os⟩:=by
 have H:(Value.ref D::a).contains (.type "BaseException")=I:=by rw[List.contains_cons,hB,Bool.or_true]
 have f:=tc_notTuple
 repeat (first | (rw[i]) | with_reducible refine wpAny_loadPart_at hD ?_ | (with_reducible refine wpAny_isSubtype_exc hD ?_;rw[H]) | (with_reducible refine wpAny_isSubtype_exc hC ?_;rw[r]) | wp_step)
 exact hq
end
section
variable{X:Cx}{N W G:R5}{k:Nat}{Z:L2.St}{H:Hp}{s:Shared}
abbrev rl(X:Cx)(Kt:SS)(E:SA):Cx:={ X with pn:=X.pn++Kt,xe:=E}
def Jb(ok:X.Ok):(rl X Kt E).Ok :=
 ⟨ok.mod,ok.kind,ok.glob,ok.blt,ok.above,ok.inj,ok.has,ok.cab,ok.hd,ok.frames,ok.stk,ok.exf,ok.bs,ok.bsz,ok.noex,ok.exfs,ok.funs,ok.frf⟩
def Bv(ok:(rl X Kt E).Ok):X.Ok :=
 ⟨ok.mod,ok.kind,ok.glob,ok.blt,ok.above,ok.inj,ok.has,ok.cab,ok.hd,ok.frames,ok.stk,ok.exf,ok.bs,ok.bsz,ok.noex,ok.exfs,ok.funs,ok.frf⟩
def Inv.toPin(a:Inv X Kt Z H s):Inv (rl X Kt E) [] Z H s :=
 ⟨Jb a.ok,a.os,a.bare,a.base,a.loc,a.cell,a.free,a.freeC,λp e=>a.pin p (by simpa using e),a.hok,a.len⟩
def Inv.ofPin(a:Inv (rl X Kt E) [] Z H s):Inv X Kt Z H s :=
 ⟨Bv a.ok,a.os,a.bare,a.base,a.loc,a.cell,a.free,a.freeC,λp e=>a.pin p (by simpa using e),a.hok,a.len⟩
def qz{h a:Heap}{c:Addr}{v:SU}(i:h.UpToSlots a)(q:h.IsCell c v):a.IsCell c v:=by obtain⟨o,e,d⟩:=q;obtain⟨sl,g⟩:=i c o e (λj z=>by rw[d]at z;cases z);exact⟨_,g,d⟩
def Inv.flown(g:Inv X [] Z H s){B S P:Heap}(hB:B.StaysIn s.heap)(Q:B.StaysIn S)(y:s.heap.UpToSlots S)(F:EL X P)(C:QJ B (A_ X.stack) P)(R:∀b o,H b=J o->∃j,B.get? b=J j):Inv X [] Z H { s with heap:=S}:=by
 have kp:∀b o j,B.get? b=J j->s.heap.get? b=J o->S.get? b=J o:=λb o j e1 e2=>by
  have:=vw hB e1 e2
  subst this;exact Q b j e1
 have nl:∀b o,X.s₀.heap.get? b=J o->b≠X.env.locals:=λb o e z=>absurd (y_ (ml e) g.ok.above) (by rw[z];exact DH _);have M:∀b o,X.s₀.heap.get? b=J o->b∉X.fs->b∉X.ex->∃j,B.get? b=J j:=λb o e hf r=>by
  obtain⟨o',e'⟩:=F.old b o e r;refine C b o' e' λhm=>?_;rcases nk.mp (g.stkSub b hm)with z|z
  .exact nl b o e z
  .exact hf z
 obtain⟨m,hn,hl⟩:=g.loc;have L:∀b o,X.s₀.heap.get? b=J o->b∈X.fs->∀t,o.data≠.fields t:=λb o e hf t z=>by
  obtain⟨_,oF,eF,dF⟩:=g.ok.funs.mem hf;rw[e]at eF;cases eF;exact dF t z
 refine⟨g.ok,g.os,g.bare,⟨λb o e n hf r=>?_,λb o e n hf r=>?_,g.base.free,λb o e r=>?_,g.base.tups,g.base.frzs,g.base.tbls⟩,⟨m,y.ns hn,λi x v e1 e2 e3=>?_⟩,λx c e=>?_,g.free,g.freeC,λp hp=>?_,λa o e=>?_,g.len⟩
 .obtain⟨j,l⟩:=M b o e hf r;exact kp b o j l (g.base.keep b o e n hf r)
 .obtain⟨sl,e1⟩:=g.base.slot b o e n hf r;obtain⟨O,e2⟩:=y b _ e1 (λt z=>L b o e hf t z);exact⟨O,e2⟩
 .by_cases hf:b∈X.fs
  .obtain⟨sl,e1⟩:=g.base.slot b o e (g.ok.frf b hf) hf r;obtain⟨O,e2⟩:=y b _ e1 (λt z=>L b o e hf t z);exact⟨_,e2⟩
  .obtain⟨j,l⟩:=M b o e hf r;exact⟨j,Q b j l⟩
 .obtain⟨u,ru,E⟩:=hl i x v e1 e2 e3;refine⟨u,ru,?_⟩;rcases E with z|⟨z1,c,z2,z3⟩
  .exact .inl z
  .exact .inr ⟨z1,c,z2,qz y z3⟩
 .obtain⟨v,q⟩:=g.cell x c e;exact⟨v,qz y q⟩
 .obtain⟨e,n,ne,nf,d⟩:=g.pin p hp;refine⟨?_,n,ne,nf,d⟩;have U:p∈X.pn:=by simpa using hp
  obtain⟨o',e'⟩:=F.pin p U;obtain⟨j,l⟩:=C p.1 o' e' λhm=>by
   rcases nk.mp (g.stkSub p.1 hm)with z|z
   .exact ne z
   .exact nf z
  exact kp p.1 p.2 j l e
 .refine (g.hok a o e).stay (λb u hb z=>?_) (λ_ z=>z) λ_ _ z=>z;rcases hb with rfl|hb
  .obtain⟨j,l⟩:=R _ _ e;exact kp _ u j l z
  .obtain⟨j,l⟩:=R _ _ hb;exact kp _ u j l z
def Inv.track(g:Inv X B Z H s)(P:H a=Y)(O:X.s₀.heap.get? a=Y)(hL:a≠X.env.locals)(E:∀x c,X.env.cells.lookup x=J c->c≠a)(Q:∀p∈X.pn++B,p.1≠a)(r:ObjOk X.prog X.w (k_ H a (.ext φ)) s.heap a (.ext φ)):Inv X B Z (k_ H a (.ext φ)) s:=by
 have l:∀b o,X.s₀.heap.get? b=J o->b≠a:=λb o e z=>by rw[z,O]at e;cases e
 have t:∀b u,H b=J u->k_ H a (.ext φ) b=J u:=λb u e=>by rw[aS (bN e P)];exact e
 refine⟨g.ok,g.os,g.bare,⟨g.base.keep,g.base.slot,λb o e n R=>by rw[aS (l b o e)];exact g.base.free b o e n R,g.base.there,λb xs e=>t b _ (g.base.tups b xs e),λb o u e=>t b _ (g.base.frzs b o u e),λb S e=>?_⟩,
  g.loc,g.cell,by rw[aS (Ne.symm hL)];exact g.free,λx c e=>by rw[aS (E x c e)];exact g.freeC x c e,λp j=>?_,λb u e=>?_,g.len⟩
 .obtain⟨i,F⟩:=g.base.tbls b S e;exact⟨i,t b _ F⟩
 .obtain⟨M,C,L⟩:=g.pin p j;exact⟨M,by rw[aS (Q p j)];exact C,L⟩
 .by_cases y:b=a
  .subst y;rw[bI]at e;cases e;exact r
  .rw[aS y]at e;exact(g.hok b u e).stay (λc v _ q=>q) (λc q=>t c _ q) λc xs q=>t c _ q
def Jc{h:Heap}{a:Addr}{m j:SD}(x:h.Ns a m)(y:h.Ns a j):m=j:=by obtain⟨o,C,B,e,d,_,f⟩:=x;obtain⟨u,t,r,g,i,_,l⟩:=y;rw[e]at g;cases g;rw[d]at i;cases i;funext z;rw[<-f z,<-l z]
def Inv.unbound(g:Inv X Kt Z H s)(hN:X.N.Nodup)(O:X.N[i]?=J n)(U:s.heap.Ns X.env.locals m)(F:h'.Ns X.env.locals (λx=>if x=n then v else m x))(r:Heap.SameBut X.env.locals s.heap h'):
  Inv X Kt (Z.set i Y) H { s with heap:=h',toks:=t'}:=by
 obtain⟨m0,C,M⟩:=g.loc;have em:=Jc U C;subst em;have lt:∀b o,X.s₀.heap.get? b=J o->b≠X.env.locals:=λb o e=>qp (y_ (ml e) g.ok.above);refine⟨g.ok,g.os,g.bare,⟨λb o e n l t=>?_,λb o e n l t=>?_,g.base.free,λb o e t=>?_,g.base.tups,g.base.frzs,g.base.tbls⟩,⟨_,F,λj y R e1 e2 e3=>?_⟩,λy c e=>?_,g.free,g.freeC,λp hp=>?_,λa o e=>?_,by simpa using g.len⟩
 .exact (r.2 b (lt b o e)).trans (g.base.keep b o e n l t)
 .obtain⟨sl,e1⟩:=g.base.slot b o e n l t;exact⟨sl,(r.2 b (lt b o e)).trans e1⟩
 .obtain⟨P,e1⟩:=g.base.there b o e t;exact⟨P,(r.2 b (lt b o e)).trans e1⟩
 .by_cases B:j=i
  .subst B;by_cases E:j<Z.length
   .rw[BO E]at e2;cases e2
   .rw[Eh (by simp;lia)]at e2;cases e2
  .rw[pq (Ne.symm B)]at e2;obtain⟨S,r',q⟩:=M j y R e1 e2 e3;refine⟨S,r',?_⟩;rcases q with⟨k,e⟩|⟨k,c,e,z⟩
   .refine .inl ⟨k,?_⟩
    have:y≠n:=λe=>B (pG hN e1 (e▸O))
    simp[this,e]
   .exact .inr ⟨k,c,e,z.sameBut r (g.cne y c e)⟩
 .obtain⟨L,z⟩:=g.cell y c e;exact⟨L,z.sameBut r (g.cne y c e)⟩
 .obtain⟨e,n,ne,Q,d⟩:=g.pin p hp;exact⟨(r.2 p.1 ne).trans e,n,ne,Q,d⟩
 .have na:a≠X.env.locals:=λz=>by rw[z,g.free]at e;cases e
  refine(g.hok a o e).stay (λb u l z=>(r.2 b ?_).trans z) (λ_ z=>z) λ_ _ z=>z;rcases l with rfl|l
  .exact na
  .intro z;rw[z,g.free]at l;cases l
def oS(g:R5)(j a:Nat)(mb:kl):kl:=λZ h=>match mb Z h with
 |.exc x i e=>if x.fs=[]/\x.cls∈g then .nx (((i.set a (J (.loc e.length))).set j (J (.loc e.length))).set a Y) (e++[.exc x])else .bad
 |.rse _ _ _=>.bad
 |o=>o
def RS.unset{K:ij}{U:SM}{H:Hp}{a:l_}{Z:L2.St}(r:RS K U H a Z)(i:Nat):RS K U H (a.set i Y) (Z.set i Y):=by
 refine⟨by simp[r.1],λj u e=>?_⟩;by_cases l:j=i
 .subst l;by_cases g:j<a.length
  .rw[BO g]at e;cases e
  .rw[Eh (by simp;lia)]at e;cases e
 .rw[pq (λz=>l z.symm)]at e ⊢;exact r.2 j u e
def Jd(g:Good X N W G k)(dc:io X){c:Str}{j:Nat}{D:Addr}(hj:G[j]?=J c)(ED:rN X c D){cs:R5}(ef:∀x∈cs,∃C,rN X x C/\PySem.W.mroIn X.K C (.ref D)=J I)(iy P:Nat){y n:Str}(c3:N[iy]?=J y)(ej:W[iy]?=J y)(al:N[P]?=J n)(ee:W[P]?=J n)(c9:X.env.scope.names.lookup n=J .local){a4:List Stmt}{mb:kl}{cp yp np sp hp eq:Pos}(hb:∀O:Cx,O.prog=X.prog->O.w=X.w->O.K=X.K->O.mg=X.mg->O.base=X.base->O.env=X.env->Good O N W G k->io O->n5 O a4 mb)(dt:swapsWith (.Name n np) (J (.Name y yp)) sp.line X.env=pure T:=by rfl):
  MS X (.Try a4 [.ExceptHandler (J (.Name c cp)) (J n) [.Assign [.Name y yp] (.Name n np) sp] hp] [] [] eq) (oS cs iy P mb):=by
 intro Kt s Z H Dd d0 ⟨U,ch,h,rs,rh,q⟩;refine wpAny_Try_except ?_;have gY:∀E,PassesOwn (model X.prog X.w) X.A X.env E->Good (rl X Kt E) N W G k:=λE po=>⟨g.hN,g.nd,g.loc,g.fn,g.gl,g.dbg,g.calm,g.room,po⟩;have run:=hb (rl X Kt _) rfl rfl rfl rfl rfl rfl (gY _ (PassesOwn.looking (M:=model X.prog X.w) (A:=X.A) (env:=X.env) (K:=λe cb=>wpAny (model X.prog X.w) X.A (setFlight e Y) (λ_ c0=>wpAny (model X.prog X.w) X.A (handleBy e X.env [.ExceptHandler (J (.Name c cp)) (J n) [.Assign [.Name y yp] (.Name n np) sp] hp]) (SP X Kt Dd) X.xe c0) X.xe cb) (E₁:=X.xe))) ⟨dc.stk,dc.fr,dc.ex⟩;refine wpAny_mono (run [] s Z H Dd (Inv.toPin d0) ⟨U,ch,h,rs,rh,?_⟩) (λf ew z=>?_) λ_ _ z=>z
 .unfold oS at q
  cases em:mb ch h with
  |nx Z1 h1=>rw[em]at q;exact q
  |rt v h1=>rw[em]at q;exact q
  |bk Z1 h1=>rw[em]at q;exact q
  |ct Z1 h1=>rw[em]at q;exact q
  |bad=>rw[em]at q;exact q.elim
  |rse x Z1 h1=>rw[em]at q;exact q.elim
  |exc x Z1 h1 =>
   rw[em]at q;dsimp only at q;by_cases hx:x.fs=[]/\x.cls∈cs
   .rw[c_ hx]at q;intro a C U' H' Z' s' gV f7 c5 l cf dx I' ap ei;obtain⟨C',EC,a9⟩:=ef x.cls hx.2;have eC:C'=C:=by
     have:=EC.bd
     rw[show X.mg x.cls=J (.ref C)from c5]at this;cases this;rfl
    subst eC;obtain⟨B,t,as,cn,S,c2⟩:=ei;have bv:X.stack=X.env::X.outer:=dc.stk;have as:Heap.FlyingW B (X.env::X.outer) a (.ref C') (.ref t) s'.heap:=by rw[<-bv];exact as
    have cd:X.A.frames=J (X.env::X.outer):=by rw[<-bv];exact I'.ok.frames
    refine wpAny_looks_onW (base:=B) cd dc.fr as λey an bt=>?_;refine wpAny_landsW an λes Q bf=>?_;have c7:=bt.trans bf;have I5:=Inv.flown I' as.1 Q.1 c7 ap S cn;have ab:=Inv.ofPin I5;refine wpAny_handleBy_cons (codeAny_handlers_test (Calls.Name_function_global ab.ok.kind (g.gl c (aA hj)) (Calls.loadGlobal_global (by rw[ab.ok.glob];exact ab.mod.glob.keeps ab.bk) ED.bd ?_) (g.dbg c (n4 _ (aA hj))).1)) (by intro z;cases z);obtain⟨gg,N1,f8,q1,f5,fa,e7,ez,fk,eu,e6,a0,a1,a2,a3,a5,f2,ds,_,_,_,ca⟩:=re ab.kIn EC.ok;obtain⟨gy,N2,f6,q2,f1,f3,f0,ev,gx,et,fi,b0,b1,b2,b3,b5,ge,dF,_,_,T2,_⟩:=re ab.kIn ED.ok;obtain⟨ob,eg,c6⟩:=Q.there;obtain⟨eF,g5,d5,t5,eH⟩:=s';refine qU ds dF eg c6 (T2.hasType PySem.F.excBase_ValueError.hasBase) (ca _ _ a9) ?_;refine codeAny_handlers_suite_as ?_;refine lands_againW Q λay R b6=>?_;have I6:=Inv.flown I5 Q.1 R.1 b6 ap S cn;have bx:=Inv.ofPin I6;obtain⟨oe,vs,g0,oT,ts,ax,⟨a7,fp⟩,a8,_,_,_,_,_,_⟩:=R.2.2.2;have c8:B.get? a=Y:=R.2.1;have b4:a∉A_ X.stack:=λhm=>by
     obtain⟨_,o,eo,dn⟩:=bx.stack.mem hm;rw[show ay.get? a=J oe from ax]at eo;cases eo;exact dn vs a8
    have eL:a≠X.env.locals:=λz=>b4 (by rw[bv,z];exact Ev.mpr ⟨X.env,BD,dc.fr⟩);have e0:X.s₀.heap.get? a=Y:=by
     cases z:X.s₀.heap.get? a with
     |none=>rfl
     |some o =>
      obtain⟨o',e'⟩:=ap.old a o z (by rw[dc.ex];simp);obtain⟨d1,eb⟩:=S a o' e' b4;rw[c8]at eb;cases eb
    have ec:∀z cc,X.env.cells.lookup z=J cc->cc≠a:=λz cc e w=>by
     obtain⟨v,o,eo,ed⟩:=bx.cell z cc e;rw[w,show ay.get? a=J oe from ax]at eo;cases eo;rw[a8]at ed;cases ed
    have ep:∀p∈X.pn++Kt,p.1≠a:=λp el w=>by
     obtain⟨o',e'⟩:=ap.pin p el;rw[w]at e';obtain⟨d1,eb⟩:=S a o' e' b4;rw[c8]at eb;cases eb
    have I7:=Inv.track (φ:=jq a C') bx c2 e0 eL ec ep ⟨⟨oe,vs,ax,a7,a8⟩,⟨oe,ax⟩,λh1 h2 ⟨o,ws,z1,z2,z3⟩ kk=>⟨o,ws,kk o z1,z2,z3⟩⟩;obtain⟨eh,l7⟩:=cf.new c2 (o:=.exc x) (ho:=.ext (jq a C')) ⟨hx.1,C',c5,rfl⟩;have rv:RP X.K (U'++[a]) (k_ H' a (.ext (jq a C'))) (.loc h1.length) (.ref a):=.loc (by rw[<-cf.len];simp);have er:=RS.le l7 dx;have bm:X.N.Nodup:=by rw[g.hN];exact g.nd
    refine pA I7 bm (g.x al) (g.loc n (aA al)) (v:=.ref a) rfl (λs8 F=>?_) (g.fn n (aA ee));have dV:=er.set P rv
    let X':Cx:={ X with A:=X.A.mark (J (.ref a)),calm:=T,xe:=λ_ _=>False}
    have dd:X'.Ok:=⟨F.ok.mod,F.ok.kind,F.ok.glob,F.ok.blt,F.ok.above,F.ok.inj,F.ok.has,F.ok.cab,(λz=>nomatch z),F.ok.frames,F.ok.stk,F.ok.exf,F.ok.bs,F.ok.bsz,F.ok.noex,F.ok.exfs,F.ok.funs,F.ok.frf⟩;have d2:Inv X' Kt _ _ s8:=⟨dd,F.os,F.bare,F.base,F.loc,F.cell,F.free,F.freeC,F.pin,F.hok,F.len⟩;have a6:P<Z'.length:=by rw[I'.len];exact(mw.mp (g.x al)).1
    have dn:=g.dbg n (C7 _ (aA al));have st:=wV (Bf (X:=X') (i:=iy) (pos:=sp) (pos':=yp) bm (g.x c3) (g.loc y (aA c3)) (Ao (X:=X') (i:=P) (pos:=np) (g.x al) (.inl c9) dn.1 dn.2.1) dt (g.fn y (aA ej))) Kt s8 _ _
     { nx:=λZ9 H9=>Z9=(Z'.set P (J (.ref a))).set iy (J (.ref a))/\H9=k_ H' a (.ext (jq a C')),rt:=λ_ _=>False} d2 ⟨.ref a,by rw[BO a6],rfl,rfl⟩
    refine wpAny_mono st (λfl s9 z9=>?_) λ_ _ z=>z.elim
    cases fl with
    |ret u=>obtain⟨_,_,_,_,_,z⟩:=z9;exact z.elim
    |brk=>obtain⟨_,_,_,z⟩:=z9;exact z.elim
    |cont=>obtain⟨_,_,_,z⟩:=z9;exact z.elim
    |next =>
     obtain⟨Z9,H9,L,e9,ek⟩:=z9;subst e9;subst ek;have I9:Inv X Kt ((Z'.set P (J (.ref a))).set iy (J (.ref a))) (k_ H' a (.ext (jq a C'))) s9:=⟨F.ok,L.os,L.bare,L.base,L.loc,L.cell,L.free,L.freeC,L.pin,L.hok,L.len⟩;obtain⟨m9,c1,_⟩:=I9.loc;refine wpAny_nameGoes_keeps c9 c1 (by rw[I9.ok.kind];rfl) λgn f4 c4 cm=>?_;have en:=Inv.unbound I9 bm (g.x al) c1 (t':=s9.toks+1) c4 cm;refine⟨_,_,en,?_⟩;exact q (U'++[a]) _ _ (l.trans l7) eh (RS.unset (dV.set iy rv) P)
   .rw[f_ hx]at q;exact q.elim
 .cases f with
  |next =>
   obtain⟨Z',H',I',z⟩:=z;exact wpAny_execs_nil ⟨Z',H',Inv.ofPin I',z⟩
  |brk=>obtain⟨Z',H',I',z⟩:=z;exact⟨Z',H',Inv.ofPin I',z⟩
  |cont=>obtain⟨Z',H',I',z⟩:=z;exact⟨Z',H',Inv.ofPin I',z⟩
  |ret u=>obtain⟨v,Z',H',I',r,z⟩:=z;exact⟨v,Z',H',Inv.ofPin I',r,z⟩
end
structure DA(K:ij)(C:Addr):Prop where
 ga:PySem.W.findIn K (.ref C) "__getattribute__"=J (J (.builtin "BaseException.__getattribute__"))
 cl:PySem.W.findIn K (.ref C) "__class__"=J (J (.builtin "object.__class__"))
 gt:PySem.W.findIn K (.ref C) "__getattr__"=J Y
 mo:PySem.W.mroIn K C (.type "object")=J I
 mb:PySem.W.mroIn K C (.type "BaseException")=J I
section
variable{prog:Program}{w:World}{A:Around}{E:SA}{h:Heap}{g:Array GenState}{d:Drawn}{t:Nat}{os:OsState}{a C:Addr}{o:Obj}{K:ij}
def Mk(u:K.In h)(q:DA K C)(j:h.get? a=J o)(l:o.cls=.ref C)(B:R (.ok (.ret (.ref C))) ⟨h,g,d,t,os⟩):
  codeAny (model prog w) A (.call (.builtin "getset_descriptor.__get__") ⟨[.builtin "object.__class__",.ref a,.ref C],[]⟩) R ⟨h,g,d,t,os⟩:=by
 have e:(⟨h,g,d,t,os⟩:Shared).TypeIs (.builtin "object.__class__") "getset_descriptor":=PySem.F.typeOf_object_class;have s:∀{y:Around} {r:SA} {i:Bool->Shared->Prop},i I ⟨h,g,d,t,os⟩->wpAny (model prog w) y (isSubtype (.ref C) (.type (".".intercalate ("object.__class__".cutAt '.').dropLast))) i r ⟨h,g,d,t,os⟩:=λz=>by
  rw[PySem.F.owner_object_class];exact(PySem.W.looks_mroIn (M:=model prog w) u q.mo).at z
 refine codeAny_call_builtin PySem.F.slot_gs_get.plain PySem.F.entry_gs_get (PySem.F.slot_gs_get.check _ _ _ _ _ _ _ _ e (PySem.F.args_gs_get _ _ _) ?_)
 repeat (any_goals (first | assumption | (with_reducible refine wpAny_loadPart_at j ?_;rw[l]) | with_reducible refine s ?_ | wp_step))
 refine⟨Code.quiet_builtin _ (by decide +kernel),codeAny_builtin PySem.F.entry_object_class ?_⟩
 repeat (any_goals (first | assumption | (with_reducible refine wpAny_loadPart_at j ?_;rw[l]) | wp_step))
def FR(l:K.In h)(q:DA K C)(i:h.get? a=J o)(j:o.cls=.ref C)(G:Q (.done (.ret (.ref C))) ⟨h,g,d,t,os⟩):
  wpAny (model prog w) A (Builtin.«object.__getattribute__» ⟨[.ref a,.str "__class__" tk],[]⟩) Q E ⟨h,g,d,t,os⟩:=by
 have s:∀{u:Around} {r:SA} {e:SU->Shared->Prop},e (J (.builtin "object.__class__")) ⟨h,g,d,t,os⟩->wpAny (model prog w) u (typeLookup (.ref C) "__class__") e r ⟨h,g,d,t,os⟩:=λz=>(PySem.W.looks_findIn (M:=model prog w) l q.cl).at z;have F:=PySem.F.typeOf_object_class;have B:=PySem.F.slot_gs_get.lookup;have y:=PySem.F.slot_gs_set.lookup
 repeat (any_goals (first | assumption | (with_reducible refine wpAny_loadPart_at i ?_;rw[j]) | with_reducible refine s ?_ | wp_step))
 refine Mk l q i j ?_
 repeat (any_goals (first | assumption | wp_step))
def Je(u:K.In h)(q:DA K C)(r:h.get? a=J o)(s:o.cls=.ref C)(B:R (.ok (.ret (.ref C))) ⟨h,g,d,t,os⟩):
  codeAny (model prog w) A (.call (.builtin "BaseException.__getattribute__") ⟨[.ref a,.str "__class__" tk],[]⟩) R ⟨h,g,d,t,os⟩:=by
 have y:builtinKind "BaseException.__getattribute__"=J .slot:=by decide +kernel
 have e:splitId "BaseException.__getattribute__"=J ("BaseException","__getattribute__"):=by decide +kernel
 have G:=PySem.F.args_bexc_ga (.ref a) (.str "__class__" tk);have F:∀{l:Around} {j:SA} {i:Bool->Shared->Prop},i I ⟨h,g,d,t,os⟩->wpAny (model prog w) l (isSubtype (.ref C) (.type "BaseException")) i j ⟨h,g,d,t,os⟩:=λz=>(PySem.W.looks_mroIn (M:=model prog w) u q.mb).at z;have Qk:∀{l:Around} {j:SA} {i:Unit->Shared->Prop},i () ⟨h,g,d,t,os⟩->wpAny (model prog w) l (checkBuiltinCall "BaseException.__getattribute__" ⟨[.ref a,.str "__class__" tk],[]⟩) i j ⟨h,g,d,t,os⟩:=λz=>by
  simp only[checkBuiltinCall,y,e];refine d_ ?_
  .unfold isInstance
   repeat (first | (with_reducible refine wpAny_loadPart_at r ?_;rw[s]) | with_reducible refine F ?_ | wp_step)
   exact z
 exact codeAny_call_builtin PySem.F.excAttr_ValueError.ga.plain PySem.F.entry_bexc_ga (Qk (FR u q r s B))
def PK(j:K.In h)(q:DA K C)(s:h.get? a=J o)(u:o.cls=.ref C)(H:Q (.ref C) ⟨h,g,d,t,os⟩):wpAny (model prog w) A (getAttrBy (.ref a) (.str "__class__" tk) T) Q E ⟨h,g,d,t,os⟩:=by
 have G:=PySem.F.excAttr_ValueError.ga.bind (.ref a);have l:(Value.builtin "BaseException.__getattribute__" == Value.builtin "object.__getattribute__")=T:=by decide +kernel
 have F:(onTheHeap (Value.ref C)&&Value.builtin "BaseException.__getattribute__" == Value.builtin "object.__getattribute__")=T:=by rw[l];rfl
 have B:∀{r:Around} {i:SA} {e:SU->Shared->Prop},e (J (.builtin "BaseException.__getattribute__")) ⟨h,g,d,t,os⟩->wpAny (model prog w) r (typeLookup (.ref C) "__getattribute__") e i ⟨h,g,d,t,os⟩:=λz=>(PySem.W.looks_findIn (M:=model prog w) j q.ga).at z;have y:∀{r:Around} {i:SA} {e:SU->Shared->Prop},e Y ⟨h,g,d,t,os⟩->wpAny (model prog w) r (typeLookup (.ref C) "__getattr__") e i ⟨h,g,d,t,os⟩:=λz=>(PySem.W.looks_findIn (M:=model prog w) j q.gt).at z
 repeat (any_goals (first | assumption | (with_reducible refine wpAny_loadPart_at s ?_;rw[u]) | with_reducible refine B ?_ | with_reducible refine y ?_ | wp_step))
 refine Je j q s u ?_
 repeat (any_goals (first | assumption | wp_step))
def Jf(j:K.In h)(q:DA K C)(i:h.get? a=J o)(e:o.cls=.ref C)(l:Q (J (.ref C)) ⟨h,g,d,t+1,os⟩):wpAny (model prog w) A (getAttr? (.ref a) "__class__") Q E ⟨h,g,d,t,os⟩:=by
 unfold getAttr? getAttrBy?
 repeat (any_goals (first | assumption | with_reducible apply PK j q i e | wp_step))
end
def wz{K:ij}{a C:Addr}(q:DA K C)(u:∃B,PySem.W.clsIn K C=J B):PySem.W.KitX K (.ref a) (.ref C) (jq a C) where
 ty:=λM h _ ⟨o,H,e,c,_⟩=>c▸(PySem.W.Looks.ld e).andThen .now
 it:=λ_ _ X _=>by
  obtain⟨i,g⟩:=u;unfold PySem.W.clsIn at g
  split at g
  .rename_i F G r t l
   intro R U P O k q;exact d_ (wpAny_loadPart (k _ _ (X _ _ l)) (il q))
  .cases g
 ne:=λh L S y n sl X j=>by
  obtain⟨i,g⟩:=u;refine Bool.eq_false_iff.mpr λz=>?_;have e:=Value.ref.inj (beq_iff_eq.mp z);subst e;unfold PySem.W.clsIn at g
  split at g
  .rename_i F G r t l
   have z:=(X _ _ l).symm.trans j;cases z
  .cases g
 ca:=λ{prog w A E Q s} X ⟨o,H,e,c,_⟩ k=>by
  exact Jf X q e c k
def bi(g a:R5)(x:PV)(h:MH):SX:=match x with
 |.loc n=>(match h[n]? with
  |some (.exc e)=>if g.contains e.cls=I then .ok (.bl (a.contains e.cls)) h else .bad
  |some _=>.ok (.bl T) h
  |none=>.bad)
 |_=>.ok (.bl T) h
structure oI(K:ij)(mg:Dx)(T:Value)(cs sup:R5):Prop where
 ty:∀t∈["NoneType","bool","int","str","tuple","list","dict"],PySem.W.kitOne K (.type t) T=J false
 ex:∀x∈cs,∃C,mg x=J (.ref C)/\DA K C/\(∃cd,PySem.W.clsIn K C=J cd)/\PySem.W.kitOne K (.ref C) T=J (sup.contains x)
section
variable{X:Cx}{N W G:R5}{k:Nat}
def xS(P:oI X.K X.mg c cs sup)(hv:∀u,aW v u->u=c):ce X (.builtin "isinstance") (λxs H Q=>∃O,xs=[O,v]/\uJ X (bi cs sup) O H Q):=by
 intro Kt s Z H xs us Q g r ⟨O,e,U,h,x,B,S,q⟩;subst e
 cases r with
 |cons R t1=>cases t1 with
  |cons r2 t2 =>
   cases t2;obtain rfl:=hv _ r2;have plain:∀t,DJ h x=J t->bi cs sup x h=.ok (.bl T) h->wpAny (model X.prog X.w) X.A (call (.builtin "isinstance") [_,_]) (EP X Kt Z Q) X.xe s:=λt et ef=>by
    rw[ef]at q;obtain⟨ht,F,Hq,Za,L⟩:=nI g B S R et;exact PySem.W.kia_one Za g.kIn L (P.ty t ht) F λtk=>⟨.bl _,H,g.tok _,rfl,q U H _ (Le.refl _ _) B (.bl _)⟩
   cases x with
   |non=>exact plain _ rfl rfl
   |bl b=>exact plain _ rfl rfl
   |int i=>exact plain _ rfl rfl
   |str i=>exact plain _ rfl rfl
   |tup i=>exact plain _ rfl rfl
   |frl i=>exact plain _ rfl rfl
   |loc n =>
    cases j:h[n]? with
    |none=>simp only[bi,j]at q;exact q.elim
    |some o =>
     cases o with
     |lst xs=>exact plain "list" (by simp[DJ,j]) (by simp[bi,j])
     |dic xs=>exact plain "dict" (by simp[DJ,j]) (by simp[bi,j])
     |exc ex =>
      simp only[bi,j]at q;by_cases E:cs.contains ex.cls=I
      .rw[c_ E]at q;obtain⟨C,hm,EQ,M,hk⟩:=P.ex ex.cls (by simpa using E)
       cases S with
       |@loc n a e =>
        cases R;obtain⟨o',l,ro⟩:=B.obj e;rw[j]at l;cases l;obtain⟨_,C',y,hH⟩:=ro;rw[hm]at y;cases y;obtain⟨L,_,_⟩:=(g.hok a _ hH);exact PySem.W.kia_one (wz EQ M) g.kIn L hk (λz=>nomatch z) λtk=>⟨.bl _,H,g.tok _,rfl,q U H _ (Le.refl _ _) B (.bl _)⟩
      .rw[f_ E]at q;exact q.elim
def FS(g:Good X N W G k){a:Expr}{m:Mx PV}{c:Str}{D:Addr}{z l:R5}{i j:Nat}{p q e:Pos}(B:G[i]?=J "isinstance")(S:X.mg "isinstance"=Y)(C:G[j]?=J c)(M:X.mg c=J (.ref D))(O:oI X.K X.mg (.ref D) z l)(ha:ME X a m)(E:starEach [a,.Name c q] X.env=(T,eval a X.env)::starEach [.Name c q] X.env:=by rfl)(y:starEach [.Name c q] X.env=[(T,eval (.Name c q) X.env)]:=by rfl)(o:(backTo e (starEach [.Name c q] X.env)).any (·.1)=T:=by rfl):
  ME X (.Call (.Name "isinstance" p) [a,.Name c q] [] e) (wx (bi z l) m):=by
 have F:=g.dbg _ (n4 _ (aA B));have d:=g.dbg c (n4 _ (aA C));refine PE.imp (eG (xS O (v:=.ref D) λu r=>(r)) (g.gl _ (aA B)) S PyProof.Rows.Boot.«isinstance» (bS ha (bS (w6 (v:=.ref D) (g.gl c (aA C)) M rfl d.1) d7 y) E) F.2.2 F.1 E o) λZ H Q ⟨U,s,h,rs,rh,q⟩=>?_;exact⟨U,s,h,rs,rh,Ful.bind q λL H1 x x' h1 _ l1 t R P=>⟨x',rfl,L,h1,x,t,R,P.zero⟩⟩
def FT(g:Good X N W G k){a:Expr}{m:Mx PV}{c:Str}{e:String}{B o:R5}{i j:Nat}{p q l:Pos}(C:G[i]?=J "isinstance")(hm:X.mg "isinstance"=Y)(E:G[j]?=J c)(O:X.mg c=Y)(hv:bootBuiltins c=J (.type e))(P:oI X.K X.mg (.type e) B o)(ha:ME X a m)(F:starEach [a,.Name c q] X.env=(T,eval a X.env)::starEach [.Name c q] X.env:=by rfl)(z:starEach [.Name c q] X.env=[(T,eval (.Name c q) X.env)]:=by rfl)(s:(backTo l (starEach [.Name c q] X.env)).any (·.1)=T:=by rfl):
  ME X (.Call (.Name "isinstance" p) [a,.Name c q] [] l) (wx (bi B o) m):=by
 have L:=g.dbg _ (n4 _ (aA C));have d:=g.dbg c (n4 _ (aA E));refine PE.imp (eG (xS P (v:=.ty e) λu r=>(r)) (g.gl _ (aA C)) hm PyProof.Rows.Boot.«isinstance» (bS ha (bS (nB (v:=.ty e) (g.gl c (aA E)) O hv rfl d.2.2 d.1) d7 z) F) L.2.2 L.1 F s) λZ H Q ⟨U,t,h,rs,rh,q⟩=>?_;exact⟨U,t,h,rs,rh,Ful.bind q λM H1 x x' h1 _ l1 y S R=>⟨x',rfl,M,h1,x,y,S,R.zero⟩⟩
end
def oG(hf:∀v d,f v=J d->d.depth<=n/\d.hasDict=T):∀{xs:R4}{a:List PyData},cR f xs=J a->PyData.depthAll a<=n/\PyData.hasDictAll a=T
 |[],a,e=>by cases e;simp[PyData.depthAll,PyData.hasDictAll]
 |x::r,a,e=>by
  simp only[cR]at e
  split at e
  .rename_i d i e1 e2
   cases e;obtain⟨o,g⟩:=hf _ _ e1;obtain⟨l,j⟩:=oG hf e2;simp only[PyData.depthAll,PyData.hasDictAll,g,j];exact⟨⋯,rfl⟩
  .cases e
def vS:∀(n:Nat)(v:PV)(d:PyData),rd n h v=J d->d.depth<=n/\d.hasDict=T
 |0,v,d,e=>by
  cases v<;>simp only[rd]at e<;>cases e<;>simp[PyData.depth,PyData.hasDict]
 |n+1,v,d,e=>by
  have key:∀xs,(∀g,cR (rd n h) xs=J g->PyData.depthAll g<=n/\PyData.hasDictAll g=T):=λxs g=>oG (vS n)
  cases v with
  |non=>cases e;simp[PyData.depth,PyData.hasDict]
  |bl b=>cases e;simp[PyData.depth,PyData.hasDict]
  |int b=>cases e;simp[PyData.depth,PyData.hasDict]
  |str b=>cases e;simp[PyData.depth,PyData.hasDict]
  |tup xs =>
   simp only[rd,y9]at e;obtain⟨g,e1,rfl⟩:=e;obtain⟨a,b⟩:=key xs g e1;exact⟨by simp only[PyData.depth];lia,by simp only[PyData.hasDict,b]⟩
  |frl xs =>
   simp only[rd,y9]at e;obtain⟨g,e1,rfl⟩:=e;obtain⟨a,b⟩:=key xs g e1;exact⟨by simp only[PyData.depth];lia,by simp only[PyData.hasDict,b]⟩
  |loc m =>
   simp only[rd]at e
   split at e
   .rename_i xs _
    simp only[y9]at e;obtain⟨g,e1,rfl⟩:=e;obtain⟨a,b⟩:=key xs g e1;exact⟨by simp only[PyData.depth];lia,by simp only[PyData.hasDict,b]⟩
   .cases e
section
variable{X:Cx}{N W G:R5}{k:Nat}
end
def d9{K:ij}{D:Addr}(h:PySem.W.kitOne K (.type "NoneType") (.ref D)=J T):∀t∈["NoneType","bool","int","str","tuple","list","dict"],PySem.W.kitOne K (.type t) (.ref D)=J T:=by
 have g:((PySem.W.clsIn K D).isSome&&PySem.W.typeIn K (.ref D)==J (.type "type"))=I:=by
  cases z:((PySem.W.clsIn K D).isSome&&PySem.W.typeIn K (.ref D)==J (.type "type")) with
  |true=>rfl
  |false =>
   have e:PySem.W.kitOne K (.type "NoneType") (.ref D)=PySem.W.kitCls K (.type "NoneType") (.ref D):=rfl;rw[e]at h;unfold PySem.W.kitCls at h
   simp_all
 have key:∀t,PySem.W.kitOne K (.type t) (.ref D)=(if((PySem.W.clsIn K D).isSome&&PySem.W.typeIn K (.ref D)==J (.type "type"))=I then PySem.W.subIn K (.type t) (.ref D)else Y):=λt=>rfl;intro t a;rw[key,c_ g];simp only[nk,Ew,or_false]at a;rcases a with rfl|rfl|rfl|rfl|rfl|rfl|rfl<;>rfl
def Ml:∀(K:ij),∀t∈["NoneType","bool","int","str","tuple","list","dict"],PySem.W.kitOne K (.type t) (.type "ValueError")=J T:=by intro K t a;simp only[nk,Ew,or_false]at a;rcases a with rfl|rfl|rfl|rfl|rfl|rfl|rfl<;>rfl
def zF{K:ij}{C:Addr}{b:Value}{r:Bool}(h:PySem.W.mroIn K C b=J r):∃a,PySem.W.clsIn K C=J a:=by
 unfold PySem.W.mroIn at h
 cases z:PySem.W.clsIn K C with
 |none=>rw[z]at h;cases h
 |some a=>exact⟨a,rfl⟩
def cX{K:ij}{mg:Dx}{e:Value}{i g:R5}(ty:∀t∈["NoneType","bool","int","str","tuple","list","dict"],PySem.W.kitOne K (.type t) e=J T)(ex:∀x∈i,∃C,mg x=J (.ref C)/\DA K C/\PySem.W.kitOne K (.ref C) e=J (g.contains x)):oI K mg e i g :=
 ⟨ty,λx j=>let⟨C,a,b,c⟩:=ex x j;⟨C,a,b,zF b.mo,c⟩⟩
def cH{p:Str->Prop}:∀x∈([]:R5),p x:=λ_ h=>nomatch h
def aP{p:Str->Prop}{a:Str}{l:R5}(h:p a)(t:∀x∈l,p x):∀x∈a::l,p x:=λx e=>by
 rcases nk.mp e with rfl|z
 .exact h
 .exact t x z
section
variable{X:Cx}{N W G:R5}{k:Nat}
def tq(g:Good X N W G k){x:Str}{j:Nat}(u:G[j]?=J x)(r:∃C,rN X x C){e:Expr}{i:SW}{m:Mx (R4)}{s a l:Pos}(t:MA X (e::i) m)(y:starEach (e::i) X.env=(T,eval e X.env)::starEach i X.env:=by rfl)(o:(backTo a (starEach i X.env)).any (·.1)=T:=by rfl):
  MS X (.Raise (J (.Call (.Name x s) (e::i) [] a)) Y l) (kg x m):=let⟨_,h⟩:=r;CP g u h t y o
def FU(g:Good X N W G k)(U:io X){c:Str}{j:Nat}(P:G[j]?=J c){E:R5}(O:∃D,rN X c D/\∀x∈E,∃C,rN X x C/\PySem.W.mroIn X.K C (.ref D)=J I)(l e:Nat){y n:Str}(s:N[l]?=J y)(t:W[l]?=J y)(u:N[e]?=J n)(z:W[e]?=J n)(B:X.env.scope.names.lookup n=J .local){i:List Stmt}{mb:kl}{M L H F S r:Pos}(R:∀a:Cx,a.prog=X.prog->a.w=X.w->a.K=X.K->a.mg=X.mg->a.base=X.base->a.env=X.env->Good a N W G k->io a->n5 a i mb)(o:swapsWith (.Name n H) (J (.Name y L)) F.line X.env=pure T:=by rfl):
  MS X (.Try i [.ExceptHandler (J (.Name c M)) (J n) [.Assign [.Name y L] (.Name n H) F] S] [] [] r) (oS E l e mb):=let⟨_,h,Q⟩:=O;Jd g U P h Q l e s t u z B R o
def xA(g:Good X N W G k){a:Expr}{m:Mx PV}{c:Str}{s l:R5}{i j:Nat}{p q e:Pos}(u:G[i]?=J "isinstance")(B:X.mg "isinstance"=Y)(y:G[j]?=J c)(t:∃D,X.mg c=J (.ref D)/\oI X.K X.mg (.ref D) s l)(E:ME X a m)(C:starEach [a,.Name c q] X.env=(T,eval a X.env)::starEach [.Name c q] X.env:=by rfl)(r:starEach [.Name c q] X.env=[(T,eval (.Name c q) X.env)]:=by rfl)(o:(backTo e (starEach [.Name c q] X.env)).any (·.1)=T:=by rfl):
  ME X (.Call (.Name "isinstance" p) [a,.Name c q] [] e) (wx (bi s l) m):=let⟨_,h,z⟩:=t;FS g u B y h z E C r o
def Cal.at(e1:a.prog=X.prog)(e2:a.w=X.w)(e3:a.K=X.K)(e4:a.mg=X.mg)(e5:a.base=X.base)(c:Cal X x ps F i):Cal a x ps F i:=c.to e1 e2 e3 e4 e5
end
def Jg(e:X.env.scope=sc)(j:scope.kind=.function)(l:∀y∈scope.names,y.2=.cell->scope.names.lookup y.1=J .cell)(r:∀y∈scope.names,y.2=.local->scope.names.lookup y.1=J .local)(z:∀x∈a,scope.names.lookup x=J .local\/scope.names.lookup x=J .cell)(s:∀x∈frees,scope.names.lookup x=J .free)(t:∀y∈scope.names,y.2=.free->y.1∈frees)(o:fm.map (λi=>N[i]?)=frees.map J)(g:∀x∈frees,sc.names.lookup x=J .cell):B0 X N scope a frees fm :=
 ⟨j,l,r,z,s,t,o,λx u=>by rw[<-e]at g;exact g x u⟩
section
variable{Z:l_}{h:MH}
@[simp]theorem KN:kg x m Z h=(m Z h).go Z λvs Z h=>if vs.length<=sizeLine then .rse ⟨x,[]⟩ Z h else .bad:=rfl
def SOut.caught(o:SOut)(g:R5)(j a:Nat):SOut:=match o with
 |.exc x i e=>if x.fs=[]/\x.cls∈g then .nx (((i.set a (J (.loc e.length))).set j (J (.loc e.length))).set a Y) (e++[.exc x])else .bad
 |.rse _ _ _=>.bad
 |o=>o
@[simp]theorem FV:oS cs iy inn mb Z h=(mb Z h).caught cs iy inn:=rfl
@[simp]theorem KO:(SOut.nx Z h).caught cs iy inn=.nx Z h:=rfl
@[simp]theorem KP:(SOut.rt v h).caught cs iy inn=.rt v h:=rfl
@[simp]theorem uT{nv:Nat}{fm:R8}{mi:Mx MIt}{gt:Mg}{mt:Mx Bool}{me:Mx PV}:bF nv fm mi gt mt me Z h =
 (mi Z h).bind λit h1=>(BK it h1.length gt mt me it.xs (EF nv fm Z) (h1++[.lst []])).bind λ_ h3=>.ok (.loc h1.length) h3:=rfl
def xt{a:MIt}{n:Nat}{gt:Mg}{mt:Mx Bool}{g:Mx PV}(e:a.ok h):BK a n gt mt g [] Z h=.ok () h:=by rw[BK,c_ e]
def ym{g:MIt}{n:Nat}{gt:Mg}{mt:Mx Bool}{a:Mx PV}{x v:PV}{r ys:R4}{Z1:l_}{h1 h2 h3:MH}(e:g.ok h)(i:gt x Z h=.nx Z1 h1)(o:mt Z1 h1=.ok I h2)(j:a Z1 h2=.ok v h3)(s:h3[n]?=J (.lst ys))(l:ys.length<1000):
  BK g n gt mt a (x::r) Z h=BK g n gt mt a r Z1 (h3.set n (.lst (ys++[v]))):=by
 rw[BK,c_ e,i];simp only[o,Out.ne_ok,Out.bind_ok,if_true,j,s];rw[c_ (y_ l (by decide))]
def Jh{a:MIt}{n:Nat}{gt:Mg}{mt:Mx Bool}{i:Mx PV}{x:PV}{r:R4}{g:l_}{j l:MH}(e:a.ok h)(o:gt x Z h=.nx g j)(s:mt g j=.ok T l):
  BK a n gt mt i (x::r) Z h=BK a n gt mt i r g l:=by
 rw[BK]
 simp_all
def Bc(e:h[n]?=J (.exc x))(a:cs.contains x.cls=I):bi cs sup (.loc n) h=.ok (.bl (sup.contains x.cls)) h:=by simp only[bi,e];rw[c_ a]
def jx{o:MO}{g:MH}:(h++o::g)[h.length]?=J o:=by simp
def uE{g:MH}{n:Nat}{o:MO}(e:h[n]?=J o):(h++g)[n]?=J o:=by rw[yS (mw.mp e).1];exact e
end
def De(f:Nat->R4->MH->SX)(m:Mx PV)(i:Mx (R4)):Mx PV:=λZ h=>(m Z h).bind λo a=>match o with
 |.loc n=>(match a[n]? with
  |some (.lst _)=>(i Z a).bind λe g=>(f n e g).ne
  |_=>.bad)
 |_=>.bad
def fL(n:Nat)(a:R4)(h:MH):SX:=match a,h[n]? with
 |[v],J (.lst xs)=>if xs.length<sizeLine then .ok .non (h.set n (.lst (xs++[v])))else .bad
 |_,_=>.bad
def dO(n:Nat)(a:R4)(h:MH):SX:=match a with
 |[.loc m]=>(match h[n]?,h[m]? with
  |some (.lst xs),J (.lst ys)=>if xs.length+ys.length<=sizeLine then .ok .non (h.set n (.lst (xs++ys)))else .bad
  |_,_=>.bad)
 |[.tup ys]=>(match h[n]? with
  |some (.lst xs)=>if xs.length+ys.length<=sizeLine then .ok .non (h.set n (.lst (xs++ys)))else .bad
  |_=>.bad)
 |_=>.bad
section
variable{X:Cx}{N W G:R5}{k:Nat}
def KQ(X:Cx)(f:Nat->R4->MH->SX):V->List V->Hp->VK->Prop:=λx g H Q=>∃U h n a e,x=.ref a/\U[n]?=J a/\RH X.K X.mg U H h/\RPs X.K U H e g/\iN X (RV' X) U H (f n e h) Q
def jk:Hc X "list.append" (KQ X fL):=by
 intro L s Z H x P v E Q j F C ⟨U,h,n,a,R,e,t,r,rp,q⟩;subst e;obtain⟨o,M,O⟩:=r.obj t;unfold fL at q
 cases rp with
 |nil=>exact q.elim
 |cons u z =>
  cases z with
  |cons _ _=>exact q.elim
  |nil =>
   rw[M]at q
   cases o with
   |lst xs =>
    dsimp only at q;by_cases g:xs.length<sizeLine
    .rw[c_ g]at q;obtain⟨ys,B,l⟩:=O;obtain⟨i,y⟩:=r.put t (o:=.lst (xs++[_])) ⟨_,rfl,l.append (.cons u .nil)⟩;exact sU L s Z H _ _ v E Q j F C ⟨a,ys,_,rfl,rfl,B,by rw[<-l.length];exact g,q U _ .non y i .non⟩
    .rw[f_ g]at q;exact q.elim
   |_=>exact q.elim
def ub(l b:Addr)(e:Array Value)(n:Nat)(a:Array Value)(j:¬(!e.isEmpty&&Builtin.List.listTooLong (e.size+a.size))=I)(g:e.size<=sizeLine)(r:e.size+a.size<=sizeLine+1):
  Meets (Builtin.«list.extend» ⟨[.ref l,.ref b],[]⟩) (λ_ R s=>s.heap.get? l=J { cls:=.type "list",data:=.seq e n}/\IsTup s.heap b a/\R (.ok (.ret Value.none)) { s with heap:=s.heap.update l (Obj.mapSeq λx=>x++a),toks:=s.toks}):=by
 intro prog w A R s ⟨t,⟨o,u,y,B,hd⟩,h⟩;have i:(e++a).size<=sizeLine+1:=by rw[Lf];exact r
 show wpAny _ A.in1 (Builtin.List.listExtendWith (.ref l) (.ref b) .none) _ _ s;refine d_ (wpAny_typeOf ⟨o,u,y⟩ ?_);have z:(Builtin.List.listSameRef (.ref l) (.ref b)||Value.type "tuple" == Value.type "list" || Value.type "tuple" == Value.type "tuple")=I:=by simp
 simp only[z];refine d_ ?_;refine d_ (wpAny_seqItems u hd (il ?_));refine d_ ?_;refine d_ (wpAny_seqItems t rfl (il ?_));simp only[j];refine d_ (wpAny_updateSeq t rfl ?_ (hz:=g) (_hz':=i));exact il h
def gQ:Hc X "list.extend" (KQ X dO):=by
 intro Kt s Z H x vs v us Q j rx rv ⟨U,h,n,a,ps,e,en,O,rp,q⟩;subst e;obtain⟨o,eo,ro⟩:=O.obj en;unfold dO at q
 cases rp with
 |nil=>exact q.elim
 |cons r1 t1 =>
  cases t1 with
  |cons _ _=>cases r1<;>exact q.elim
  |nil =>
   cases r1 with
   |@loc m b em =>
    obtain⟨o2,S,ab⟩:=O.obj em;dsimp only at q;rw[eo,S]at q
    cases o with
    |lst xs =>
     cases o2 with
     |lst B =>
      dsimp only at q;by_cases l:xs.length+B.length<=sizeLine
      .rw[c_ l]at q;obtain⟨ys,M,C⟩:=ro;obtain⟨E,ew,L⟩:=ab;obtain⟨y,R⟩:=O.put en (o:=.lst (xs++B)) (ho:=.lst (ys++E)) ⟨_,rfl,C.append L⟩;exact Ai Kt s Z H _ _ v us Q j rx rv ⟨a,b,ys,E,rfl,rfl,M,ew,by rw[<-C.length,<-L.length];exact l,q U _ .non R y .non⟩
      .rw[f_ l]at q;exact q.elim
     |_=>exact q.elim
    |_=>exact q.elim
   |@tup B a2 E sq rr =>
    rw[eo]at q
    cases o with
    |lst xs =>
     dsimp only at q;by_cases l:xs.length+B.length<=sizeLine
     .rw[c_ l]at q;obtain⟨ys,M,C⟩:=ro;obtain⟨y,R⟩:=O.put en (o:=.lst (xs++B)) (ho:=.lst (ys++E)) ⟨_,rfl,C.append rr⟩;cases rx;obtain⟨u,rfl,ru⟩:=rv.one;cases ru;obtain⟨z,i,n,r,an,e⟩:=j.lstM M;obtain⟨g,r2,pl,ap⟩:=j.tuple sq;have al:ys.length+E.length<=sizeLine:=by rw[<-C.length,<-rr.length];exact l
      have as:=r2.length;have P:i.toArray.size+g.toArray.size<=sizeLine:=by rw[va,va];lia
      have t:¬(!i.toArray.isEmpty&&Builtin.List.listTooLong (i.toArray.size+g.toArray.size))=I:=by rw[oZ P,OK];exact Ld
      refine call_meets F.slot_list_extend ⟨_,e,rfl⟩ F.entry_list_extend (F.args_list_extend_2 _ _) (ub a _ i.toArray n g.toArray t (by rw[va];lia) ⋯) ⟨e,pl,?_⟩;refine⟨.non,_,j.lset (its':=i++g) M e (by simp) (r.append r2) ?_,rfl,q U _ .non R y .non⟩;rw[DO];lia
     .rw[f_ l]at q;exact q.elim
    |_=>exact q.elim
   |_=>exact q.elim
variable{o e:Expr}{es:SW}{name:Str}{apos cpos:Pos}{id:String}{f:Nat->R4->MH->SX}{m:Mx PV}{ma:Mx (R4)}
def Mm{u:TA}(s:∀Z H Q,tM X (RVs' X) ma Z H Q->u Z H Q){Z:L2.St}{H:Hp}{Q:VK}(tm:tM X (RV' X) (De f m ma) Z H Q):tM X (RV' X) m Z H (λx l=>Po X.K "list" x l/\u Z l λxs z=>KQ X f x xs z Q):=by
 obtain⟨U,i,h,y,rh,q⟩:=tm;refine⟨U,i,h,y,rh,?_⟩;refine Ful.bind q λC l x x' h1 _ l1 j O g=>?_
 cases O with
 |@loc n a B =>
  obtain⟨E,eo,ro⟩:=j.obj B;dsimp only at g;rw[eo]at g
  cases E with
  |lst xs =>
   obtain⟨ys,M,ry⟩:=ro;refine⟨.inl ⟨rfl,ys,SqL.of M⟩,s Z l _ ⟨C,i,h1,y.le l1,j,?_⟩⟩;exact Ful.bind g λL z S F h2 _ P r t R=>⟨L,h2,n,a,S,rfl,P.get B,r,t,R.zero⟩
  |_=>exact g.elim
 |_=>exact g.elim
def d3(slot:Slot "list" name id)(l:typeOf (.builtin id)=pure (.type "method_descriptor"))(r:Hc X id (KQ X f))(s:ME X o m)(u:MA X (e::es) ma)(g:attributeBase o name X.env (eval o X.env)=eval o X.env:=by rfl)(j:((backTo cpos (starEach (e::es) X.env)).all (λx=>!x.1)&&(backToKw cpos (keywordEach [] X.env)).all (λx=>x.1.isSome)
   && decide ((e::es).length+([]:List Keyword).length+(if([]:List Keyword).isEmpty then 0 else 1)<30))=I:=by rfl)(i:(apos.endLine==cpos.line)=I:=by rfl)(t:starEach (e::es) X.env=(T,eval e X.env)::starEach es X.env:=by rfl)(a:(backTo cpos (starEach es X.env)).any (·.1)=T:=by rfl):
  ME X (.Call (.Attribute o name apos) (e::es) [] cpos) (De f m ma) :=
 PE.imp (Hd PySem.F.plainAttrs_list slot l r s u g j i t a) λZ H Q q=>Mm (λ_ _ _ z=>z) q
@[simp]theorem PL:De f m ma Z h=(m Z h).bind λo h1=>match o with
 |.loc n=>(match h1[n]? with
  |some (.lst _)=>(ma Z h1).bind λvs h2=>(f n vs h2).ne
  |_=>.bad)
 |_=>.bad:=rfl
end
def bM(h:MH):PV->Option (R4)
 |.tup xs=>J xs
 |.frl xs=>J xs
 |.loc n=>(match h[n]? with
  |some (.lst xs)=>J xs
  |_=>Y)
 |_=>Y
section
variable{X:Cx}{N W G:R5}{k:Nat}
def iz(u:RH X.K X.mg U H h)(l:RP X.K U H x x')(e:bM h x=J xs):∃a ys,x'=.ref a/\(SqL X.K H a ys\/SqT X.K H a ys)/\RPs X.K U H xs ys:=by
 cases l with
 |tup s r=>cases e;exact⟨_,_,rfl,.inr s,r⟩
 |frl s r=>cases e;exact⟨_,_,rfl,.inl s.sq,r⟩
 |@loc n a z =>
  obtain⟨o,t,y⟩:=u.obj z;simp only[bM,t]at e
  cases o with
  |lst ys =>
   cases e;obtain⟨i,j,g⟩:=y;exact⟨a,i,rfl,.inl (SqL.of j),g⟩
  |_=>cases e
 |_=>cases e
def mM(f g:PV->PV->MH->SX)(a b c:Mx PV):Mx PV:=λZ h=>(a Z h).bind λx i=>(b Z i).bind λy j=>(f x y j).ne.bind λz e=>match z with
 |.bl t=>if t=I then(c Z e).bind λw l=>(g y w l).ne else .ok (.bl T) e
 |_=>.bad
variable{a b c:Expr}{ma mb mc:Mx PV}{f g':PV->PV->MH->SX}{op op':CmpOp}{pos:Pos}
def CY{Z:L2.St}{H:Hp}{Q:VK}(q:tM X (RV' X) (mM f g' ma mb mc) Z H Q):Bp (rJ X f) (rJ X g') (tM X (RV' X) ma) (tM X (RV' X) mb) (tM X (RV' X) mc) Z H Q:=by
 obtain⟨U,e,h,u,rh,q⟩:=q;refine⟨U,e,h,u,rh,Ful.bind q λS H1 x x' h1 _ P s rx q1=>?_⟩;refine⟨S,e,h1,u.le P,s,Ful.bind q1 λE H2 y y' R _ L l M q2=>?_⟩;refine⟨E,R,x,y,l,rx.le L,M,?_⟩;have key:Ful X (RV' X) e E H2 (f x y R).ne (λz i=>∃k,z=.bl k/\(if k=I then tM X (RV' X) mc Z i λB C=>rJ X g' y' B C Q else Q (.bl T) i)):=Ful.bind q2 λF i z z' h3 _ O g rz o=>by
  cases rz with
  |bl t =>
   refine⟨t,rfl,?_⟩
   cases t with
   |true =>
    exact⟨F,e,h3,u.le (P.trans (L.trans O)),g,Ful.bind o λU4 C w B h4 _ l4 r j q4=>⟨U4,h4,y,w,r,(M.le O).le l4,j,q4.zero⟩⟩
   |false =>
    exact o F i _ (Le.refl _ _) g (.bl _)
  |_=>exact o.elim
 exact key.zero
def Cb(j:BR X (compareOp op) f)(e:BR X (compareOp op') g')(o:ME X a ma)(l:ME X b mb)(i:ME X c mc)(g:lastMarks [op,op'] [b,c]=T:=by with_unfolding_all rfl):ME X (.Compare a [op,op'] [b,c] pos) (mM f g' ma mb mc) :=
 PE.imp (BH j e o l i g) λ_ _ _ q=>CY q
@[simp]theorem KR:mM f g' ma mb mc Z h=(ma Z h).bind λx h1=>(mb Z h1).bind λy h2=>(f x y h2).ne.bind λz h3=>match z with
 |.bl t=>if t=I then(mc Z h3).bind λw h4=>(g' y w h4).ne else .ok (.bl T) h3
 |_=>.bad:=rfl
def jR(i:Bool)(x y:PV)(h:MH):SX:=match bM h y with
 |some ys=>(match rd 60 h x,cR (rd 60 h) ys with
  |some d,J g=>if d.canLay0=I/\PyData.canLayAll0 g=I then .ok (.bl (if i then !g.any (λe=>PyData.eqv e d)else g.any (λe=>PyData.eqv e d))) h else .bad
  |_,_=>.bad)
 |none=>.bad
def pV:∀{g:List PyData},PyData.canLayAll0 g=I->∀d∈g,d.canLay0=I
 |e::g,h,d,hd=>by
  simp only[PyData.canLayAll0,G8]at h;rcases nk.mp hd with rfl|hd
  .exact h.1
  .exact pV h.2 d hd
def sA(hf:∀u d g,Reads hp u d g->fq u=PyData.eqv d dx):∀{j:SQ}{i:List PyData}{g:SM},ReadsAll hp j i g->j.any fq=i.any λe=>PyData.eqv e dx
 |_,_,_,.nil=>rfl
 |_,_,_,.cons r t=>by rw[OM,OM,hf _ _ _ r,sA hf t]
def sF:∀{i:SQ}{g:List PyData}{l:SM},ReadsAll hp i g l->∀u∈i,∃d e,d∈g/\Reads hp u d e
 |_,_,_,.nil,u,h=>nomatch h
 |_,_,_,.cons r t,u,h=>by
  rcases nk.mp h with rfl|h
  .exact⟨_,_,BD,r⟩
  .obtain⟨d,e,hd,j⟩:=sF t u h;exact⟨d,e,oh _ hd,j⟩
def fq(g:Heap)(e:PyData)(u:Value):Bool:=if z:∃d i,Reads g u d i then PyData.eqv z.choose e else T
def Hl(r:Reads hp u d e):fq hp dx u=PyData.eqv d dx:=by have z:∃d e,Reads hp u d e:=⟨d,e,r⟩;delta fq;rw[dif_pos z];obtain⟨i,g⟩:=z.choose_spec;rw[<-(Reads.unique r _ _ g).1]
def nA(hr:Room k X.A)(C:Bool):BR X (compareOp (if C then .NotIn else .In)) (jR C):=by
 intro Kt s Z H x' y' u v Q i ab S ⟨U,h,x,y,L,rx,ry,q⟩;unfold jR at q
 cases es:bM h y with
 |none=>rw[es]at q;exact q.elim
 |some ys =>
  rw[es]at q;dsimp only at q;obtain⟨a,zs,rfl,M,R⟩:=iz L ry es
  cases ex:rd 60 h x with
  |none=>rw[ex]at q;exact q.elim
  |some j =>
   rw[ex]at q
   cases ed:cR (rd 60 h) ys with
   |none=>rw[ed]at q;exact q.elim
   |some ds =>
    rw[ed]at q;dsimp only at q;by_cases P:j.canLay0=I/\PyData.canLayAll0 ds=I
    .rw[c_ P]at q;cases S;obtain⟨_,rX⟩:=gA i L 60 x x' u j rx ab ex;have al:=(vS 60 x j ex).1;have l:∀(g:SQ),aI zs g->(∀w∈g,SeqAt.EqAt X.A.in1 s w u (fq s.heap j w))/\g.any (fq s.heap j)=ds.any λe=>PyData.eqv e j:=λg o=>by
      obtain⟨as,RA⟩:=gF (λv v' u d r1 r2 e=>gA i L 60 v v' u d r1 r2 e) R o ed;refine⟨λw t=>?_,sA (λu d as r=>Hl r) RA⟩;obtain⟨d,an,hd,O⟩:=sF RA w t;rw[Hl O];refine SeqAt.eqAt_reads d j X.A.in1 s w u _ _ O rX (pV P.2 d hd) P.1 ?_
      have:=hr.un
      lia
     cases C with
     |false =>
      rcases M with z|z
      .obtain⟨g,o,B,hz⟩:=i.list z;obtain⟨E,F⟩:=l g o;refine SeqAt.in_listAt (fq s.heap j) B.isList (λw t=>E w (by simpa using t)) ⟨.bl _,H,i,rfl,?_⟩;rw[show g.toArray.any (fq s.heap j)=g.any (fq s.heap j) by simp,F];exact q U H _ (Le.refl _ _) L (.bl _)
      .obtain⟨g,o,B,hz⟩:=i.tuple z;obtain⟨E,F⟩:=l g o;refine SeqAt.in_tupleAt (fq s.heap j) B (λw t=>E w (by simpa using t)) ⟨.bl _,H,i,rfl,?_⟩;rw[show g.toArray.any (fq s.heap j)=g.any (fq s.heap j) by simp,F];exact q U H _ (Le.refl _ _) L (.bl _)
     |true =>
      rcases M with z|z
      .obtain⟨g,o,B,hz⟩:=i.list z;obtain⟨E,F⟩:=l g o;refine SeqAt.notIn_listAt (fq s.heap j) B.isList (λw t=>E w (by simpa using t)) ⟨.bl _,H,i,rfl,?_⟩;rw[show g.toArray.any (fq s.heap j)=g.any (fq s.heap j) by simp,F];exact q U H _ (Le.refl _ _) L (.bl _)
      .obtain⟨g,o,B,hz⟩:=i.tuple z;obtain⟨E,F⟩:=l g o;refine SeqAt.notIn_tupleAt (fq s.heap j) B (λw t=>E w (by simpa using t)) ⟨.bl _,H,i,rfl,?_⟩;rw[show g.toArray.any (fq s.heap j)=g.any (fq s.heap j) by simp,F];exact q U H _ (Le.refl _ _) L (.bl _)
    .rw[f_ P]at q;exact q.elim
def rg(xs:R4)(h:MH):SX:=match xs with
 |[x]=>(match bM h x with
  |some ys=>p_ ys h
  |none=>.bad)
 |_=>.bad
def t0(xs:R4)(h:MH):SX:=match xs with
 |[x]=>(match bM h x with
  |some ys=>.ok (.tup ys) h
  |none=>.bad)
 |_=>.bad
def iD:di X (.type "list") rg:=by
 intro C s Z H xs B Q i r ⟨U,h,E,l,rp,q⟩
 cases rp with
 |nil=>exact q.elim
 |cons o t =>
  cases t with
  |cons _ _=>exact q.elim
  |nil =>
   rename_i x y
   unfold rg at q
   cases j:bM h x with
   |none=>simp only[j]at q;exact q.elim
   |some ys =>
    simp only[j]at q;obtain⟨a,z,rfl,g,e⟩:=iz l o j;obtain⟨_,u⟩:=nH l e q;exact wv C s Z H _ B Q i r ⟨a,z,rfl,g,u⟩
def ph:di X (.type "tuple") t0:=by
 intro C s Z H xs B Q g r ⟨U,h,O,t,rp,q⟩
 cases rp with
 |nil=>exact q.elim
 |cons F L =>
  cases L with
  |cons _ _=>exact q.elim
  |nil =>
   rename_i x y
   unfold t0 at q
   cases u:bM h x with
   |none=>simp only[u]at q;exact q.elim
   |some ys =>
    simp only[u]at q;obtain⟨a,o,rfl,j,e⟩:=iz t F u;rcases j with i|i
    .refine ln C s Z H _ B Q g r ⟨a,o,rfl,.inl ⟨i,λl E=>?_⟩⟩;obtain⟨M,z⟩:=t.tup E o;exact q U _ _ z M (.tup (SqT.of bI) (e.le z))
    .exact ln C s Z H _ B Q g r ⟨a,o,rfl,.inr ⟨i,q U H _ (Le.refl _ _) t (.tup i e)⟩⟩
def gu(xs:R4)(lo e:SV):R4:=(xs.drop (HT.lw xs.length 0 lo)).take (HT.lw xs.length xs.length e-HT.lw xs.length 0 lo)
def Ji(x:PV)(lo e:SV)(h:MH):SX:=match x with
 |.tup xs=>if HT.lw xs.length 0 lo=0/\HT.lw xs.length xs.length e=xs.length then .bad else .ok (.tup (gu xs lo e)) h
 |.frl xs=>.ok (.loc h.length) (h++[.lst (gu xs lo e)])
 |.loc n=>(match h[n]? with
  |some (.lst xs)=>.ok (.loc h.length) (h++[.lst (gu xs lo e)])
  |_=>.bad)
 |_=>.bad
def RJ(X:Cx)(f:PV->SV->SV->MH->SX):V->SV->SV->Hp->VK->Prop:=λe lo g H Q=>∃U h x,RH X.K X.mg U H h/\RP X.K U H x e/\iN X (RV' X) U H (f x lo g h) Q
def rA{K:ij}{U:SM}{H:Hp}{xs:R4}{ys:List V}(r:RPs K U H xs ys)(lo e:SV):RPs K U H (gu xs lo e) (pH ys lo e):=by delta gu pH;rw[r.length];exact(r.drop _).take _
def Mn:NN X (RJ X Ji):=by
 intro L s Z H x' v O M lo e sl Q g E B F u ⟨U,h,x,j,y,q⟩
 cases y with
 |tup C t =>
  unfold Ji at q;dsimp only at q
  rename_i xs a ys
  by_cases z:HT.lw xs.length 0 lo=0/\HT.lw xs.length xs.length e=xs.length
  .rw[c_ z]at q;exact q.elim
  .rw[f_ z]at q;refine Iy L s Z H _ v O M lo e sl Q g E B F u ⟨a,ys,rfl,C,by rw[<-t.length];exact z,λp l=>?_⟩;obtain⟨r,i⟩:=j.tup l (pH ys lo e);exact q U _ _ i r (.tup (SqT.of bI) ((rA t lo e).le i))
 |frl C t =>
  rename_i xs a ys
  refine xT L s Z H _ v O M lo e sl Q g E B F u ⟨a,ys,rfl,C.sq,λp l=>?_⟩;obtain⟨r,i⟩:=j.new l (o:=.lst (gu xs lo e)) ⟨_,rfl,rA t lo e⟩;exact q _ _ _ i r (.loc (by rw[<-j.len];simp))
 |@loc n a en =>
  obtain⟨o,S,ro⟩:=j.obj en;unfold Ji at q;dsimp only at q;rw[S]at q
  cases o with
  |lst xs =>
   obtain⟨ys,P,R⟩:=ro;refine xT L s Z H _ v O M lo e sl Q g E B F u ⟨a,ys,rfl,SqL.of P,λp l=>?_⟩;obtain⟨r,i⟩:=j.new l (o:=.lst (gu xs lo e)) ⟨_,rfl,rA R lo e⟩;exact q _ _ _ i r (.loc (by rw[<-j.len];simp))
  |_=>exact q.elim
 |_=>exact q.elim
def MO'(X:Cx)(e:Option Expr)(m:Mx (SV)):Prop:=PO X e (tM X LY m)
def E7:Mx (SV):=λ_ h=>.ok Y h
def E8(m:Mx PV):Mx (SV):=λZ h=>(m Z h).bind λv e=>match v with
 |.int i=>.ok (J i) e
 |_=>.bad
def fQ:MO' X Y E7:=λj s Z H Q e ⟨U,g,h,l,i,q⟩=>Fx j s Z H Q e (q U H Y (Le.refl _ _) i rfl)
def fM(h:ME X e m):MO' X (J e) (E8 m):=λz s Z H Q g ⟨U,j,u,B,C,q⟩=>Fy h z s Z H Q g ⟨U,j,u,B,C,Ful.bind q λt r v E F _ L l y o=>by
 cases y with
 |int i=>exact⟨i,rfl,o t r (J i) (Le.refl _ _) l rfl⟩
 |_=>exact o.elim⟩
def E9(m:Mx PV)(j l:Mx (SV)):Mx PV:=λZ h=>(m Z h).bind λx e=>(j Z e).bind λlo g=>(l Z g).bind λo i=>(Ji x lo o i).ne
def jK{e:Expr}{lo j:Option Expr}{m:Mx PV}{s t:Mx (SV)}{p2:Pos}(he:ME X e m)(C:MO' X lo s)(M:MO' X j t):ME X (.Subscript e (.Slice lo j Y p2) pos) (E9 m s t) :=
 PE.imp (Cm Mn he C M) λZ H Q ⟨U,g,h,r,rh,q⟩=>⟨U,g,h,r,rh,Ful.bind q λz H1 x x' h1 _ y o S P=>⟨z,g,h1,r.le y,o,Ful.bind P λL H2 lo F h2 _ u i el q2=>by
  subst el
  exact⟨L,g,h2,r.le (y.trans u),i,Ful.bind q2 λO H3 j ab B _ l3 l R E=>by
   subst R
   exact⟨O,B,x,l,(S.le u).le l3,E.zero⟩⟩⟩⟩
end
section
variable{X:Cx}{N W G:R5}{k:Nat}
def oM{A:Around}{E:SA}{F:SS}{Z:L2.St}{H:Hp}{s:Shared}{a:Addr}{ys:List V}{Q:SA}(B:A.handled=Y)(u:Inv X F Z H s)(r:SqL X.K H a ys\/SqT X.K H a ys)(h:∀(g:SQ)(y:Heap)(It:Addr)(St:Nat->Heap->Prop),aI ys g->Walks X.prog X.w A It [It,a] [It] g.toArray.size (λi v=>g.toArray[i]?=J v) St->St 0 y->(∀b∈[It,a],b<y.objs.size)->(∀b o,s.heap.get? b=J o->y.get? b=J o)->s.heap.objs.size=It->Q (.ref It) { s with heap:=y}):
  wpAny (model X.prog X.w) A (pyIter (.ref a)) Q E s:=by
 have sz:∀(o:Obj),a<s.heap.objs.size->∀b∈[s.heap.objs.size,a],b<(s.heap.push o).objs.size:=λo j b t=>by
  rw[DP];rcases nk.mp t with rfl|t
  .exact HQ _
  .rcases nk.mp t with rfl|t
   .exact G5 j
   .cases t
 rcases r with r|r
 .obtain⟨g,z,C,_⟩:=u.list r;have l:=C.isList;have j:a<s.heap.objs.size:=by obtain⟨_,e,_⟩:=l;exact ml e
  exact wpAny_pyIter_list l (h g _ _ _ z (Walks.list B _ a (qp j) g.toArray) ⟨⟨_,q0 _ rfl,rfl,rfl⟩,l.push _⟩ (sz _ j) (λb o e=>ls _ e) rfl)
 .obtain⟨g,z,l,_⟩:=u.tuple r;have j:a<s.heap.objs.size:=by obtain⟨_,e,_⟩:=l;exact ml e
  exact wpAny_pyIter_tuple l (h g _ _ _ z (Walks.tuple B _ a (qp j) g.toArray) ⟨⟨_,q0 _ rfl,rfl,rfl⟩,l.push _⟩ (sz _ j) (λb o e=>ls _ e) rfl)
def yB{s:Shared}{a g:Heap}{It:Addr}(i:∀b o,s.heap.get? b=J o->a.get? b=J o)(e:s.heap.objs.size=It)(l:∀b o,b∉[It]->a.get? b=J o->g.get? b=J o):∀b o,s.heap.get? b=J o->g.get? b=J o:=λb o q=>by
 refine l b o (λj=>?_) (i b o q)
 have:b=It:=by simpa using j
 exact absurd (ml q) (by rw[this,e];exact DH _)
def jS:R4->Option (List Bool)
 |[]=>J []
 |.bl b::r=>(jS r).map (b::·)
 |_=>Y
def gI:R4->Option (R6)
 |[]=>J []
 |.int i::r=>(gI r).map (i::·)
 |_=>Y
def FW{K:ij}{U:SM}{H:Hp}:∀{xs:R4}{ys:List V}{bs:List Bool}{a:SQ},RPs K U H xs ys->aI ys a->jS xs=J bs->a=bs.map Value.bool:=by
 intro xs
 induction xs with
 |nil=>intro ys bs a r v e;cases r;cases v;cases e;rfl
 |cons x xs i =>
  intro ys bs a r v e
  cases r with
  |cons g o =>
   cases v with
   |cons l s =>
    cases g with
    |bl b =>
     simp only[jS,y9]at e;obtain⟨t,j,rfl⟩:=e;rw[i o s j,show _=Value.bool b from l];rfl
    |_=>cases e
def vB{K:ij}{U:SM}{H:Hp}:∀{xs:R4}{ys:List V}{g:R6}{j:SQ},RPs K U H xs ys->aI ys j->gI xs=J g->j.length=g.length/\∀(i:Nat)(u:Value),j[i]?=J u->∃t,u=.int (g.getD i 0) t:=by
 intro xs
 induction xs with
 |nil=>intro ys g j r v e;cases r;cases v;cases e;exact⟨rfl,λi u h=>by simp at h⟩
 |cons x xs y =>
  intro ys g j r v e
  cases r with
  |cons s C =>
   cases v with
   |cons B F =>
    cases s with
    |int b =>
     simp only[gI,y9]at e;obtain⟨E,z,rfl⟩:=e;obtain⟨a,o⟩:=y C F z;obtain⟨l,rfl⟩:=B;refine⟨by simp[a],λi u h=>?_⟩
     cases i with
     |zero=>simp at h;exact⟨l,by rw[<-h];rfl⟩
     |succ i=>obtain⟨t,e⟩:=o i u (by simpa using h);exact⟨t,by rw[e];simp⟩
    |_=>cases e
def wH(bs:List Bool):TruthOf X.prog X.w A (λi v=>(bs.map Value.bool).toArray[i]?=J v) (λi=>bs.getD i T):=λi v s Q E a g=>by
 have:v=.bool (bs.getD i T):=by
  have a:(List.map Value.bool bs).toArray[i]?=J v:=a;rw[KA,yT,y9]at a;obtain⟨b,e,rfl⟩:=a
  simp_all
 subst this;exact wpAny_truthy_bool g
def Ad(bs:List Bool):(List.range bs.length).all (λi=>bs.getD i T)=bs.all id:=by
 induction bs with
 |nil=>rfl
 |cons b r a =>
  rw[C1,OA,List.all_cons,OQ,List.all_cons,<-a];rfl
def B_(xs:R4)(h:MH):SX:=match xs with
 |[x]=>(match (bM h x).bind jS with
  |some bs=>.ok (.bl (bs.all id)) h
  |none=>.bad)
 |_=>.bad
def vh(g:Good X N W G k):di X (.builtin "all") B_:=by
 intro Kt s Z H xs us Q e r ⟨U,h,ps,z,rp,q⟩
 cases rp with
 |nil=>exact q.elim
 |cons C E =>
  cases E with
  |cons _ _=>exact q.elim
  |nil =>
   rename_i x y
   unfold B_ at q
   cases t:(bM h x).bind jS with
   |none=>simp only[t]at q;exact q.elim
   |some bs =>
    simp only[t]at q;obtain⟨ys,e1,e2⟩:=Eu.mp t;obtain⟨a,S,rfl,o,l⟩:=iz z C e1
    cases r with
    |cons L B =>
     cases B;cases L;refine call_all_walk (oM g.room.hd e o λi h2 It St F M st fp kp j=>?_);have u:=FW l F e2;refine⟨It,_,_,_,_,St,_,rfl,M,st,by rw[u];exact wH bs,λR P kk=>?_⟩;have O:i.toArray.size=bs.length:=by rw[u];simp
     rw[O,Ad];exact⟨.bl _,H,e.kept (yB kp j kk),rfl,q U H _ (Le.refl _ _) z (.bl _)⟩
def nu(b:Nat->Nat->Bool)(a:R6):Int:=a.getD (argBest b (a.length-1)) 0
def DB(xs:R4)(h:MH):SX:=match xs with
 |[x]=>(match (bM h x).bind gI with
  |some a=>if 0<a.length then .ok (.int (nu (λi j=>decide (a.getD i 0>a.getD j 0)) a)) h else .bad
  |none=>.bad)
 |[.int i,.int j]=>.ok (.int (if j>i then j else i)) h
 |_=>.bad
def DC(xs:R4)(h:MH):SX:=match xs with
 |[x]=>(match (bM h x).bind gI with
  |some a=>if 0<a.length then .ok (.int (nu (λi j=>decide (a.getD i 0<a.getD j 0)) a)) h else .bad
  |none=>.bad)
 |[.int i,.int j]=>.ok (.int (if j<i then j else i)) h
 |_=>.bad
def FX(g:Good X N W G k):di X (.builtin "max") DB:=by
 intro Kt s Z H xs us Q e r ⟨U,h,ps,L,rp,q⟩;unfold DB at q
 split at q
 .rename_i x
  cases rp with
  |cons z C =>
  cases C
  cases M:(bM h x).bind gI with
  |none=>simp only[M]at q;exact q.elim
  |some B =>
   simp only[M]at q;by_cases F:0<B.length
   .rw[c_ F]at q;obtain⟨ys,e1,e2⟩:=Eu.mp M;obtain⟨a,zs,rfl,E,y⟩:=iz L z e1
    cases r with
    |cons ru P =>
     cases P;cases ru;refine call_max_walk (oM g.room.hd e E λo h2 It St S Wk st fp kp u=>?_);obtain⟨el,O⟩:=vB y S e2;have l:o.toArray.size=B.length:=by exact el
     refine⟨It,_,_,_,_,St,_,rfl,Wk,st,fp,by rw[l];exact F,CmpOf.ints_gt (λi=>B.getD i 0) (λi v hv=>O i v (by simpa using hv)),λv h' tk hP kk=>?_⟩;have j:=hP;rw[l,KA]at j;obtain⟨t,rfl⟩:=O _ v j;exact⟨.int _,H,e.kept (yB kp u kk),⟨t,rfl⟩,q U H _ (Le.refl _ _) L (.int _)⟩
   .rw[f_ F]at q;exact q.elim
 .cases rp with
  |cons z C =>
   cases C with
   |cons r2 R =>
    cases R;cases z;cases r2;exact sR g.calm Kt s Z H _ us Q e r ⟨_,_,rfl,q U H _ (Le.refl _ _) L (.int _)⟩
 .exact q.elim
def FY(g:Good X N W G k):di X (.builtin "min") DC:=by
 intro Kt s Z H xs us Q e r ⟨U,h,ps,L,rp,q⟩;unfold DC at q
 split at q
 .rename_i x
  cases rp with
  |cons z C =>
  cases C
  cases M:(bM h x).bind gI with
  |none=>simp only[M]at q;exact q.elim
  |some B =>
   simp only[M]at q;by_cases F:0<B.length
   .rw[c_ F]at q;obtain⟨ys,e1,e2⟩:=Eu.mp M;obtain⟨a,zs,rfl,E,y⟩:=iz L z e1
    cases r with
    |cons ru P =>
     cases P;cases ru;refine call_min_walk (oM g.room.hd e E λo h2 It St S Wk st fp kp u=>?_);obtain⟨el,O⟩:=vB y S e2;have l:o.toArray.size=B.length:=by exact el
     refine⟨It,_,_,_,_,St,_,rfl,Wk,st,fp,by rw[l];exact F,CmpOf.ints_lt (λi=>B.getD i 0) (λi v hv=>O i v (by simpa using hv)),λv h' tk hP kk=>?_⟩;have j:=hP;rw[l,KA]at j;obtain⟨t,rfl⟩:=O _ v j;exact⟨.int _,H,e.kept (yB kp u kk),⟨t,rfl⟩,q U H _ (Le.refl _ _) L (.int _)⟩
   .rw[f_ F]at q;exact q.elim
 .cases rp with
  |cons z C =>
   cases C with
   |cons r2 R =>
    cases R;cases z;cases r2;exact t6 g.calm Kt s Z H _ us Q e r ⟨_,_,rfl,q U H _ (Le.refl _ _) L (.int _)⟩
 .exact q.elim
end
def RH.loose{K:ij}{mg:Dx}{U:SM}{H:Hp}{h:MH}(r:RH K mg U H h){p:Addr}(j:H p=Y)(g:HO):RH K mg U (k_ H p g) h/\Le U H U (k_ H p g):=by
 have i:∀n a,U[n]?=J a->a≠p:=λn a e z=>by
  obtain⟨t,_,q⟩:=r.obj e;rw[z,j]at q;exact q.some rfl
 have l:Le U H U (k_ H p g):=⟨⟨[],by simp⟩,λa xs e=>by rw[aS (bN e j)];exact e,λa s u e=>by rw[aS (bN e j)];exact e⟩;exact⟨⟨r.len,r.nd,λn a o e1 e2=>by rw[aS (i n a e1)];exact(r.at' n a o e1 e2).le l⟩,l⟩
section
variable{X:Cx}{N W G:R5}{k:Nat}
def mR(xs:R4)(i:Int)(v:PV):R4 :=
 let k:=if i<0 then(i+(xs.length:Int)).toNat else min i.toNat xs.length
 xs.take k++v::xs.drop k
def ku(n:Nat)(a:R4)(h:MH):SX:=match a with
 |[.int i,v]=>(match h[n]? with
  |some (.lst xs)=>if(-(2^63)<=i/\i<2^63)/\xs.length<sizeLine then .ok .non (h.set n (.lst (mR xs i v)))else .bad
  |_=>.bad)
 |_=>.bad
def As:Hc X "list.insert" (KQ X ku):=by
 intro Kt s Z H x vs v us Q u rx rv ⟨U,h,n,a,ps,e,en,rh,rp,q⟩;subst e;obtain⟨o,eo,ro⟩:=rh.obj en;unfold ku at q
 split at q
 .rename_i i O
  cases rp with
  |cons r1 t1 =>
   cases t1 with
   |cons r2 t2 =>
    cases t2;cases r1;rw[eo]at q
    cases o with
    |lst xs =>
     dsimp only at q;by_cases B:(-(2^63)<=i/\i<2^63)/\xs.length<sizeLine
     .rw[c_ B]at q;obtain⟨ys,ey,P⟩:=ro;cases rx
      cases rv with
      |cons E R=>cases R with
       |cons C F =>
        cases F
        rename_i v' u1 S
        obtain⟨t,rfl⟩:=E;obtain⟨z,g,nn,r,y,e⟩:=u.lstM ey
        let kk:=if i<0 then(i+(g.length:Int)).toNat else min i.toNat g.length
        have j:RPs X.K U H (mR xs i O) (ys.take kk++v'::ys.drop kk):=by
         have:(if i<0 then(i+(xs.length:Int)).toNat else min i.toNat xs.length)=kk:=by rw[P.length,y]
         delta mR;rw[this];exact(P.take kk).append (.cons r2 (P.drop kk))
        obtain⟨L,l'⟩:=rh.put en (o:=.lst (mR xs i O)) ⟨_,rfl,j⟩;refine call_meets PySem.F.slot_list_insert ⟨_,e,rfl⟩ PySem.F.entry_list_insert (PySem.F.args_list_insert_3 _ _ _) (AutoListH.list_insert_list_int_val_1 a g.toArray nn i t S (by rw[fitsIndex_both B.1.1 B.1.2];simp) (by rw[va];ext)) ⟨e,?_⟩;have l:=(r.take kk).append (.cons C (r.drop kk));have M:(ys.take kk++v'::ys.drop kk).length<=sizeLine:=by
         rw[<-j.length];have e1:(mR xs i O).length=xs.length+1:=by delta mR;simp only[DO,C1,HP,E3];ext
         ext
        refine⟨.non,_,u.lset (its':=g.take kk++S::g.drop kk) ey e ?_ l M,rfl,q U _ .non l' L .non⟩;simp[kk,List.extract];refine HH ?_;rw[E3];exact i3 _
     .rw[f_ B]at q;exact q.elim
    |_=>exact q.elim
 .exact q.elim
def yf(g:Good X N W G k){a:Expr}{m:Mx PV}{l y:String}{c o:Str}{i j j':Nat}{p q z P pt:Pos}{kt}(hi:G[i]?=J "isinstance")(hm:X.mg "isinstance"=Y)(hj:G[j]?=J c)(hc:X.mg c=Y)(hv:bootBuiltins c=J (.type l))(hT:Hk l)(F:G[j']?=J o)(a3:X.mg o=Y)(S:bootBuiltins o=J (.type y))(al:Hk y)(ha:ME X a m)(he:starEach [a,.Tuple [.Name c q,.Name o z] kt pt] X.env=(T,eval a X.env)::starEach [.Tuple [.Name c q,.Name o z] kt pt] X.env:=by rfl)(a7:starEach [.Tuple [.Name c q,.Name o z] kt pt] X.env=[(T,eval (.Tuple [.Name c q,.Name o z] kt pt) X.env)]:=by rfl)(ap:(backTo P (starEach [.Tuple [.Name c q,.Name o z] kt pt] X.env)).any (·.1)=T:=by rfl)(an:starEach [.Name c q,.Name o z] X.env=(T,eval (.Name c q) X.env)::starEach [.Name o z] X.env:=by rfl)(a0:starEach [.Name o z] X.env=[(T,eval (.Name o z) X.env)]:=by rfl):
  ME X (.Call (.Name "isinstance" p) [a,.Tuple [.Name c q,.Name o z] kt pt] [] P) (wx (dS [l,y]) m):=by
 have d1:=g.dbg _ (n4 _ (aA hi));have d:=g.dbg c (n4 _ (aA hj));have d':=g.dbg o (n4 _ (aA F));have C:ce X (.builtin "isinstance") (λxs H Q=>∃L E,xs=[L,.ref E]/\SqT X.K H E [.ty l,.ty y]/\uJ X (dS [l,y]) L H Q):=by
  intro Kt s Z H xs us Q B r ⟨L,E,e,a1,U,h,x,R,rx,q⟩;subst e
  cases r with
  |cons r1 t1=>cases t1 with
   |cons r2 t2 =>
    cases t2;cases r2;obtain⟨a4,rv,ht,_⟩:=B.tuple a1;have ei:a4=[.type l,.type y]:=by
     cases rv with
     |cons v1 w1=>cases w1 with
      |cons v2 w2 =>
       cases w2;rw[show _=Value.type l from v1,show _=Value.type y from v2]
    subst ei;obtain⟨⟨oc,od,a9,a8⟩,ho,ay,nn,a2⟩:=ht;subst ay;subst a2;unfold dS at q
    cases et:DJ h x with
    |none=>rw[et]at q;exact q.elim
    |some t =>
     rw[et]at q;obtain⟨O,as,Hq,Za,hz⟩:=nI B R rx r1 et;have M:PySem.W.kitAny X.K (.type t) [.type l,.type y]=J (cL t l||cL t y):=by
      unfold PySem.W.kitAny;rw[hT X.K t O]
      cases cL t l with
      |true=>rfl
      |false =>
       unfold PySem.W.kitAny;rw[al X.K t O];cases cL t y<;>rfl
     exact PySem.W.kia_tup Za B.kIn hz ho M as λtk=>⟨.bl _,H,B.tok _,rfl,by
      have z:=q U H _ (Le.refl _ _) R (.bl _)
      simpa using z⟩
 refine PE.imp (eG C (g.gl _ (aA hi)) hm PyProof.Rows.Boot.«isinstance» (bS ha (bS (uM (bS (nB (v:=.ty l) (u:=.type l) (g.gl c (aA hj)) hc hv rfl d.2.2 d.1) (bS (nB (v:=.ty y) (u:=.type y) (g.gl o (aA F)) a3 S rfl d'.2.2 d'.1) d7 a0) an)) d7 a7) he) d1.2.2 d1.1 he ap) λZ H Q ⟨U,ax,h,rs,R,q⟩=>?_;refine⟨U,ax,h,rs,R,Ful.bind q λU1 H1 x L h1 _ l1 a6 rx q1=>?_⟩;refine⟨by show 2<=sizeLine;decide,λE a5=>?_⟩;obtain⟨ab,l2⟩:=a6.tup a5 [.ty l,.ty y];exact⟨L,E,rfl,SqT.of bI,U1,h1,x,ab,rx.le l2,(Ful.le l2 q1).zero⟩
def Mo(g:TA):TE:=λZ H Q=>g Z H λe a=>∃j:Int,e=[.int j] /\ -(2^62)<=j/\j<2^62/\∀p,a p=Y->Q (.ref p) (k_ a p (.rng 0 j))
def Bb(L:Gl X "range")(C:X.mg "range"=Y)(F:PA X [a] ta)(z:starEach [a] X.env=[(T,eval a X.env)]:=by rfl):PE X (.Call (.Name "range" p) [a] [] pos) (Mo ta):=by
 intro E s Z H R g h;refine Call_ (gT g L C boot_range (PyProof.Rows.callWith_type1 (lf (F pos E s Z H _ g h) λO B ⟨Q,M,i,u,l⟩=>?_) z rfl));obtain⟨j,e,l,P,q⟩:=l;subst e
 cases u with
 |cons r y =>
  cases y;obtain⟨t,rfl⟩:=r;refine call_range_1 ⟨.ref B.heap.objs.size,_,i.laid (λb o e=>ls _ e) (i3 _) ?_,rfl,q _ (i.hok.fresh (i3 _))⟩;exact⟨_,_,_,q0 _ rfl⟩
def qx:∀(n:Nat)(lo:Int)(a:SQ),a.length=n->(∀(i:Nat)(v:Value),a[i]?=J v->∃t,v=.int (lo+i) t)->aI ((List.range n).map λi=>V.int (lo+(i:Nat))) a
 |0,lo,a,g,_=>by cases a with|nil=>exact .nil|cons _ _=>simp at g
 |n+1,lo,a,g,h=>by
  cases a with
  |nil=>simp at g
  |cons u a =>
   rw[OA,wj,zi];obtain⟨t,e⟩:=h 0 u rfl;refine .cons ⟨t,e⟩ ?_;have j:=qx n (lo+1) a (by simpa using g) λi v hv=>by
    obtain⟨t,e⟩:=h (i+1) v (by simpa using hv);exact⟨t,by rw[e];congr 1;push_cast;ext⟩
   have e2:((λi=>V.int (lo+((i:Nat):Int)))∘Nat.succ)=λi=>V.int (lo+1+((i:Nat):Int)):=by funext i;simp only[Function.comp];congr 1;push_cast;ext
   rw[e2];exact j
def uv(B:X.calm=I):ce X (.type "list") (λxs H Q=>∃r j,xs=[.ref r]/\H r=J (.rng 0 j) /\ -(2^62)<=j/\j<2^62/\j.toNat<=sizeLine/\∀l,H l=Y->Q (.ref l) (k_ H l (.lst ((List.range j.toNat).map λi=>V.int (0+(i:Nat)))))):=by
 intro Kt s Z H xs us Q a r ⟨P,j,e,S,O,R,z,q⟩;subst e
 cases r with
 |cons C L =>
  cases L;cases C;obtain⟨t,u,v,M⟩:=(a.hok P _ S);refine call_list_range (a.ok.hd B) M (small_one (by ext) (by ext) O R) (by rw[rangeSize_one];split<;>ext) z λh' U g E kp e y=>?_;have F:=qx _ 0 _ (by exact y.1) λi v hv=>by
   obtain⟨t,e⟩:=y.2 i v (by rw[<-BC];exact hv)
   grind
  refine⟨.ref s.heap.objs.size,_,a.laid (o:=.lst _) kp (i3 _) (⟨by simpa using z,g.toList,E,F,by simpa using e⟩),rfl,q _ (a.hok.fresh (i3 _))⟩
def QP(m:Mx (R4)):Mx PV:=λZ h=>(m Z h).bind λe a=>match e with
 |[.int j]=>if -(2^62)<=j/\j<2^62/\j.toNat<=sizeLine then .ok (.loc a.length) (a++[.lst (bX 0 j.toNat)])else .bad
 |_=>.bad
def sS{K:ij}{U:SM}{H:Hp}{lo:Int}:∀(l:R8),RPs K U H (l.map λ(i:Nat)=>PV.int (lo+(i:Int))) (l.map λ(i:Nat)=>V.int (lo+(i:Int)))
 |[]=>.nil
 |i::l=>.cons (.int _) (sS l)
def CQ(g:Good X N W G k){a:Expr}{m:Mx (R4)}{i j:Nat}{p F B e:Pos}(O:G[i]?=J "list")(hm:X.mg "list"=Y)(hj:G[j]?=J "range")(L:X.mg "range"=Y)(ha:MA X [a] m)(hs:starEach [a] X.env=[(T,eval a X.env)]:=by rfl)(P:starEach [.Call (.Name "range" F) [a] [] e] X.env=[(T,eval (.Call (.Name "range" F) [a] [] e) X.env)]:=by rfl):ME X (.Call (.Name "list" p) [.Call (.Name "range" F) [a] [] e] [] B) (QP m):=by
 have d:=g.dbg _ (n4 _ (aA O));refine PE.imp (jD (uv g.calm) (g.gl _ (aA O)) hm PyProof.Rows.Boot.«list» (bS (Bb (g.gl _ (aA hj)) L ha hs) d7 P) d.2.2 d.1 P rfl) λZ H Q ⟨U,E,h,rs,rh,q⟩=>?_;refine⟨U,E,h,rs,rh,Ful.bind q λU1 H1 x x' h1 _ l1 u rx s=>?_⟩
 cases rx with
 |nil=>exact s.elim
 |cons M S =>
  cases S with
  |cons _ _=>cases M<;>exact s.elim
  |nil =>
   cases M with
   |int t =>
    dsimp only at s;by_cases z:-(2^62)<=t/\t<2^62/\t.toNat<=sizeLine
    .rw[c_ z]at s;refine⟨t,rfl,z.1,z.2.1,λr hr=>?_⟩;obtain⟨y,l2⟩:=u.loose hr (.rng 0 t);refine⟨r,t,rfl,bI,z.1,z.2.1,z.2.2,λl R=>?_⟩;obtain⟨C,l3⟩:=y.new R (o:=.lst (bX 0 t.toNat)) ⟨_,rfl,sS _⟩;exact s _ _ _ (l2.trans l3) C (.loc (by rw[<-u.len];simp))
    .rw[f_ z]at s;exact s.elim
   |_=>exact s.elim
end
end MM
namespace SetT
open PySem.SetTable
def dY(xs:Array Nat):Prop:=∀a b u v:Nat,a<b->xs[a]?=J u->xs[b]?=J v->u<v
def B9(xs:Array Nat)(j:Nat)(E:dY xs):∀g lo e:Nat,e-lo<=g->lo<=e->e<=xs.size ->
  (∀a v,xs[a]?=J v->a<lo->v<j)->(∀a v,xs[a]?=J v->e<=a->j<=v) ->
  below.go xs j g lo e<=xs.size/\(∀a v,xs[a]?=J v->a<below.go xs j g lo e->v<j) /\
   (∀a v,xs[a]?=J v->below.go xs j g lo e<=a->j<=v):=by
 intro g
 induction g with
 |zero =>
  intro lo e G H u s r
  have:lo=e:=by lia
  subst this;exact⟨u,s,r⟩
 |succ f B =>
  intro lo e G H u s r;unfold below.go;by_cases l:lo<e
  .simp only[l,if_true];have o:(lo+e)/2<xs.size:=by lia
   have t:xs[(lo+e)/2]?=J (xs[(lo+e)/2]'o):=K5 o;have hd:xs.getD ((lo+e)/2) j=xs[(lo+e)/2]'o:=by simp[Array.getD,o]
   rw[hd];by_cases y:xs[(lo+e)/2]'o<j
   .simp only[y,if_true];apply B
    .lia
    .lia
    .lia
    .intro a v i C;by_cases z:a=(lo+e)/2
     .subst z;rw[t]at i;cases i;exact y
     .have:=E a ((lo+e)/2) v _ ⋯ i t;lia
    .exact r
   .simp only[y,if_false];apply B
    .lia
    .lia
    .lia
    .exact s
    .intro a v i F;by_cases z:a=(lo+e)/2
     .subst z;rw[t]at i;cases i;lia
     .have:=E ((lo+e)/2) a _ v ⋯ t i;lia
  .simp only[l,if_false]
   have:lo=e:=by lia
   subst this;exact⟨u,s,r⟩
def dH(xs:Array Nat)(j:Nat)(e:dY xs):
  below xs j<=xs.size/\(∀a v,xs[a]?=J v->a<below xs j->v<j)/\(∀a v,xs[a]?=J v->below xs j<=a->j<=v):=by
 apply B9 xs j e
 .lia
 .lia
 .lia
 .lia
 .intro a v g h
  simp_all
def iU(xs:Array Nat)(i j:Nat)(g:dY xs)(h:xs[i]?=J j):below xs j=i:=by
 obtain⟨_,l,r⟩:=dH xs j g;by_cases s:i<below xs j
 .have:=l i j h s;lia
 .by_cases o:below xs j=i
  .exact o
  .have a:below xs j<i:=by lia
   have y:i<xs.size:=by grind
   have e:xs[below xs j]?=J (xs[below xs j]'⋯):=K5 ⋯;have t:=g _ i _ j a e h;have u:=r _ _ e (i3 _);lia
def Ce(a:Array Nat)(s:Nat):Prop:=∃i:Nat,a[i]?=J s
def qR(j:Nat):has (#[]:Array Nat) j=T:=by delta has;simp
def sC(t:SetTable)(a:dY t.place)(i s:Nat)(h:t.place[i]?=J s):t.slot s=.live i:=by unfold SetTable.slot;simp only[iU t.place i s a h,h];simp
def qO(t:SetTable)(hd:t.dummies=#[])(s:Nat)(h:¬Ce t.place s):t.slot s=.empty:=by
 unfold SetTable.slot;simp only[hd,qR];split
 .rename_i a
  exact absurd ⟨_,by simpa using a⟩ h
 .simp
def cN(xs:Array α)(p:Nat)(x:α)(g:p<=xs.size)(i:Nat):
  (insertAt xs p x)[i]?=if i<p then xs[i]? else if i=p then J x else xs[i-1]?:=by
 unfold insertAt;have e1:(xs.extract 0 p).size=p:=by simp;lia
 rw[Array.getElem?_append];simp only[Fg,e1];split
 .rw[Array.getElem?_push];simp only[e1];split
  .rename_i a;subst a;simp
  .rw[K7];lia
 .have a:¬i<p:=by lia
  have j:¬i=p:=by lia
  rw[K7];have e2:p+(i-(p+1))=i-1:=by lia
  simp only[e2];split
  .rfl
  .rename_i e
   rw[QC];simp at e;lia
def cA(xs:Array α)(p:Nat)(x:α)(a:p<=xs.size):(insertAt xs p x).size=xs.size+1:=by unfold insertAt;simp;lia
def u0(f:α->β)(xs:Array α)(p:Nat)(x:α):(insertAt xs p x).map f=insertAt (xs.map f) p (f x):=by unfold insertAt;simp
def qA(x M:Nat):x % (M+1)<=M:=Nat.le_of_lt_succ (Nat.mod_lt x (Nat.succ_pos M))
def DV(M:Nat)(p:Probe):Probe :=
 if p.more>0 then { p with j:=p.j+1,more:=p.more-1} else
 { p with j:=(leap M p.i p.perturb).1,more:=runEnd M (leap M p.i p.perturb).1-(leap M p.i p.perturb).1,i:=(leap M p.i p.perturb).1,perturb:=(leap M p.i p.perturb).2}
def zo(t:SetTable)(p:Probe):t.advance p=DV t.mask p:=by unfold SetTable.advance DV;rfl
def ES(M:Nat)(h:Int):Probe:={ j:=bits h % (M+1),more:=runEnd M (bits h % (M+1))-bits h % (M+1),i:=bits h % (M+1),perturb:=bits h,dummy:=Y}
def st(M:Nat)(h:Int):Nat->Probe
 |0=>ES M h
 |n+1=>DV M (st M h n)
def sl(M:Nat)(h:Int)(n:Nat):Nat:=(st M h n).j
def gX(M i:Nat)(h:i<=M):i<=runEnd M i/\runEnd M i<=M/\runEnd M i-i<=9:=by unfold runEnd;split<;>lia
def Bt(M:Nat)(h:Int)(n:Nat):(st M h n).i<=M/\(st M h n).j+(st M h n).more=runEnd M (st M h n).i/\(st M h n).dummy=Y:=by
 induction n with
 |zero =>
  have a:bits h % (M+1)<=M:=qA _ _
  have:=gX M _ a
  refine⟨a,?_,rfl⟩;show bits h % (M+1)+(runEnd M (bits h % (M+1))-bits h % (M+1))=runEnd M (bits h % (M+1));lia
 |succ n e =>
  show(DV M (st M h n)).i<=M/\(DV M (st M h n)).j+(DV M (st M h n)).more=runEnd M (DV M (st M h n)).i/\(DV M (st M h n)).dummy=Y;delta DV;split
  .lia
  .have a:(leap M (st M h n).i (st M h n).perturb).1<=M:=qA _ _
   have:=gX M _ a
   grind
def Hm(M:Nat)(h:Int)(n:Nat):sl M h n<=M:=by
 have:=Bt M h n
 have a:=gX M _ this.1;delta sl;lia
def base(M:Nat)(h:Int):Nat->Nat×Nat
 |0=>(bits h % (M+1),bits h)
 |b+1=>leap M (base M h b).1 (base M h b).2
def rW(M:Nat)(h:Int)(b:Nat):(base M h b).1<=M:=by
 cases b with
 |zero=>exact qA _ _
 |succ b =>
  exact qA _ _
def tb(M:Nat)(h:Int):Nat->Nat
 |0=>0
 |b+1=>tb M h b+(runEnd M (base M h b).1-(base M h b).1)+1
def Mp(M:Nat)(h:Int)(b:Nat):tb M h b<=10*b:=by
 induction b with
 |zero=>exact i3 _
 |succ b a =>
  have:=gX M _ (rW M h b)
  show tb M h b+(runEnd M (base M h b).1-(base M h b).1)+1<=10*(b+1);lia
def Mq(M:Nat)(h:Int)(b k:Nat):Probe :=
 { j:=(base M h b).1+k,more:=runEnd M (base M h b).1-(base M h b).1-k,i:=(base M h b).1,perturb:=(base M h b).2,dummy:=Y}
def vp(M:Nat)(h:Int)(b:Nat):∀k,k<=runEnd M (base M h b).1-(base M h b).1->st M h (tb M h b+k)=Mq M h b k:=by
 induction b with
 |zero =>
  intro k
  induction k with
  |zero=>intro _;rfl
  |succ k e =>
   intro g;show DV M (st M h (tb M h 0+k))=_;rw[e ⋯];delta DV Mq;lia
 |succ b a =>
  intro k
  induction k with
  |zero =>
   intro _;show DV M (st M h (tb M h b+(runEnd M (base M h b).1-(base M h b).1)))=_;rw[a _ (i3 _)];delta DV Mq;simp;exact⟨rfl,rfl,rfl,rfl⟩
  |succ k e =>
   intro g;show DV M (st M h (tb M h (b+1)+k))=_;rw[e ⋯];delta DV Mq
   have:runEnd M (base M h (b+1)).1-(base M h (b+1)).1-k>0:=by lia
   lia
def FZ(h:Int):bits h<2^64:=by unfold bits;lia
def zT(M:Nat)(h:Int):∀b,(base M h b).2=bits h/32^b:=by
 intro b
 induction b with
 |zero=>simp[base]
 |succ b a =>
  show(base M h b).2/32=_;rw[a,Nat.div_div_eq_div_mul,Nat.pow_succ]
def yI(M:Nat)(h:Int)(b:Nat)(a:13<=b):(base M h b).2=0:=by rw[zT];apply Nat.div_eq_of_lt;have e:=FZ h;have g:32^13<=32^b:=Nat.pow_le_pow_right (by decide) a;lia
def DW(M:Nat):Nat->Nat->Nat
 |0,x=>x
 |n+1,x=>(DW M n x*5+1) % (M+1)
def C2(M:Nat)(h:Int)(n:Nat):(base M h (13+n)).1=DW M n (base M h 13).1:=by
 induction n with
 |zero=>rfl
 |succ n a =>
  show((base M h (13+n)).1*5+1+(base M h (13+n)).2/32) % (M+1)=(DW M n (base M h 13).1*5+1) % (M+1);rw[a,yI M h (13+n) ⋯]
def nF(M:Nat)(a b x:Nat):DW M (a+b) x=DW M a (DW M b x):=by
 induction a with
 |zero=>simp[DW]
 |succ a e=>rw[Nat.succ_add];show(DW M (a+b) x*5+1) % (M+1)=(DW M a (DW M b x)*5+1) % (M+1);rw[e]
def KS(M:Nat):Nat->Nat->R8
 |0,_=>[]
 |n+1,x=>x::KS M n ((x*5+1) % (M+1))
def Cu(M n x:Nat):DW M n ((x*5+1) % (M+1))=DW M (n+1) x:=by
 have:=nF M n 1 x
 rw[this];rfl
def xM(M:Nat)(s:Nat):∀n x,s∈KS M n x->∃m,m<n/\DW M m x=s:=by
 intro n
 induction n with
 |zero=>intro x h;cases h
 |succ n a =>
  intro x h
  cases h with
  |head=>exact⟨0,⋯,rfl⟩
  |tail _ h =>
   obtain⟨m,g,e⟩:=a _ h;exact⟨m+1,⋯,by rw[<-e,Cu]⟩
def gz(M:Nat):Prop:=DW M (M+1) 0=0/\∀s,s<=M->s∈KS M (M+1) 0
set_option maxRecDepth 100000 in
theorem Mr:gz 7:=⟨by decide,by
 have:∀s:Fin 8,(KS 7 8 0).contains s.val=I:=by decide
 intro s a;have:=this ⟨s,⋯⟩;simpa using this⟩
set_option maxRecDepth 100000 in
theorem Jj:gz 31:=⟨by decide,by
 have:(List.range 32).all (λs=>(KS 31 32 0).contains s)=I:=by decide
 intro s e;have a:=HR.mp this s (by simp;lia)
 simpa using a⟩
set_option maxRecDepth 100000 in
theorem F0:gz 127:=⟨by decide,by
 have:(List.range 128).all (λs=>(KS 127 128 0).contains s)=I:=by decide
 intro s e;have a:=HR.mp this s (by simp;lia)
 simpa using a⟩
def AU(M:Nat)(hf:gz M)(x s:Nat)(i:x<=M)(j:s<=M):∃m,m<=2*M+1/\m<=M/\DW M m x=s:=by
 obtain⟨a,o,g⟩:=xM M x _ _ (hf.2 x i);obtain⟨b,l,e⟩:=xM M s _ _ (hf.2 s j);by_cases h:a<=b
 .refine⟨b-a,⋯,⋯,?_⟩;rw[<-g,<-nF,Nat.sub_add_cancel h];exact e
 .refine⟨M+1-a+b,⋯,⋯,?_⟩;rw[<-g,<-nF]
  have:M+1-a+b+a=b+(M+1):=by lia
  rw[this,nF,hf.1];exact e
def qF(M:Nat)(hf:gz M)(h:Int)(s:Nat)(a:s<=M):∃b,b<=M+13/\(base M h b).1=s:=by obtain⟨m,_,g,e⟩:=AU M hf (base M h 13).1 s (rW M h 13) a;exact⟨13+m,⋯,by rw[C2];exact e⟩
def CV(M:Nat)(hf:gz M)(h:Int)(s:Nat)(a:s<=M):∃n,n<=10*(M+13)/\sl M h n=s:=by
 obtain⟨b,g,e⟩:=qF M hf h s a;refine⟨tb M h b,?_,?_⟩
 .have:=Mp M h b;lia
 .have:=vp M h b 0 ⋯
  delta sl;rw[Nat.add_zero]at this;rw[this];show(base M h b).1+0=s;lia
structure WF(M:Nat)(pl:Array Nat)(hs:Array Int):Prop where
 rise:dY pl
 bound:∀i v:Nat,pl[i]?=J v->v<=M
 size:pl.size=hs.size
 reach:∀(i:Nat)(h:Int)(v:Nat),hs[i]?=J h->pl[i]?=J v->∃n,sl M h n=v/\∀m,m<n->Ce pl (sl M h m)
def eW{α:Type}{xs:Array α}{i:Nat}{v:α}(h:xs[i]?=J v):i<xs.size:=by grind
def eA{α:Type}(xs:Array α)(i:Nat)(h:i<xs.size):∃v,xs[i]?=J v:=⟨_,K5 h⟩
def AN(e:Array Nat)(l:dY e)(M:Nat)(h:∀s,s<=M->Ce e s):∀s i:Nat,s<=M->e[i]?=J s->s<=i:=by
 intro s
 induction s with
 |zero=>lia
 |succ s o =>
  intro i u g;obtain⟨k,a⟩:=h s ⋯;have r:=o k ⋯ a;by_cases t:k<i
  .lia
  .by_cases j:k=i
   .subst j;rw[a]at g;cases g
   .have:=l i k (s+1) s ⋯ g a;lia
def AJ(e:Array Nat)(o:dY e)(M:Nat)(j:e.size<=M):∃s,s<=M/\¬Ce e s:=by
 apply Classical.byContradiction;intro l;have a:∀s,s<=M->Ce e s:=by
  intro s r
  simp_all
 obtain⟨i,g⟩:=a M (i3 _)
 have:=AN e o M a M i (i3 _) g
 have:=eW g
 lia
def Ms(P:Nat->Prop):∀n,P n->∃m,m<=n/\P m/\∀k,k<m->¬P k:=by
 intro n
 induction n using Nat.strongRecOn with
 |_ n i =>
  intro g;by_cases h:∃k,k<n/\P k
  .obtain⟨k,e,a⟩:=h;obtain⟨m,j,r⟩:=i k e a;exact⟨m,⋯,r⟩
  .exact⟨n,i3 _,g,λk e a=>h ⟨k,e,a⟩⟩
def zf(a:Array Nat)(o:dY a)(M:Nat)(hf:gz M)(g:a.size<=M)(h:Int):
  ∃n,n<=10*(M+13)/\¬Ce a (sl M h n)/\∀m,m<n->Ce a (sl M h m):=by
 obtain⟨s,r,i⟩:=AJ a o M g;obtain⟨n,u,e⟩:=CV M hf h s r;obtain⟨m,y,j,t⟩:=Ms (λn=>¬Ce a (sl M h n)) n (by rw[e];exact i);exact⟨m,⋯,j,λk l=>Classical.byContradiction (t k l)⟩
def Bu(t:SetTable)(hd:t.dummies=#[])(H:dY t.place)(hashAt:Nat->Int)(h:Int)(o:Nat)(E:¬Ce t.place (sl t.mask h o))(y:∀m,m<o->Ce t.place (sl t.mask h m)):
  ∀e n,n<=o->o-n<e ->
   (probe.go t hashAt h e (st t.mask h n)=J (.empty (sl t.mask h o) Y) /\
    ∀m i:Nat,n<=m->m<o->t.place[i]?=J (sl t.mask h m)->hashAt i≠h) \/
   (∃m i:Nat,n<=m/\m<o/\t.place[i]?=J (sl t.mask h m)/\hashAt i=h /\
    probe.go t hashAt h e (st t.mask h n)=J (.candidate (sl t.mask h m) i (st t.mask h (m+1))) /\
    ∀r g:Nat,n<=r->r<m->t.place[g]?=J (sl t.mask h r)->hashAt g≠h):=by
 intro e
 induction e with
 |zero=>intro n Z h2;lia
 |succ f Q =>
  intro n Z h2;by_cases W:n=o
  .subst W;left;refine⟨?_,λm i B z=>by lia⟩;unfold probe.go;have j:=qO t hd _ E;unfold sl at j;simp only[j]
   have:=(Bt t.mask h n).2.2
   rw[this];rfl
  .obtain⟨i,C⟩:=y n ⋯;have j:=sC t H i _ C;have M:probe.go t hashAt h (f+1) (st t.mask h n)=if hashAt i==h then J (.candidate (sl t.mask h n) i (st t.mask h (n+1)))else probe.go t hashAt h f (st t.mask h (n+1)):=by
    conv=>lhs;unfold probe.go
    unfold sl at j;simp only[j,zo];rfl
   by_cases s:hashAt i=h
   .right;refine⟨n,i,i3 _,⋯,C,s,?_,λr g B z=>by lia⟩;rw[M];simp[s]
   .have L:probe.go t hashAt h (f+1) (st t.mask h n)=probe.go t hashAt h f (st t.mask h (n+1)):=by
     rw[M];simp[s]
    rw[L];have l:∀g:Nat,t.place[g]?=J (sl t.mask h n)->g=i:=by intro g F;have a:=iU _ _ _ H C;have b:=iU _ _ _ H F;lia
    rcases Q (n+1) ⋯ ⋯with⟨R,r2⟩|⟨m,P,q1,X,S,U,q5,O⟩
    .left;refine⟨R,?_⟩;intro m g B z u;by_cases G:m=n
     .subst G;rw[l g u];exact s
     .exact r2 m g ⋯ z u
    .right;refine⟨m,P,⋯,X,S,U,q5,?_⟩;intro r g B z u;by_cases G:r=n
     .subst G;rw[l g u];exact s
     .exact O r g ⋯ z u
def qS(e:Array Nat)(p s:Nat)(g:p<=e.size)(x:Nat)(h:Ce e x):Ce (insertAt e p s) x:=by
 obtain⟨i,j⟩:=h;by_cases l:i<p
 .exact⟨i,by rw[cN _ _ _ g];simp[l,j]⟩
 .refine⟨i+1,?_⟩;rw[cN _ _ _ g];have a:¬i+1<p:=by lia
  have b:¬i+1=p:=by lia
  simp[a,b,j]
def v6(j:Array Nat)(s:Nat)(o:dY j)(r:¬Ce j s):dY (insertAt j (below j s) s):=by
 obtain⟨G,t,z⟩:=dH j s o;intro a b u v B l g;rw[cN _ _ _ G]at l g;have y:=λi C=>r ⟨i,C⟩
 split at l
 .rename_i F
  have E:=t a u l F
  split at g
  .exact o a b u v B l g
  .split at g
   .cases g;exact E
   .exact o a (b-1) u v ⋯ l g
 .split at l
  .have e1:¬b<below j s:=by lia
   have e2:¬b=below j s:=by lia
   simp only[e1,e2,if_false]at g
   have:=z (b-1) v g ⋯
   have H:v≠s:=λe=>y (b-1) (by rw[g,e]);lia
  .have e1:¬b<below j s:=by lia
   have e2:¬b=below j s:=by lia
   simp only[e1,e2]at g;exact o (a-1) (b-1) u v ⋯ l g
def Jk(M:Nat)(a:Array Nat)(y:Array Int)(w:WF M a y)(h:Int)(n:Nat)(u:¬Ce a (sl M h n))(o:∀m,m<n->Ce a (sl M h m)):
  WF M (insertAt a (below a (sl M h n)) (sl M h n)) (insertAt y (below a (sl M h n)) h):=by
 have l:=(dH a (sl M h n) w.rise).1;have t:below a (sl M h n)<=y.size:=by have:=w.size;lia
 refine⟨v6 a _ w.rise u,?_,?_,?_⟩
 .intro i v j;rw[cN _ _ _ l]at j
  split at j
  .exact w.bound _ _ j
  .split at j
   .cases j;exact Hm M h n
   .exact w.bound _ _ j
 .rw[cA _ _ _ l,cA _ _ _ t,w.size]
 .intro i C v g hv;rw[cN _ _ _ l]at hv;rw[cN _ _ _ t]at g
  split at hv
  .rename_i z
   simp only[z]at g;obtain⟨k,e,r⟩:=w.reach i C v g hv;exact⟨k,e,λm s=>qS _ _ _ l _ (r m s)⟩
  .rename_i z
   split at hv
   .rename_i B
    simp only[B]at g;cases hv;simp at g;cases g;exact⟨n,rfl,λm s=>qS _ _ _ l _ (o m s)⟩
   .rename_i B
    simp only[z,B]at g;obtain⟨k,e,r⟩:=w.reach (i-1) C v g hv;exact⟨k,e,λm s=>qS _ _ _ l _ (r m s)⟩
def i8(ow:Array (SG))(s:Nat):Prop:=∃i:Nat,ow[s]?=J (J i)
structure LC(M:Nat)(ow:Array (SG))(k:Nat)(hs:Array Int):Prop where
 size:ow.size=M+1
 own:∀i,i<k->∃j:Nat,ow[j]?=J (J i)
 inj:∀i j j':Nat,ow[j]?=J (J i)->ow[j']?=J (J i)->j=j'
 lt:∀j i:Nat,ow[j]?=J (J i)->i<k
 reach:∀(j i:Nat)(h:Int),ow[j]?=J (J i)->hs[i]?=J h->∃n,sl M h n=j/\∀m,m<n->i8 ow (sl M h m)
def kT(ow:Array (SG))(s:Nat)(a:s<ow.size):(ow.getD s (J 0)).isNone=I↔¬i8 ow s:=by
 delta i8
 have:=K5 a
 simp only[Array.getD,a,this]
 cases h:ow[s]'a with
 |none=>simp[h]
 |some v=>simp[h]
def Bl(M:Nat)(hf:gz M)(ow:Array (SG))(O:ow.size=M+1)(h:Int)(s:Nat)(S:s<=M)(F:¬i8 ow s):
  ∀a b,M+13<b+a->(∀m,m<tb M h b->i8 ow (sl M h m)) ->
   ∃n,layClean.free M ow a (base M h b).1 (base M h b).2=J (sl M h n)/\¬i8 ow (sl M h n)/\∀m,m<n->i8 ow (sl M h m):=by
 have l:∀b c,b<c->tb M h b<tb M h c:=by
  intro b c L
  induction c with
  |zero=>lia
  |succ c C =>
   show tb M h b<tb M h c+(runEnd M (base M h c).1-(base M h c).1)+1;by_cases e:b=c
   .subst e;lia
   .have:=C ⋯;lia
 intro a
 induction a with
 |zero =>
  intro b U g;obtain⟨z,Z,e⟩:=qF M hf h s S;have y:=l z b ⋯;have o:=g _ y;have t:=vp M h z 0 ⋯;rw[Nat.add_zero]at t;unfold sl at o;rw[t]at o
  have:(Mq M h z 0).j=s:=by show(base M h z).1+0=s;lia
  rw[this]at o;exact absurd o F
 |succ f C =>
  intro b U g;have E:=rW M h b;have Q:=gX M _ E;have i:∀k,k<=runEnd M (base M h b).1-(base M h b).1->sl M h (tb M h b+k)=(base M h b).1+k:=by intro k H;delta sl;rw[vp M h b k H];rfl
  unfold layClean.free
  cases r:(List.range (runEnd M (base M h b).1+1-(base M h b).1)).find? λk=>(ow.getD ((base M h b).1+k) (J 0)).isNone with
  |some k =>
   rw[List.find?_range_eq_some]at r;obtain⟨R,W,P⟩:=r;have H:k<runEnd M (base M h b).1+1-(base M h b).1:=by simpa using W
   refine⟨tb M h b+k,?_,?_,?_⟩
   .rw[i k ⋯]
   .rw[i k ⋯];exact(kT ow _ ⋯).mp R
   .intro m G;by_cases y:m<tb M h b
    .exact g m y
    .have e:m=tb M h b+(m-tb M h b):=by lia
     rw[e,i _ ⋯];have o:=P (m-tb M h b) ⋯;have t:=kT ow ((base M h b).1+(m-tb M h b)) ⋯;apply Classical.byContradiction;intro B;rw[t.mpr B]at o;simp at o
  |none =>
   rw[List.find?_range_eq_none]at r;have u:∀m,m<tb M h (b+1)->i8 ow (sl M h m):=by
    intro m G;by_cases y:m<tb M h b
    .exact g m y
    .have X:m<tb M h b+(runEnd M (base M h b).1-(base M h b).1)+1:=G;have e:m=tb M h b+(m-tb M h b):=by lia
     rw[e,i _ ⋯];have o:=r (m-tb M h b) ⋯;have t:=kT ow ((base M h b).1+(m-tb M h b)) ⋯;apply Classical.byContradiction;intro B;rw[t.mpr B]at o;simp at o
   exact C (b+1) ⋯ u
def F1(M:Nat)(ow:Array (SG))(k:Nat)(j:Array Int)(c:LC M ow k j)(G:k<=M):∃s,s<=M/\¬i8 ow s:=by
 apply Classical.byContradiction;intro r;have l:=λs j=>Classical.byContradiction (λh=>r ⟨s,j,h⟩);have g:∀s,s<=M->ow[s]?=J (J ((ow.getD s Y).getD 0)):=by
  intro s j;obtain⟨i,F⟩:=l s j
  simp_all
 have y:((List.range (M+1)).map (λs=>(ow.getD s Y).getD 0)).Nodup:=by unfold List.Nodup;rw[G6];apply List.Pairwise.imp_of_mem _ NF;intro a b C B t e;have u:=g a (by simp at C;lia);have z:=g b (by simp at B;lia);rw[<-e]at z;exact t (c.inj _ _ _ u z)
 have o:((List.range (M+1)).map (λs=>(ow.getD s Y).getD 0)) ⊆ List.range k:=by
  intro x E;obtain⟨s,j,e⟩:=mx.mp E;have u:=g s (by simp at j;lia)
  have:=c.lt _ _ u
  rw[e]at this;simpa using this
 have:=List.Nodup.length_le_of_subset y o
 simp at this;lia
def F2(M:Nat)(hf:gz M)(ow:Array (SG))(k:Nat)(y:Array Int)(c:LC M ow k y)(Q:k<=M)(h:Int)(H:y[k]?=J h):
  ∃j,layClean.free M ow (turns M) (bits h % (M+1)) (bits h)=J j/\LC M (ow.setIfInBounds j (J k)) (k+1) y:=by
 obtain⟨s,z,F⟩:=F1 M ow k y c Q;obtain⟨n,e,C,t⟩:=Bl M hf ow c.size h s z F (turns M) 0 (by unfold turns;lia) (by intro m u;exact absurd u (Nat.not_lt_zero m));refine⟨sl M h n,e,?_⟩;have E:=Hm M h n;have B:sl M h n<ow.size:=by have:=c.size;lia
 have a:∀s:Nat,(ow.setIfInBounds (sl M h n) (J k))[s]?=if s=sl M h n then J (J k)else ow[s]?:=by
  intro s;by_cases e:sl M h n=s
  .subst e;simp[B]
  .have e2:¬s=sl M h n:=λx=>e x.symm;simp[e,e2]
 have l:∀s,i8 ow s->i8 (ow.setIfInBounds (sl M h n) (J k)) s:=by
  intro s ⟨i,G⟩;by_cases e:s=sl M h n
  .exact⟨k,by rw[a];simp[e]⟩
  .exact⟨i,by rw[a];simp[e,G]⟩
 refine⟨by simp[c.size],?_,?_,?_,?_⟩
 .intro i G;by_cases e:i=k
  .subst e;exact⟨sl M h n,by rw[a];simp⟩
  .obtain⟨j,E⟩:=c.own i ⋯;refine⟨j,?_⟩;rw[a]
   have:¬j=sl M h n:=λe=>C ⟨i,by rw[<-e];exact E⟩
   simp[this,E]
 .intro i j P g o;rw[a]at g o;by_cases e1:j=sl M h n<;>by_cases e2:P=sl M h n
  .rw[e1,e2]
  .simp[e1]at g;simp[e2]at o
   have:=c.lt _ _ o;lia
  .simp[e1]at g;simp[e2]at o
   have:=c.lt _ _ g;lia
  .simp[e1]at g;simp[e2]at o;exact c.inj _ _ _ g o
 .intro j i g;rw[a]at g;by_cases e1:j=sl M h n
  .simp[e1]at g;lia
  .simp[e1]at g;have:=c.lt _ _ g;lia
 .intro j i R g o;rw[a]at g;by_cases e1:j=sl M h n
  .simp[e1]at g;subst g;rw[H]at o;cases o;exact⟨n,e1.symm,λm u=>l _ (t m u)⟩
  .simp[e1]at g;obtain⟨L,O,r⟩:=c.reach _ _ _ g o;exact⟨L,O,λm u=>l _ (r m u)⟩
def Jl(M:Nat)(g:Array Int):LC M (Array.replicate (M+1) Y) 0 g:=by
 have a:∀(s i:Nat),(Array.replicate (M+1) (Y:SG))[s]?≠J (J i):=by
  intro s i h;rw[Qy]at h
  split at h<;>cases h
 exact⟨by simp,λi o=>by lia,λi j l h=>absurd h (a _ _),λj i h=>absurd h (a _ _),λj i h e=>absurd e (a _ _)⟩
def um(M:Nat)(hf:gz M)(g:Array Int)(t:g.size<=M):∀(l:R6)(ow:Array (SG))(k:Nat),
  LC M ow k g->(∀q:Nat,l[q]?=g[k+q]?)->k<=g.size ->
  ∃a,(l.foldl (init:=J (ow,k)) λr h=>do
   let(owner,k) <-r
   let j <-layClean.free M owner (turns M) (bits h % (M+1)) (bits h)
   pure (owner.setIfInBounds j (J k),k+1))=J (a,g.size)/\LC M a g.size g:=by
 intro l
 induction l with
 |nil =>
  intro ow k c i C
  have:=i 0
  simp at this;have o:k=g.size:=by lia
  subst o;exact⟨ow,rfl,c⟩
 |cons h l u =>
  intro ow k c i C;have s:=i 0;have z:=eW s.symm;obtain⟨j,e,y⟩:=F2 M hf ow k g c ⋯ h s.symm
  obtain⟨a,e2,B⟩:=u (ow.setIfInBounds j (J k)) (k+1) y (by
   intro q
   have:=i (q+1)
   simp at this
   lia) ⋯
  refine⟨a,?_,B⟩;rw[<-e2];simp[e]
def wM(M:Nat)(hf:gz M)(a:Array Int)(g:a.size<=M):∃ow,layClean M a=J ow/\LC M ow a.size a:=by
 obtain⟨ow,e,c⟩:=um M hf a g a.toList _ 0 (Jl M a) (by simp) ⋯;refine⟨ow,?_,c⟩;unfold layClean
 simp_all
def wZ{L:R8}(h:L.Pairwise (·<·)):dY L.toArray:=by intro a b u v i r o;simp at r o;obtain⟨l,j⟩:=mw.mp r;obtain⟨g,e⟩:=mw.mp o;rw[<-j,<-e];exact G1.mp h a b l g i
def fu{α β:Type}(f:α->Option β):∀(l:List α),(∀x,x∈l->∃v,f x=J v)->∀q:Nat,(l.filterMap f)[q]?=l[q]?.bind f:=by
 intro l
 induction l with
 |nil=>intro _ q;simp
 |cons x l e =>
  intro h q;obtain⟨v,hv⟩:=h x (by simp);rw[Lb,hv]
  cases q with
  |zero=>simp[hv]
  |succ q=>exact e (λy a=>h y (by simp[a])) q
def ii{α:Type}(a:Array α):(List.range a.size).filterMap (a[·]?)=a.toList:=by
 apply G7;intro q;rw[fu _ _ (by intro x e;exact eA a x (by simpa using e))];by_cases h:q<a.size
 .rw[List.getElem?_range h];simp
 .rw[Eh (by simp;lia)];simp;lia
def F3{α:Type}(M:Nat)(hf:gz M)(u:α->Int)(s:Array α)(S:s.size<=M)(fin mv:Nat)(led O:Bool):
  ∃pl o,laid M fin mv led O (s.map u)=J ({ mask:=M,place:=pl,dummies:=#[],finger:=fin,led:=led,moves:=mv,plain:=O},o) /\
   WF M pl ((o.filterMap (s[·]?)).map u)/\(o.filterMap (s[·]?)).size=s.size/\(o.filterMap (s[·]?)).toList.Perm s.toList /\
   o.toList.Perm (List.range s.size):=by
 obtain⟨ow,e,c⟩:=wM M hf (s.map u) (by simpa using S);have hn:(s.map u).size=s.size:=by simp
 let f:Nat->Option (Nat×Nat):=λj=>(ow.getD j Y).map (j,·)
 let g:=(List.range (M+1)).filterMap f
 have B:∀j b,f j=J b↔(b.1=j/\ow[j]?=J (J b.2)):=by
  intro j b;show(ow.getD j Y).map (j,·)=J b↔_;by_cases z:j<ow.size
  .have:ow[j]?=J (ow[j]'z):=K5 z
   simp only[Array.getD,z,dite_true,this]
   cases h:ow[j]'z with
   |none=>simp[h]
   |some v =>
    simp[h];constructor
    .intro e;subst e;simp
    .rintro⟨e1,e2⟩;cases b;simp_all
  .simp[Array.getD,z]
 have l:∀b:Nat×Nat,b∈g↔ow[b.1]?=J (J b.2):=by
  intro b;rw[Ev];constructor
  .rintro⟨j,_,z⟩;obtain⟨e1,e2⟩:=(B j b).mp z;rw[e1];exact e2
  .intro h;refine⟨b.1,?_,(B b.1 b).mpr ⟨rfl,h⟩⟩
   have:=eW h
   have:=c.size
   simp;lia
 have P:g.Pairwise (λa b=>a.1<b.1):=by show((List.range (M+1)).filterMap f).Pairwise _;rw[Oz];apply List.Pairwise.imp _ (Nx (n:=M+1));intro a b Q x W y hy;rw[((B _ _).mp W).1,((B _ _).mp hy).1];exact Q
 have X:(g.map (·.2)).Nodup:=by
  unfold List.Nodup;rw[G6];apply List.Pairwise.imp_of_mem _ P;intro a b ha E Q e;have H:=(l a).mp ha;have L:=(l b).mp E;have e':a.2=b.2:=e;rw[<-e']at L
  have:=c.inj _ _ _ H L
  lia
 have t:(g.map (·.2)).Perm (List.range s.size):=by
  rw[Qw X NF];intro i;rw[mx];constructor
  .rintro⟨b,E,e⟩
   have:=c.lt _ _ ((l b).mp E)
   rw[e]at this;simpa using this
  .intro R;obtain⟨j,z⟩:=c.own i (by simpa using R);exact⟨(j,i),(l (j,i)).mpr z,rfl⟩
 have G:((g.map (·.2)).filterMap (s[·]?)).Perm s.toList:=by
  have:=t.filterMap (s[·]?)
  rw[ii]at this;exact this
 have C:((g.map (·.2)).toArray.filterMap (s[·]?)).toList=(g.map (·.2)).filterMap (s[·]?):=by simp
 have F:∀x,x∈g.map (·.2)->∃v,s[x]?=J v:=by
  intro x W
  have:=t.mem_iff.mp W
  exact eA s x (by simpa using this)
 refine⟨(g.map (·.1)).toArray,(g.map (·.2)).toArray,?_,?_,?_,?_,?_⟩
 .unfold laid;rw[e];rfl
 .refine⟨wZ (by rw[G6];exact P),?_,?_,?_⟩
  .intro i v R;simp at R;obtain⟨b,E⟩:=R;have H:=(l _).mp (Dm E);have L:=eW H
   have:=c.size
   have h3:v<ow.size:=L;lia
  .have H:=G.length_eq;have L:(((g.map (·.2)).toArray.filterMap (s[·]?)).map u).size=((g.map (·.2)).filterMap (s[·]?)).length:=by
    rw[Array.size_map,<-z_,C]
   rw[L,H]
   have:=t.length_eq
   simp at this ⊢;exact this
  .intro i h v Z hv;simp at hv;obtain⟨b,E⟩:=hv;have H:=(l _).mp (Dm E);have h3:((g.map (·.2)).toArray.filterMap (s[·]?))[i]?=s[b]?:=by
    rw[<-BC,C,fu _ _ F];simp[E]
   rw[Array.getElem?_map,h3]at Z;obtain⟨n,en,r⟩:=c.reach v b h H (by rw[Array.getElem?_map];exact Z);refine⟨n,en,?_⟩;intro m hm;obtain⟨i',U⟩:=r m hm;have h5:=(l (sl M h m,i')).mpr U;have h6:sl M h m∈g.map (·.1):=mx.mpr ⟨_,h5,rfl⟩;obtain⟨q,hq⟩:=C6.mp h6;exact⟨q,by simpa using hq⟩
 .rw[<-z_,C,G.length_eq];simp
 .rw[C];exact G
 .exact t
section
variable{prog:Program}{w:World}{A:Around}{E:SA}{s:Shared}
abbrev TK(prog:Program)(w:World)(h:Heap)(k:R6)(a:Addr):Prop:=IsTupleKey (intKind prog w) h k a
abbrev TH(prog:Program)(w:World)(k:R6):Int:=tupleKeyHash (intKind prog w) k
def ItemsAre.ints(h:ItemsAre (intKind prog w) l e):∀v∈e,∃i t,v=.int i t:=by
 induction h with
 |nil=>intro v hv;cases hv
 |@cons k v l e g _ j =>
  intro u a
  cases a with
  |head =>
   cases v with
   |int i t=>exact⟨i,t,rfl⟩
   |_=>simp[intKind,Value.isInt]at g
  |tail _ a=>exact j u a
def kf(y:TK prog w s.heap ks a)(h:Q I s):wpAny (model prog w) A (hashByValue 8 (.ref a)) Q E s:=by
 have G:=y.typeIs;obtain⟨o,items,n,C,_,hd,B⟩:=y;refine d_ (wpAny_specialOf G F.slot_tuple_hash.lookup ?_);refine d_ (wpAny_seqItems C hd ?_);refine d_ ?_;rw[<-Array.forIn_toList];refine wpAny_forIn_list _ (λg r j=>r.1=Y/\j=s/\∀v∈g,∃i t,v=Value.int i t) _ ?_ ?_ _ _ ⟨rfl,rfl,ItemsAre.ints B⟩
 .rintro v g r j ⟨z,rfl,e⟩;obtain⟨i,t,rfl⟩:=e v BD;exact il ⟨rfl,rfl,λu l=>e u (oh _ l)⟩
 .rintro⟨H,L⟩ j ⟨z,rfl,_⟩;subst z;exact il h
def gW(y:TK prog w s.heap ks a)(h:Q T s):wpAny (model prog w) A (ofAClassStatement 8 (.ref a)) Q E s:=by
 have F:=y.typeIs;obtain⟨o,items,n,C,_,hd,B⟩:=y;unfold ofAClassStatement;refine d_ (wpAny_typeOf F ?_);refine d_ ?_;refine il ?_;refine d_ (wpAny_seqItems C hd ?_);refine d_ ?_;rw[<-Array.forIn_toList];refine wpAny_forIn_list _ (λg r j=>r.1=Y/\j=s/\∀v∈g,∃i t,v=Value.int i t) _ ?_ ?_ _ _ ⟨rfl,rfl,ItemsAre.ints B⟩
 .rintro v g r j ⟨z,rfl,e⟩;obtain⟨i,t,rfl⟩:=e v BD;exact il ⟨rfl,rfl,λu l=>e u (oh _ l)⟩
 .rintro⟨G,H⟩ j ⟨z,rfl,_⟩;subst z;exact il h
def qT{k:R6}{a:Addr}{stored:SQ}{Q:Bool->Shared->Prop}(z:TK prog w s.heap k a)(e:∀v∈stored,∃b l,v=.ref b/\TK prog w s.heap l b)(h:Q T s):wpAny (model prog w) A (searchCouldBeSeen (.ref a) stored) Q E s:=by
 refine d_ ?_;refine wpAny_forIn_list _ (λi r o=>r.1=Y/\o=s/\∀v∈i,∃b l,v=Value.ref b/\TK prog w s.heap l b) _ ?_ ?_ _ _ ⟨rfl,rfl,e⟩
 .rintro v i r o ⟨B,rfl,e⟩;obtain⟨b,l,rfl,y⟩:=e v BD;have g:=λu t=>e u (oh _ t);by_cases j:(a==b||(carriedByValue (.ref a)&&carriedByValue (.ref b)))=I
  .rw[c_ j];exact il ⟨rfl,rfl,g⟩
  .rw[f_ j];refine d_ (wpAny_eqIsQuiet_tuple z ?_);refine d_ (wpAny_eqIsQuiet_tuple y ?_);refine d_ (gW z ?_);refine d_ (gW y ?_);exact il ⟨rfl,rfl,g⟩
 .rintro⟨C,F⟩ o ⟨B,rfl,_⟩;subst B;exact il h
def hV(prog:Program)(w:World)(P:Addr->Prop)(h:Heap)(g:Array (Int×Value))(j:R7):Prop :=
 g.size=j.length/\∀(i:Nat)(e:Int×Value)(k:R6),g[i]?=J e->j[i]?=J k->∃a,e.2=.ref a/\TK prog w h k a/\e.1=TH prog w k/\P a
def hV.at'{P:Addr->Prop}{h:Heap}{l:Array (Int×Value)}{g:R7}(x:hV prog w P h l g){i:Nat}{e:Int×Value}(j:l[i]?=J e):
  ∃k a,g[i]?=J k/\e.2=.ref a/\TK prog w h k a/\e.1=TH prog w k:=by
 have t:=eW j
 have:i<g.length:=by rw[<-x.1];exact t
 obtain⟨a,u,r,o,_⟩:=x.2 i e g[i] j (by simp);exact⟨g[i],a,by simp,u,r,o⟩
def hV.key{P:Addr->Prop}{h:Heap}{g:Array (Int×Value)}{o:R7}(x:hV prog w P h g o){i:Nat}{k:R6}(j:o[i]?=J k):
  ∃e a,g[i]?=J e/\e.2=.ref a/\TK prog w h k a/\e.1=TH prog w k:=by
 have u:i<g.size:=by rw[x.1];exact(mw.mp j).1
 obtain⟨e,l⟩:=eA g i u;obtain⟨a,y,t,r,_⟩:=x.2 i e k l j;exact⟨e,a,l,y,t,r⟩
def Aa{P:Addr->Prop}{S:Addr}{o:Obj}{l:Array (Int×Value)}{ep:Nat}{t:SetTable}{ks:R7}{k:R6}{a:Addr}{n1:Nat}{Q:SetFound->Shared->Prop}(hu:A.units<cLine)(ho:s.heap.get? S=J o)(hd:o.data=.set l ep t)(hf:t.fits l.size=I)(a0:t.dummies=#[])(ab:t.gaveWay=T)(W:WF t.mask t.place (l.map (·.1)))(z:hV prog w P s.heap l ks)(hk:TK prog w s.heap k a)(H:¬Ce t.place (sl t.mask (TH prog w k) n1))(an:∀m,m<n1->Ce t.place (sl t.mask (TH prog w k) m))(bf:n1<10*turns t.mask)(h1:k∈ks->Q (.there Y) s)(h2:k∉ks->Q (.free (sl t.mask (TH prog w k) n1) T) s):
  ∀(j n:Nat)(g:Option Probe),g.getD (t.probeStart (TH prog w k))=st t.mask (TH prog w k) n->n<=n1->n1-n<j ->
   (∀(m i:Nat),m<n->t.place[i]?=J (sl t.mask (TH prog w k) m)->ks[i]?≠J k) ->
   wpAny (model prog w) A (setSearchFrom S (.ref a) (TH prog w k) I j g) Q E s:=by
 intro j
 induction j with
 |zero=>intro n g _ _ h;lia
 |succ f ih =>
  intro n g a6 hn bt u;unfold setSearchFrom;refine d_ (wpAny_setState_of ho hd hf ?_);dsimp only;rw[ab];simp only[pu,if_false];rw[a6];have a3:=Bu t a0 W.rise (λi=>(l[i]?.map (·.1)).getD 0) (TH prog w k) n1 H an (10*turns t.mask) n hn ⋯;have C:∀i:Nat,ks[i]?=J k->∃m,m<n1/\t.place[i]?=J (sl t.mask (TH prog w k) m):=by
   intro i hi;obtain⟨e,b,B,_,_,L⟩:=z.key hi;have hl:i<t.place.size:=by have:=W.size;simp at this;rw[this];exact eW B
   obtain⟨v,hv⟩:=eA t.place i hl;obtain⟨m,em,hm⟩:=W.reach i (TH prog w k) v (by simp[B,L]) hv;refine⟨m,?_,by rw[em];exact hv⟩;by_cases a4:m<n1
   .exact a4
   .exfalso;by_cases X:m=n1
    .subst X;exact H ⟨i,by rw[em];exact hv⟩
    .exact H (hm n1 ⋯)
  rcases a3 with⟨e1,e2⟩|⟨m,i,q1,q2,q3,q4,q5,q6⟩
  .have U:t.probe (λi=>(l[i]?.map (·.1)).getD 0) (TH prog w k) (st t.mask (TH prog w k) n)=J (.empty (sl t.mask (TH prog w k) n1) Y):=e1;erw [U];dsimp only;refine il (h2 λZ=>?_);obtain⟨i,hi⟩:=C6.mp Z;obtain⟨m,hm,hp⟩:=C i hi;by_cases as:m<n
   .exact u m i as hp hi
   .obtain⟨e,b,B,_,_,L⟩:=z.key hi;exact e2 m i ⋯ hm hp (by simp[B,L])
  .have U:t.probe (λi=>(l[i]?.map (·.1)).getD 0) (TH prog w k) (st t.mask (TH prog w k) n)=J (.candidate (sl t.mask (TH prog w k) m) i (st t.mask (TH prog w k) (m+1))):=q5;erw [U];dsimp only;have a5:i<l.size:=by
    have:=W.size;simp at this;rw[<-this];exact eW q3
   obtain⟨e,B⟩:=eA l i a5;obtain⟨k',b,ap,eb,hb,L⟩:=z.at' B;obtain⟨eh,ev⟩:=e;simp only at eb L;subst eb
   have al:wpAny (model prog w) A (do
     let J (_,y):=l[i]? | unsupported "internal:set-entry"
     let r <-holding [y] (eqBool y (.ref a))
     let(es',_,t') <-setState S
     if I&&r then return .there Y
     let J same:=t'.sameMemory t.moves t.mask|unsupported "set.changed-during-lookup:is-the-new-block-at-the-old-address"
     let O <-match(if same then t'.slot (sl t.mask (TH prog w k) m)else .empty) with
      |.live G=>match es'[G]? with
       |some (_,y')=>do pure (if <-isSame y' y then J G else Y)
       |none=>pure Y
      |_=>pure Y
     match O with
     |none=>rule "set.search.anew";setSearchFrom S (.ref a) (TH prog w k) I f Y
     |some G=>if r then return .there (J G)else setSearchFrom S (.ref a) (TH prog w k) I f (J (st t.mask (TH prog w k) (m+1)))) Q E s:=by
    rw[B];dsimp only;refine d_ (wpAny_holding (wpAny_eqBool_tuple hu hb hk ?_));refine d_ (wpAny_setState_of ho hd hf ?_);dsimp only;by_cases M:k'=k
    .subst M;simp only[decide_true,Bool.and_self,if_true];exact il (h1 (C6.mpr ⟨i,ap⟩))
    .simp only[M,decide_false,OK,pu,if_false];have ax:t.sameMemory t.moves t.mask=J I:=by unfold SetTable.sameMemory;simp
     rw[ax];simp only[if_true];rw[sC t W.rise i _ q3];dsimp only;rw[B];dsimp only;refine d_ (wpAny_isSame_ref_self ?_);simp only[if_true];refine d_ (il ?_);dsimp only;refine ih (m+1) _ rfl ⋯ ⋯ ?_;intro m' G bm R F;by_cases a8:m'<n
     .exact u m' G a8 R F
     .by_cases ay:m'<m
      .obtain⟨e,b,B,_,_,L⟩:=z.key F;exact q6 m' G ⋯ ay R (by simp[B,L])
      .have:m'=m:=by lia
       subst this;have a1:=iU _ _ _ W.rise q3;have a2:=iU _ _ _ W.rise R
       have:G=i:=by lia
       subst this;rw[ap]at F;exact M (Option.some.inj F)
   cases a9:t.led with
   |true =>
    simp only[Ez,pu,if_false];exact al
   |false =>
    simp only[Bool.not_false,if_true];refine d_ (qT hk ?_ ?_)
    .intro v hv;obtain⟨e,a7,rfl⟩:=mx.mp hv;have X:e∈l.toList:=by
      have:e∈l.filter (λx=>x.1==TH prog w k):=Array.mem_toList_iff.mp a7
      exact Array.mem_toList_iff.mpr (Array.mem_filter.mp this).1
     obtain⟨q,hq⟩:=C6.mp X;obtain⟨k2,b2,_,e2,h2,_⟩:=z.at' (i:=q) (e:=e) (by simpa using hq);exact⟨b2,k2,e2,h2⟩
    .simp only[pu,if_false];exact al
structure TTab(prog:Program)(w:World)(P:Addr->Prop)(h:Heap)(S:Addr)(led:Bool)(o:Obj)(es:Array (Int×Value))(ep:Nat)(t:SetTable)(ks:R7):Prop where
 get:h.get? S=J o
 ex:o.ExactSet
 data:o.data=.set es ep t
 dm:t.dummies=#[]
 mask:t.mask=7\/t.mask=31\/t.mask=127
 plain:t.plain=I
 led':t.led=led
 wf:WF t.mask t.place (es.map (·.1))
 ents:hV prog w P h es ks
def nN(t:SetTable)(n:Nat):Prop:=n*5<t.mask*3
def dW(prog:Program)(w:World)(P:Addr->Prop)(h:Heap)(S:Addr)(led:Bool)(e:R7):Prop :=
 ∃o g i t a,TTab prog w P h S led o g i t a/\nN t g.size/\a.Perm e/\e.Nodup
def wX(h:M=7\/M=31\/M=127):gz M:=by
 rcases h with h|h | h<;>subst h
 .exact Mr
 .exact Jj
 .exact F0
def TTab.size{P:Addr->Prop}{h:Heap}{S:Addr}{led:Bool}{o:Obj}{a:Array (Int×Value)}{g:Nat}{t:SetTable}{e:R7}(x:TTab prog w P h S led o a g t e):t.place.size=a.size:=by have:=x.wf.size;simpa using this
def TTab.fits{P:Addr->Prop}{h:Heap}{S:Addr}{led:Bool}{o:Obj}{a:Array (Int×Value)}{i:Nat}{t:SetTable}{e:R7}(x:TTab prog w P h S led o a i t e)(g:a.size<=t.mask):t.fits a.size=I:=by
 unfold SetTable.fits SetTable.fill
 have:=x.size
 simp[this,x.dm];exact g
def TTab.odd{P:Addr->Prop}{h:Heap}{S:Addr}{led:Bool}{o:Obj}{g:Array (Int×Value)}{e:Nat}{t:SetTable}{a:R7}(x:TTab prog w P h S led o g e t a):t.gaveWay=T:=by unfold SetTable.gaveWay;rcases x.mask with h|h | h<;>rw[h]<;>rfl
def F4(u:Heap.SameBut S h h')(t:h.get? S=J o)(g:o.ExactSet)(x:TK prog w h k a):TK prog w h' k a:=by
 obtain⟨r,items,n,e,i,hd,l⟩:=x;have j:a≠S:=by rintro rfl;obtain rfl:=Option.some.inj (e.symm.trans t);rw[g.1]at i;exact absurd i (by simp)
 exact⟨r,items,n,(u.2 a j).trans e,i,hd,l⟩
def sE(r:Heap.SameBut S h h')(l:h.get? S=J o)(j:o.ExactSet)(x:hV prog w P h es ks):hV prog w P h' es ks :=
 ⟨x.1,λi e k a b=>let⟨c,d,f,g⟩:=x.2 i e k a b;⟨c,d,F4 r l j f,g⟩⟩
def jm{h:Heap}{S:Addr}{o:Obj}{g es':Array (Int×Value)}{a:Nat}{t t':SetTable}(e:h.get? S=J o)(hd:o.data=.set g a t):
  (h.update S (Obj.putSet es' t')).get? S=J { o with data:=.set es' (a+1) t'}:=by
 have:=K_ (Obj.putSet es' t') e (by rw[putSet_of es' t' hd];rfl)
 rw[putSet_of es' t' hd]at this;exact this
def AH(x:hV prog w P h es ks)(g:Array Nat)(r:g.toList.Perm (List.range es.size)):
  hV prog w P h (g.filterMap (es[·]?)) (g.toList.filterMap (ks[·]?))/\(g.toList.filterMap (ks[·]?)).Perm ks:=by
 have l:∀i,i∈g.toList->i<es.size:=λi j=>by simpa using r.mem_iff.mp j
 have B:=λi j=>eA es i (l i j);have C:∀i,i∈g.toList->∃v,ks[i]?=J v:=λi j=>⟨_,C5 (by rw[<-x.1];exact l i j)⟩;have e1:(g.filterMap (es[·]?)).toList=g.toList.filterMap (es[·]?):=by simp
 have y:(g.toList.filterMap (ks[·]?)).Perm ks:=by
  have a:=r.filterMap (ks[·]?);have b:(List.range es.size).filterMap (ks[·]?)=ks:=by
   have:=ii ks.toArray
   simp only[KA]at this;rw[x.1];exact this
  rw[b]at a;exact a
 have z:(g.toList.filterMap (es[·]?)).Perm es.toList:=by have a:=r.filterMap (es[·]?);rw[ii]at a;exact a
 refine⟨⟨?_,?_⟩,y⟩
 .rw[<-z_,e1,z.length_eq,y.length_eq,z_,x.1]
 .intro i e k o t;rw[<-BC,e1,fu _ _ B]at o;rw[fu _ _ C]at t
  cases u:g.toList[i]? with
  |none=>rw[u]at o;cases o
  |some q =>
   rw[u]at o t;exact x.2 q e k o t
def Hn:SetTable.sizeAbove (SetTable.grown 5)=32:=by decide
def Mt:SetTable.sizeAbove (SetTable.grown 19)=128:=by decide
def vo{P:Addr->Prop}{S:Addr}{led:Bool}{o:Obj}{l:Array (Int×Value)}{ep:Nat}{t:SetTable}{O:R7}{g M:Nat}{Q:Unit->Shared->Prop}(a:TTab prog w P s.heap S led o l ep t O)(z:l.size<=t.mask)(R:SetTable.sizeAbove g=M+1)(j:M=7\/M=31\/M=127)(r:l.size*5<M*3)(h:∀F X y G U u,Heap.SameBut S s.heap F->TTab prog w P F S led X y G U u->nN U y.size->u.Perm O->Q () { s with heap:=F}):
  wpAny (model prog w) A (setRelay S g) Q E s:=by
 obtain⟨L,i,e1,W,H,p1,p2⟩:=F3 M (wX j) (λe:Int×Value=>e.1) l ⋯ t.finger (t.movedTo M) t.led t.plain;have C:t.relaid (l.map (·.1)) g=J ({ mask:=M,place:=L,dummies:=#[],finger:=t.finger,led:=t.led,moves:=t.movedTo M,plain:=t.plain},i):=by unfold SetTable.relaid;rw[R];exact e1
 refine d_ (wpAny_setState_of a.get a.data (a.fits z) ?_);dsimp only;have B:¬SetTable.sizeAbove g>sizeLine:=by rw[R];rcases j with h|h | h<;>rw[h]<;>decide
 rw[f_ B,C];have Z:l.size<=sizeLine:=by rw[sizeLine_eq];rcases j with h|h | h<;>lia
 refine d_ (?_:wpAny _ _ (if((i.filterMap (l[·]?)).size != l.size)=I then _ else _) _ _ _);rw[f_ (by simp[H])];refine il ?_;refine wpAny_storeSet_of a.get a.data ?_ (by rw[H];exact Z);have sb:=Heap.SameBut.update s.heap S (Obj.putSet (i.filterMap (l[·]?)) { mask:=M,place:=L,dummies:=#[],finger:=t.finger,led:=t.led,moves:=t.movedTo M,plain:=t.plain});obtain⟨n1,n2⟩:=AH a.ents i p2;refine h _ _ _ _ _ _ sb ⟨jm a.get a.data,a.ex,rfl,rfl,j,a.plain,a.led',W,sE sb a.get a.ex n1⟩ ?_ n2;rw[H];exact r
def BG(x:hV prog w P h es ks)(u:p<=es.size)(y:TK prog w h k a)(B:P a):
  hV prog w P h (insertAt es p (TH prog w k,.ref a)) (ks.take p++k::ks.drop p):=by
 have C:=x.1;refine⟨?_,?_⟩
 .rw[cA _ _ _ u];simp;lia
 .intro i e r j g;rw[cN _ _ _ u]at j;by_cases o:i<p
  .rw[c_ o]at j;rw[yS (by simp;lia),Nu o]at g;exact x.2 i e r j g
  .rw[f_ o]at j;rw[DG (by simp;lia)]at g;have l:(ks.take p).length=p:=by simp;lia
   rw[l]at g;by_cases t:i=p
   .rw[c_ t]at j
    have:i-p=0:=by lia
    rw[this]at g;simp at g;cases j;subst g;exact⟨a,rfl,y,rfl,B⟩
   .rw[f_ t]at j;obtain⟨q,z⟩:∃q,i-p=q+1:=⟨i-p-1,⋯⟩;rw[z,List.getElem?_cons_succ,ND]at g
    have:p+q=i-1:=by lia
    rw[this]at g;exact x.2 (i-1) e r j g
def CT(p:Nat)(k:R6):(ks.take p++k::ks.drop p).Perm (ks++[k]):=by have a:(ks.take p++k::ks.drop p).Perm (k::(ks.take p++ks.drop p)):=KC;rw[Fc]at a;exact a.trans (Ot k ks).symm
def Jm{P:Addr->Prop}{S a:Addr}{led:Bool}{G:R7}{k:R6}{Q:Bool->Shared->Prop}(hu:A.units<cLine)(g:dW prog w P s.heap S led G)(hk:TK prog w s.heap k a)(hP:P a)(a2:k∈G\/G.length<66)(h:∀b F,Heap.SameBut S s.heap F->dW prog w P F S led (if k∈G then G else G++[k])->Q b { s with heap:=F}):
  wpAny (model prog w) A (setAddHashed S (.ref a) (TH prog w k)) Q E s:=by
 obtain⟨o,z,ep,t,H,g,hr,R,ax⟩:=g;unfold nN at hr;have Z:z.size<=t.mask:=by rcases g.mask with e|e | e<;>rw[e]at hr ⊢<;>lia
 have hf:=g.fits Z;have a4:t.place.size<=t.mask:=by rw[g.size];exact Z
 obtain⟨l,a7,ay,X⟩:=zf t.place g.wf.rise t.mask (wX g.mask) a4 (TH prog w k);have a3:t.mask<=127:=by rcases g.mask with e|e | e<;>lia
 have a6:z.size=G.length:=by rw[g.ents.1,R.length_eq]
 refine wpAny_holding ?_;refine d_ (wpAny_setState_of g.get g.data hf ?_);dsimp only;have a5:byScan (.ref a) z=T:=rfl;rw[a5];unfold setSearch;refine d_ (Aa (n1:=l) (ks:=H) hu g.get g.data hf g.dm g.odd g.wf g.ents hk ay X (by unfold turns;lia) ?_ ?_ 100000 0 Y rfl (vl _) ⋯ (λm i hm=>absurd hm (Nat.not_lt_zero m)))
 .intro L;have r:k∈G:=R.mem_iff.mp L;dsimp only;refine il ?_
  have:=h T s.heap (Heap.SameBut.refl _ _)
  rw[c_ r]at this;exact this ⟨o,z,ep,t,H,g,hr,R,ax⟩
 .intro L;have r:k∉G:=λx=>L (R.mem_iff.mpr x);have a8:G.length<66:=a2.resolve_left r;rw[f_ r]at h;dsimp only;refine d_ (wpAny_setState_of g.get g.data hf ?_);dsimp only;have a0:t.put (sl t.mask (TH prog w k) l)=({ t with place:=insertAt t.place (below t.place (sl t.mask (TH prog w k) l)) (sl t.mask (TH prog w k) l)},below t.place (sl t.mask (TH prog w k) l)):=by
   delta SetTable.put;simp only[g.dm,qR,pu,if_false]
  rw[a0];dsimp only;rw[c_ g.plain];refine d_ (kf hk ?_);simp only[if_true];have hp:=(dH t.place (sl t.mask (TH prog w k) l) g.wf.rise).1;have a1:below t.place (sl t.mask (TH prog w k) l)<=z.size:=by rw[<-g.size];exact hp
  have C:=cA z (below t.place (sl t.mask (TH prog w k) l)) (TH prog w k,.ref a) a1;refine d_ (wpAny_storeSet_of g.get g.data ?_ (by rw[C,sizeLine_eq];lia))
  have sb:=Heap.SameBut.update s.heap S (Obj.putSet (insertAt z (below t.place (sl t.mask (TH prog w k) l)) (TH prog w k,.ref a))
   { t with place:=insertAt t.place (below t.place (sl t.mask (TH prog w k) l)) (sl t.mask (TH prog w k) l)})
  have T2:TTab prog w P (s.heap.update S (Obj.putSet (insertAt z (below t.place (sl t.mask (TH prog w k) l)) (TH prog w k,.ref a))
    { t with place:=insertAt t.place (below t.place (sl t.mask (TH prog w k) l)) (sl t.mask (TH prog w k) l)})) S led
    { o with data:=.set (insertAt z (below t.place (sl t.mask (TH prog w k) l)) (TH prog w k,.ref a)) (ep+1) { t with place:=insertAt t.place (below t.place (sl t.mask (TH prog w k) l)) (sl t.mask (TH prog w k) l)}}
    (insertAt z (below t.place (sl t.mask (TH prog w k) l)) (TH prog w k,.ref a)) (ep+1)
    { t with place:=insertAt t.place (below t.place (sl t.mask (TH prog w k) l)) (sl t.mask (TH prog w k) l)}
    (H.take (below t.place (sl t.mask (TH prog w k) l))++k::H.drop (below t.place (sl t.mask (TH prog w k) l))):=by
   refine⟨jm g.get g.data,g.ex,rfl,g.dm,g.mask,g.plain,g.led',?_,sE sb g.get g.ex (BG g.ents a1 hk hP)⟩;rw[u0];exact Jk t.mask t.place (z.map (·.1)) g.wf (TH prog w k) l ay X
  have W:(H.take (below t.place (sl t.mask (TH prog w k) l))++k::H.drop (below t.place (sl t.mask (TH prog w k) l))).Perm (G++[k]):=(CT _ k).trans (R.append_right [k]);have O:(G++[k]).Nodup:=by
   rw[G3];refine⟨ax,by simp,λx hx y hy=>?_⟩
   have:y=k:=by simpa using hy
   subst this;rintro rfl;exact r hx
  have U:({ t with place:=insertAt t.place (below t.place (sl t.mask (TH prog w k) l)) (sl t.mask (TH prog w k) l)}:SetTable).fill=z.size+1:=by unfold SetTable.fill;rw[cA _ _ _ hp,g.size];simp[g.dm]
  by_cases j:({ t with place:=insertAt t.place (below t.place (sl t.mask (TH prog w k) l)) (sl t.mask (TH prog w k) l)}:SetTable).tooFull=I
  .have B:(z.size+1)*5>=t.mask*3:=by
    unfold SetTable.tooFull at j;rw[U]at j;simpa using j
   rw[c_ (by rw[j];rfl)];have al:(t.mask=7/\z.size=4)\/(t.mask=31/\z.size=18):=by rcases g.mask with e|e | e<;>rw[e]at hr B<;>lia
   refine d_ (wpAny_mono (Q:=λ_ s'=>∃F,s'={ s with heap:=F}/\Heap.SameBut S s.heap F/\dW prog w P F S led (G++[k])) ?_ (λu s' hq=>?_) λ_ _ x=>x)
   .rcases al with⟨c1,c2⟩|⟨c1,c2⟩
    .have e5:z.size+1=5:=by lia
     rw[e5];refine vo (M:=31) (s:={ s with heap:=_}) T2 (by rw[C];show z.size+1<=t.mask;lia) Hn (.inr (.inl rfl)) (by rw[C];lia) λF o' as ap t' an ab T3 r3 p3=>?_;exact⟨F,rfl,sb.trans ab,o',as,ap,t',an,T3,r3,p3.trans W,O⟩
    .have e5:z.size+1=19:=by lia
     rw[e5];refine vo (M:=127) (s:={ s with heap:=_}) T2 (by rw[C];show z.size+1<=t.mask;lia) Mt (.inr (.inr rfl)) (by rw[C];lia) λF o' as ap t' an ab T3 r3 p3=>?_;exact⟨F,rfl,sb.trans ab,o',as,ap,t',an,T3,r3,p3.trans W,O⟩
   .obtain⟨F,rfl,q1,q2⟩:=hq;exact il (h I F q1 q2)
  .have B:(z.size+1)*5<t.mask*3:=by
    unfold SetTable.tooFull at j;rw[U]at j;simpa using j
   rw[f_ (by simpa using j)];refine il (h I _ sb ⟨_,_,_,_,_,T2,?_,W,O⟩);delta nN;rw[C];exact B
end
end SetT
namespace SetT
open PySem.SetTable PyProof.Rows
def fA(a:R7)(k:R6):R7:=if k∈a then a else a++[k]
def n_(l:R7):R7:=l.foldl fA []
def Cz(l:R7)(k:R6):n_ (l++[k])=fA (n_ l) k:=by delta n_;rw[NE];rfl
def zS(a:R7)(k:R6):a.length<=(fA a k).length:=by delta fA;split<;>simp
def Bi(l:R7):∀a:R7,a.length<=(l.foldl fA a).length:=by
 induction l with
 |nil=>intro a;exact i3 _
 |cons k l e=>intro a;exact tx (zS a k) (e _)
def v5(l:R7)(i:Nat):(n_ (l.take i)).length<=(n_ l).length:=by
 have h:n_ l=(l.drop i).foldl fA (n_ (l.take i)):=by delta n_;rw[<-NE,Fc]
 rw[h];exact Bi _ _
def ue{l:R7}{i:Nat}{k:R6}(h:l[i]?=J k):n_ (l.take (i+1))=fA (n_ (l.take i)) k:=by rw[KG,h];exact Cz _ _
def zJ(x:R6)(l:R7):∀e:R7,x∈l.foldl fA e↔x∈e\/x∈l:=by
 induction l with
 |nil=>simp
 |cons k l i =>
  intro e;rw[NG,i];delta fA;split
  .rename_i h
   constructor
   .rintro (a|a)
    .exact .inl a
    .exact .inr (oh _ a)
   .rintro (a|a)
    .exact .inl a
    .rcases nk.mp a with rfl|g
     .exact .inl h
     .exact .inr g
  .constructor
   .rintro (a|a)
    .rcases n9.mp a with g|g
     .exact .inl g
     .simp_all
    .exact .inr (oh _ a)
   .rintro (a|a)
    .exact .inl (C7 _ a)
    .rcases nk.mp a with rfl|g
     .exact .inl (n4 _ (by simp))
     .exact .inr g
def j0(x:R6)(l:R7):x∈n_ l↔x∈l:=by delta n_;rw[zJ];simp
section
variable{prog:Program}{w:World}{A:Around}{E:SA}{s:Shared}
abbrev PB(H0:Heap)(R:Addr->Prop):Addr->Prop:=λa=>(∃o,H0.get? a=J o)/\R a
def Df(a h:Heap):Prop:=∀b o,a.get? b=J o->h.get? b=J o
def mL(x:Df H0 h)(t:TK prog w H0 k a):TK prog w h k a:=by obtain⟨o,items,n,e,r⟩:=t;exact⟨o,items,n,x a o e,r⟩
def yo{l h z:Heap}{F:Addr->Prop}{S:Addr}{led:Bool}{G:R7}(j:dW prog w (PB l F) h S led G)(M:∀o,h.get? S=J o->z.get? S=J o)(x:Df l h)(Q:Df l z):dW prog w (PB l F) z S led G:=by
 obtain⟨o,R,O,t,C,j,r,p,n⟩:=j;refine⟨o,R,O,t,C,⟨M o j.get,j.ex,j.data,j.dm,j.mask,j.plain,j.led',j.wf,j.ents.1,λi e k a b=>?_⟩,r,p,n⟩;obtain⟨c,d,⟨y,u,m,L,q⟩,g,⟨H,B⟩,P⟩:=j.ents.2 i e k a b;have e1:=Option.some.inj (L.symm.trans (x c H B));subst e1;exact⟨c,d,⟨y,u,m,Q c y B,q⟩,g,⟨y,B⟩,P⟩
def ET(prog:Program)(w:World)(g:Heap)(items:Array Value)(e:R7):Prop :=
 items.size=e.length/\∀(i:Nat)(v:Value)(k:R6),items[i]?=J v->e[i]?=J k->∃a,v=.ref a/\TK prog w g k a
def zg{h:Heap}{S:Addr}{led:Bool}{P:Addr->Prop}{o:Obj}(l:h.get? S=J o)(j:o.ExactSet)(hd:o.data=.set #[] 0 (.fresh 0 0 led)):dW prog w P h S led []:=by
 refine⟨o,#[],0,.fresh 0 0 led,[],⟨l,j,hd,rfl,.inl rfl,rfl,rfl,⟨?_,?_,by simp[SetTable.fresh],?_⟩,rfl,?_⟩,?_,List.Perm.nil,NH⟩
 .intro a b u v _ g;simp[SetTable.fresh]at g
 .intro i v g;simp[SetTable.fresh]at g
 .intro i r v g;simp at g
 .intro i e k g;simp at g
 .show 0*5<7*3;decide
def wL{RR:Addr->Prop}{R:Result->Shared->Prop}{H:Addr}{fp z:SM}{G:Array GenState->Array GenState->Prop}{n:Nat}{P:Nat->Value->Prop}{St:Nat->Shared->Prop}(hu:A.units+1<cLine)(W:WalksS prog w A.in1 H fp z G n P St)(S:Addr)(Q:S∉fp){H0:Heap}(a3:H0.get? S=Y)(as:∀b∈z,H0.get? b=Y){led:Bool}(t:R7)(hn:t.length=n)(al:∀i v k,P i v->t[i]?=J k->∃a,v=.ref a/\TK prog w H0 k a/\RR a)(a5:(n_ t).length<=66):
  ∀(c i:Nat)(s:Shared),n-i=c->i<=n->St i s->Df H0 s.heap->dW prog w (PB H0 RR) s.heap S led (n_ (t.take i)) ->
   (∀g,Moved (S::z) G s g->Df H0 g.heap->dW prog w (PB H0 RR) g.heap S led (n_ t)->R (.ok (.ret .none)) g) ->
   codeAny (model prog w) A (.builtin "set.update.loop" ⟨[.ref S,.ref H],[]⟩) R s:=by
 have O:S∉z:=λh=>Q (W.sub _ h);have u:∀b∈z,b∈S::z:=λb C=>oh _ C;have j:∀{s g:Shared},Moved z G s g->Df H0 s.heap->Df H0 g.heap:=λ{s g} r x b o e =>
  r.heap b o (λC=>by rw[as b C]at e;cases e) (x b o e)
 intro c
 induction c with
 |zero =>
  intro i s hc hi B M hT y;have e:i=n:=by lia
  subst e;refine codeAny_builtin F.entry_set_update_loop ?_;refine d_ (W.done s _ _ B λg r=>?_);rw[<-hn,KD]at hT;exact il (y g (r.mono u) (j r M) (yo hT (λo e=>r.heap S o O e) M (j r M)))
 |succ c ih =>
  intro i s hc hi B M hT y;have X:i<n:=by lia
  refine codeAny_builtin F.entry_set_update_loop ?_;show wpAny _ A.in1 (pyNext (.ref H) >>= _) _ _ s;refine d_ (W.item i s _ _ X B λv g hP U r=>?_);obtain⟨k,hk⟩:∃k,t[i]?=J k:=⟨_,C5 ⋯⟩;obtain⟨a,rfl,ha,hR⟩:=al i v k hP hk;have L:=j r M;have a2:=yo hT (λo e=>r.heap S o O e) M L;have Z:=mL L ha;show wpAny _ A.in1 (holding [Value.ref a] (setAdd S (.ref a)) >>= _) _ _ g;refine d_ (wpAny_holding ?_);unfold setAdd;refine wpAny_holding ?_;refine d_ (wpAny_pyHash_tuple (by show A.units+1<cLine;exact hu) Z ?_);have l:=ue hk;refine Jm (s:={ g with toks:=g.toks+(k.length+1)}) (by show A.units+1<cLine;exact hu) a2 Z ⟨let⟨o,_,_,ho,_⟩:=ha;⟨o,ho⟩,hR⟩ ?_ λb h' sb a0=>?_
  .have h1:=v5 t (i+1);rw[l]at h1;unfold fA at h1;by_cases an:k∈n_ (t.take i)
   .exact .inl an
   .rw[f_ an]at h1;simp at h1;exact .inr ⋯
  .have a1:Df H0 h':=λq o e=>by
    have hq:q≠S:=by rintro rfl;rw[a3]at e;cases e
    exact(sb.2 q hq).trans (L q o e)
   have a4:dW prog w (PB H0 RR) h' S led (n_ (t.take (i+1))):=by rw[l];exact a0
   refine il ⟨plainId_quiet F.plain_set_update_loop _,ih (i+1) _ ⋯ X (W.frame _ g _ _ U (OD _ _) λb C o e=>?_) a1 a4 λax ab ay ap=>?_⟩
   .exact (sb.2 b (λq:b=S=>Q (by rw[<-q];exact C))).trans e
   .refine y ax (Moved.trans W.gtrans ((r.mono u).then_heap (OD _ _) λb o C e=>?_) ab) ay ap;exact(sb.2 b (λq:b=S=>C (by rw[q];exact BD))).trans e
abbrev cK(led:Bool):Obj:={ cls:=.type "set",dict:=Y,data:=.set #[] 0 (.fresh 0 0 led)}
abbrev bg(w:World):Bool:=!w.params.followText "set-order"
def vX(a:Value)(h:Q₁ (.ref s.heap.objs.size) { s with heap:=s.heap.push (cK (bg w))}):
  codeAny (model prog w) A (.call (.builtin "set.__new__") ⟨[.type "set",a],[]⟩) (wants Q₁ E) s:=by
 refine codeAny_of_tree ?_;refine d_ (wpAny_of_eq (PySem.F.newCall_set_1 a) (il ⟨plainId_quiet PySem.F.plain_set_new _,codeAny_builtin PySem.F.entry_set_new ?_⟩));unfold Builtin.«set.__new__» Builtin.Frozenset.newClass;have e:=sub_set_self
 wp_walk
 refine wpAny_askSetting (il ?_);dsimp only;simp only[newObj];exact d_ (wpAny_alloc (il (il h)))
set_option maxHeartbeats 3200000 in
theorem t8(hh:A.handled=Y)(hu:A.units+16<cLine)(hl:s.heap.IsList l items)(hk:ET prog w s.heap items ks)(ap:(n_ ks).length<=66)(h:∀(u:Heap)(L:Nat),dW prog w (PB s.heap λa=>Value.ref a∈items.toList) u s.heap.objs.size (bg w) (n_ ks)->Df s.heap u->s.toks<=L->Q (.ref s.heap.objs.size) { s with heap:=u,toks:=L}):
  wpAny (model prog w) A (call (.type "set") [.ref l]) Q E s:=by
 obtain⟨c,tl,a6⟩:=PySem.F.called_set.mro;have as:=PySem.F.called_set.made;have a3:=PySem.F.called_set.sub;refine wpAny_call (codeAny_of_tree ?_);show wpAny _ _ (callAny (.type "set") _) _ _ _;refine il ⟨Code.quiet_builtin _ (by decide +kernel),codeAny_builtin PySem.F.entry_type_call ?_⟩;rw[Around.under_plain (weight_type_call_type "set" [.ref l] []) rfl];have h1:=PySem.F.called_set.notType;have h2:=PySem.F.called_set.canCreate;have bm:=PySem.F.typeCall_set_1 (.ref l)
 repeat (any_goals (first | assumption | wp_step))
 refine codeAny_mono (vX (.ref l) (E:=E) (Q₁:=λobj B=>obj=.ref s.heap.objs.size/\B={ s with heap:=s.heap.push (cK (bg w))}) ⟨rfl,rfl⟩) λr B hr=>?_
 cases r with
 |error e=>exact hr
 |ok fl =>
  cases fl with
  |ret obj =>
   obtain⟨rfl,rfl⟩:=hr;have hS:(s.heap.push (cK (bg w))).get? s.heap.objs.size=J (cK (bg w)):=q0 _ rfl;have hT:Shared.TypeIs { s with heap:=s.heap.push (cK (bg w))} (.ref s.heap.objs.size) "set":=⟨_,hS,rfl⟩;have a7:=PySem.F.called_set.init.lookup;have a9:=PySem.F.called_set.init.bind (.ref s.heap.objs.size)
   repeat (any_goals (first | assumption | wp_step))
   refine codeAny_mono (codeAny_call_builtin (R:=wants (λr z=>r=.none/\∃u L,z={ s with heap:=u,toks:=L} /\
     dW prog w (PB s.heap λa=>Value.ref a∈items.toList) u s.heap.objs.size (bg w) (n_ ks)/\Df s.heap u/\s.toks<=L) E) PySem.F.called_set.init.plain PySem.F.entry_set_init (check_set_init_1 hT ?_)) λW z g=>?_
   .have bf:=hl;obtain⟨ol,Z,P,nl,S⟩:=hl;obtain⟨a5,G,ay,y⟩:=ol;simp only at P S;subst P;subst S;have M:(s.heap.push (cK (bg w))).get? l=J { cls:=.type "list",dict:=G,data:=.seq items nl,slots:=y}:=ls _ Z;have a2:=PySem.F.sub_list_set;have a4:=PySem.F.sub_list_frozenset;have a8:(Value.type "list" == Value.type "dict")=T:=by decide
    have ab:(s.heap.push (cK (bg w))).IsList l items:=⟨_,M,rfl,nl,rfl⟩;unfold Builtin.«set.__init__» noKeywords Builtin.Frozenset.updateFrom;generalize ax:pyIter=PI
    wp_walk
    subst ax;refine wpAny_pyIter_list ab ?_;refine d_ (wpAny_runValue ?_);have U:l<s.heap.objs.size:=ml Z;have a0:A.in1.in1.in1.handled=Y:=by simp[hh]
    have H:(s.heap.push (cK (bg w))).objs.size=s.heap.objs.size+1:=by rw[DP]
    have O:l≠(s.heap.push (cK (bg w))).objs.size:=by rw[H];exact qp (G5 U)
    have j:∀b,s.heap.objs.size<=b->s.heap.get? b=Y:=λb hb=>by
     cases e:s.heap.get? b with
     |none=>rfl
     |some o=>exact absurd (ml e) (Nat.not_lt.mpr hb)
    have al:s.heap.objs.size∉[(s.heap.push (cK (bg w))).objs.size,l]:=by rw[H];simp only[nk,Ew,or_false,not_or];exact⟨qp (HQ _),Dv U⟩
    refine wL (RR:=λa=>Value.ref a∈items.toList) (H0:=s.heap) (led:=bg w) (by show A.units+1+1+1<cLine;lia) ((Walks.list a0 _ l O items).toS) s.heap.objs.size al (j _ (i3 _)) ?_ ks hk.1.symm
     (λi v k hv a1=>let⟨a,e,t⟩:=hk.2 i v k hv a1;⟨a,e,t,by rw[<-e];exact C6.mpr ⟨i,by rw[BC];exact hv⟩⟩) ap (items.size-0) 0 _ ⋯ (vl _) ⟨⟨_,q0 _ rfl,rfl,rfl⟩,(ab.push _)⟩ ?_ ?_ ?_
    .intro b hb
     have:b=(s.heap.push (cK (bg w))).objs.size:=by simpa using hb
     rw[this,H];exact j _ (HU _)
    .intro b o e;exact ls _ (ls _ e)
    .exact zg (o:=cK (bg w)) (ls _ hS) ⟨rfl,rfl,rfl⟩ rfl
    .intro s' hm hx F;obtain⟨u,g',d',X,an⟩:=s';have eg:g'=s.gens:=hm.gens;have ed:d'=s.drawn:=hm.drawn;have eo:an=s.os:=hm.os;have et:s.toks<=X:=hm.toks;subst eg;subst ed;subst eo;show wpAny _ _ _ _ _ _;refine il ?_;show wpAny _ _ (ret Value.none) _ _ _;exact il ⟨rfl,u,X,rfl,F,hx,et⟩
   .cases W with
    |error e=>exact g
    |ok C =>
     cases C with
     |ret r =>
      obtain⟨rfl,u,L,rfl,F,hx,et⟩:=g
      repeat (any_goals (first | assumption | wp_step))
      exact h _ _ F hx et
     |_=>exact g.elim
  |_=>exact hr.elim
end
def dv:Slot "set_iterator" "__next__" "set_iterator.__next__" :=
 .of (owner:="set_iterator") (n:="__next__") (by kernel_rfl) (by decide +kernel) (by decide +kernel) (by decide +kernel) (.inl (by decide +kernel)) (by kernel_rfl)
def mj:Slot "set_iterator" "__iter__" "set_iterator.__iter__" :=
 .of (owner:="set_iterator") (n:="__iter__") (by kernel_rfl) (by decide +kernel) (by decide +kernel) (by decide +kernel) (.inl (by decide +kernel)) (by kernel_rfl)
def lJ:entryFor table "set_iterator.__next__"=J Builtin.«set_iterator.__next__»:=entryFor_of_fast (by kernel_rfl)
def uw:entryFor table "set_iterator.__iter__"=J Builtin.«dict_keyiterator.__iter__» :=
 entryFor_alias (id':="dict_keyiterator.__iter__") (by kernel_rfl) rfl (by decide +kernel) (by kernel_rfl)
def mz(a:Value):argsOk "set_iterator.__next__" ⟨[a],[]⟩:=by unfold argsOk;kernel_rfl
def uR(a:Value):argsOk "set_iterator.__iter__" ⟨[a],[]⟩:=by unfold argsOk;kernel_rfl
def wo:entryFor table "set.__iter__"=J Builtin.«frozenset.__iter__» :=
 entryFor_alias (id':="frozenset.__iter__") (by kernel_rfl) rfl (by decide +kernel) (by kernel_rfl)
def yH{α:Type}(l:List α)(i:Nat)(h:i<l.length):(l[i]::l.eraseIdx i).Perm l:=by
 rw[List.eraseIdx_eq_take_drop_succ];have e:l.take i++l[i]::l.drop (i+1)=l:=by rw[QD h,Fc]
 exact KC.symm.trans (List.Perm.of_eq e)
def F5(next:Nat->Nat):∀(a k:Nat)(left:List α)(e:Array α),left.length<=a->(pickOrder.go next a k left e).toList.Perm (e.toList++left):=by
 intro a
 induction a with
 |zero =>
  intro k left e h
  have:left=[]:=K6.mp ⋯
  subst this;unfold pickOrder.go;simp
 |succ f j =>
  intro k left e h;unfold pickOrder.go
  cases left with
  |nil=>simp
  |cons x l =>
   have g:next k % (x::l).length<(x::l).length:=Nat.mod_lt _ (by simp)
   have r:=C5 g;rw[r];have i:((x::l).eraseIdx (next k % (x::l).length)).length<=f:=by rw[List.length_eraseIdx_of_lt g];lia
   refine(j (k+1) _ _ i).trans ?_;rw[Fd,Ei];refine List.Perm.append_left _ ?_;have o:=(yH _ _ g).symm;exact o.symm
def Bn(next:Nat->Nat)(xs:Array α):(pickOrder next xs).toList.Perm xs.toList:=by
 unfold pickOrder
 have:=F5 next xs.size 0 xs.toList #[] (by simp)
 simpa using this
def zh(xs:Array Nat)(e:dY xs):below xs 0=0:=by
 obtain⟨g,a,_⟩:=dH xs 0 e;by_cases h:below xs 0=0
 .exact h
 .obtain⟨v,hv⟩:=eA xs 0 ⋯
  have:=a 0 v hv ⋯
  lia
def yA(xs:Array Nat)(e:dY xs)(i j:Nat)(h:xs[i]?=J j):below xs (j+1)=i+1:=by
 obtain⟨s,g,l⟩:=dH xs (j+1) e;by_cases r:below xs (j+1)<=i
 .have:=l i j h r;lia
 .by_cases o:i+1<below xs (j+1)
  .obtain⟨v,hv⟩:=eA xs (i+1) ⋯;have a:=g (i+1) v hv o;have b:=e i (i+1) j v ⋯ h hv;lia
  .lia
section
variable{prog:Program}{w:World}{A:Around}{E:SA}{s:Shared}
def cv(w:World)(S:Addr)(e:Nat)(a:Array (Int×Value)):Array (Int×Value):=if w.params.followText "set-order" then pickOrder (w.params.setOrder S e) a else a
def gS(w:World)(S:Addr)(e:Nat)(a:Array (Int×Value)):(cv w S e a).toList.Perm a.toList:=by
 delta cv;split
 .exact Bn _ _
 .exact List.Perm.refl _
def Mu(w:World)(a S:Addr)(o:Obj)(g:Array (Int×Value))(e:Nat)(t:SetTable)(i:Nat)(h:Heap):Prop :=
 h.get? S=J o/\∃slot:Nat,h.get? a=J { cls:=.type "set_iterator",dict:=Y,data:=.fields #[.int slot 0,.int i 0,.ref S,.int g.size 0,.int e 0],slots:=#[]} /\
  (w.params.followText "set-order"=T->below t.place slot=i)
end
section
variable{prog:Program}{w:World}{A:Around}{E:SA}{s:Shared}{S it:Addr}{o:Obj}{es:Array (Int × Value)}{ep:Nat}{t:SetTable}{ks:R7}
def rH(a:Mu w it S o es ep t i s.heap):s.TypeIs (.ref it) "set_iterator":=let⟨_,_,h,_⟩:=a;⟨_,h,rfl⟩
def Wkd(prog:Program)(w:World)(S:Addr)(o:Obj)(es:Array (Int×Value))(ep:Nat)(t:SetTable):Prop :=
 o.ExactSet/\o.data=.set es ep t/\t.dummies=#[]/\t.plain=I/\t.led=bg w/\dY t.place/\t.place.size=es.size/\es.size<=t.mask
def xm{i:Nat}{h:Heap}{slot:Nat}{Q:Option (Value×Nat)->Shared->Prop}(F:Wkd prog w S o es ep t)(L:s.heap.get? S=J o)(u:w.params.followText "set-order"=T->below t.place slot=i)(l:∀(x:Int×Value) a,(cv w S ep es)[i]?=J x->(w.params.followText "set-order"=T->below t.place a=i+1)->Q (J (x.2,a)) s)(r:(cv w S ep es)[i]?=Y->Q Y s):
  wpAny (model prog w) A (setNext S slot i ep) Q E s:=by
 obtain⟨T1,M,X,R,U,W,O,Z⟩:=F;have hf:t.fits es.size=I:=by unfold SetTable.fits SetTable.fill;simp[O,X];exact Z
 refine d_ (wpAny_setState_of L M hf ?_);unfold cv at l r
 cases g:w.params.followText "set-order" with
 |true =>
  rw[g]at l r;show wpAny _ _ (if w.params.followText "set-order"=I then _ else _) _ _ _;rw[g];simp only[bne_self_eq_false];refine d_ (d_ (wpAny_setState_of L M hf ?_));show wpAny _ _ (if w.params.followText "set-order"=I then _ else _) _ _ _;rw[g];refine d_ (wpAny_askSetting (il ?_));refine il ?_;show Q (((pickOrder (w.params.setOrder S ep) es)[i]?).map λe=>(e.2,slot)) s
  cases P:(pickOrder (w.params.setOrder S ep) es)[i]? with
  |none=>exact r P
  |some x=>exact l x slot P (λz=>nomatch z)
 |false =>
  rw[g]at l r;show wpAny _ _ (if w.params.followText "set-order"=I then _ else _) _ _ _;rw[g];have G:¬((!t.plain&&decide (es.size>1))=I):=by rw[R];simp
  refine(?_:wpAny _ _ (if(!t.plain&&decide (es.size>1))=I then _ else _) _ _ _);rw[f_ G];have C:¬((!t.led && !es.isEmpty)=I):=by rw[U];simp[g]
  refine d_ (?_:wpAny _ _ (if(!t.led && !es.isEmpty)=I then _ else _) _ _ _);rw[f_ C];refine il ?_;refine il ?_;have y:=u g;rw[y]
  cases B:es[i]? with
  |none=>exact r B
  |some x =>
   obtain⟨j,H⟩:=eA t.place i (by rw[O];exact eW B);rw[H];exact l x (j+1) B (λ_=>yA _ W i j H)
def Wkd.fits(a:Wkd prog w S o es ep t):t.fits es.size=I:=by obtain⟨j,u,g,y,l,r,i,e⟩:=a;unfold SetTable.fits SetTable.fill;simp[i,g];exact e
def wI{i:Nat}{x:Int×Value}{Q:SU->Shared->Prop}(e:Wkd prog w S o es ep t)(z:S≠it)(l:Mu w it S o es ep t i s.heap)(F:(cv w S ep es)[i]?=J x)(G:∀y,Mu w it S o es ep t (i+1) y->Heap.SameBut it s.heap y->Q (J x.2) { s with heap:=y}):wpAny (model prog w) A (pyNext (.ref it)) Q E s:=by
 have C:=rH l;obtain⟨u,slot,B,r⟩:=l;refine d_ (wpAny_attempt (wpAny_callSpecial?_slot C dv (wpAny_call_entry dv C lJ ?_ (mz _))));refine d_ (il ?_);refine d_ (wpAny_fieldsOf B rfl ?_);refine d_ (wpAny_setEntries_of u e.2.1 e.fits ?_);rw[f_ (by simp)];refine d_ ?_;rw[Dn,Dn,Dn];refine xm (h:=s.heap) e u r (λO a e1 e2=>?_) (λe1=>by rw[F]at e1;cases e1);rw[F]at e1;cases e1;refine d_ (wpAny_setField_rec B (by simp) λP L j=>?_);refine d_ (wpAny_setField_rec L (by simp) λM H g=>?_);refine il ⟨_,rfl,il (G M ⟨?_,a,?_,e2⟩ (j.trans g))⟩
 .rw[(j.trans g).2 S z];exact u
 .exact H
def zq{i:Nat}{Q:SU->Shared->Prop}(C:A.handled=Y)(e:Wkd prog w S o es ep t)(g:Mu w it S o es ep t i s.heap)(F:(cv w S ep es)[i]?=Y)(B:∀z,Heap.ExtBut it s.heap z->Q Y { s with heap:=z}):wpAny (model prog w) A (pyNext (.ref it)) Q E s:=by
 have y:=rH g;obtain⟨u,slot,r,j⟩:=g;refine d_ (wpAny_attempt (wpAny_callSpecial?_slot (name:=Str.ofString "__next__") y dv (wpAny_call_entry dv y lJ ?_ (mz _))));refine d_ (m:=slotArgs "__next__" 0 _) (il ?_);refine d_ (wpAny_fieldsOf r rfl ?_);refine d_ (wpAny_setEntries_of u e.2.1 e.fits ?_);rw[f_ (by simp)];refine d_ ?_;rw[Dn,Dn,Dn];refine xm (h:=s.heap) e u j (λG l e1 e2=>by rw[F]at e1;cases e1) (λe1=>?_);refine d_ (wpAny_setField r rfl (by simp) ?_);refine d_ ?_;refine d_ (m:=firstArgMember _ _) (wpAny_of_eq (a:=Value.none) (by first | rfl | (simp only[firstArgMember])) ?_);refine wpAny_newObj_type ?_ (by size_fits);refine d_ (wpAny_handled ?_);rw[show A.in1.handled=Y from C];refine d_ (il (wpAny_throw ?_));refine d_ (wpAny_isInstance (T:="StopIteration") (b:=I) ⟨_,q0 _ rfl,rfl⟩ isSubtype_stop ?_);exact il (B _ (((Heap.SameBut.update ..).extBut.push _).push _))
def AB(F:A.handled=Y)(z:S≠it)(l:Wkd prog w S o es ep t):
  Walks prog w A it [it,S] [it] es.size (λi v=>∃x,(cv w S ep es)[i]?=J x/\v=x.2) (λi h=>Mu w it S o es ep t i h) where
 sub:=λb g=>by simp at g;simp[g]
 frame:=λ_ _ _ st B=>⟨B S (by simp) _ st.1,let⟨slot,a,b⟩:=st.2;⟨slot,B it (by simp) _ a,b⟩⟩
 item:=λi s Q E L st j=>by
  have G:(cv w S ep es).size=es.size:=by rw[<-z_,(gS w S ep es).length_eq,z_]
  obtain⟨x,C⟩:=eA (cv w S ep es) i ⋯;exact wI l z st C λy r sb=>j _ y s.toks ⟨x,C,rfl⟩ r λb o g e=>sb.extBut b o (λh=>g (by simp[h])) e
 done:=λs Q E st j=>by
  have G:(cv w S ep es).size=es.size:=by rw[<-z_,(gS w S ep es).length_eq,z_]
  exact zq F l st (QC ⋯) λy H=>j y s.toks λb o g e=>H b o (λh=>g (by simp[h])) e
 self:=λ_ s Q E st j=>by
  have u:=rH st;refine wpAny_pyIter_slot u mj (wpAny_call_entry mj u uw ?_ (uR _));exact il ⟨_,rfl,"set_iterator",_,u,dv.lookup,j⟩
def zc(a:Wkd prog w S o es ep t)(e:s.heap.get? S=J o)(j:Q (.ref s.heap.objs.size) { s with heap:=s.heap.push { cls:=.type "set_iterator",data:=.fields #[.int 0 0,.int 0 0,.ref S,.int es.size 0,.int ep 0]}}):
  wpAny (model prog w) A (pyIter (.ref S)) Q E s:=by
 have i:s.TypeIs (.ref S) "set":=⟨o,e,a.1.1⟩;refine wpAny_pyIter_slot i PySem.F.slot_set_iter (wpAny_call_entry PySem.F.slot_set_iter i wo ?_ (PySem.F.args_set_iter_1 _));refine d_ (d_ (il (il ?_)));refine d_ (d_ (wpAny_setEntries_of e a.2.1 a.fits (il ?_)));refine d_ (d_ (wpAny_setState_of e a.2.1 a.fits ?_));refine d_ (d_ (wpAny_askSetting (il (il ?_))));have g:(!w.params.followText "set-order" && (!t.plain&&decide (es.size>1)))=T:=by rw[a.2.2.2.1];simp
 refine(?_:wpAny _ _ (if(!w.params.followText "set-order" && (!t.plain&&decide (es.size>1)))=I then _ else _) _ _ _);rw[f_ (by rw[g];simp)];refine d_ (il ?_);refine d_ (wpAny_setEpoch_of e a.2.1 a.fits ?_);exact d_ (wpAny_newObj_type (il ⟨_,rfl,"set_iterator",_,⟨_,q0 _ rfl,rfl⟩,dv.lookup,j⟩))
end
section
variable{prog:Program}{w:World}{A:Around}{E:SA}{s:Shared}{S:Addr}{o:Obj}{es:Array (Int × Value)}{ep:Nat}{t:SetTable}
def B3(a:s.TypeIs (.ref S) "set")(e:Q T s):wpAny (model prog w) A (Builtin.List.listLengthHint (.ref S)) Q E s:=by refine d_ (wpAny_specialOf a PySem.F.slot_set_len.lookup ?_);dsimp only;refine d_ (wpAny_isInstance a sub_set_self ?_);refine d_ (wpAny_typeOf a ?_);exact il e
def nr(hh:A.handled=Y)(u:Wkd prog w S o es ep t)(ho:s.heap.get? S=J o)(hn:es.size<=sizeLine)(hQ:∀O tk,Df s.heap O->s.heap.objs.size<O.objs.size->s.toks<=tk->Q ((cv w S ep es).toList.map (·.2)) { s with heap:=O,toks:=tk}):
  wpAny (model prog w) A (collect (.ref S)) Q E s:=by
 have a:S<s.heap.objs.size:=ml ho;refine d_ (wpAny_runValue (codeAny_builtin PySem.F.entry_proto_collect ?_));refine d_ (wpAny_newObj_type ?_);refine il ⟨plainId_quiet PySem.F.plain_list_iadd _,codeAny_builtin PySem.F.entry_list_iadd ?_⟩;generalize hL:({ cls:=.type "list",data:=.seq ([]:SQ).toArray}:Obj)=g;have C:(s.heap.push g).get? S=J o:=ls _ ho;have Z:(s.heap.push g).get? s.heap.objs.size=J g:=q0 _ (by rw[<-hL];rfl);have r:(s.heap.push g).objs.size=s.heap.objs.size+1:=by rw[DP]
 show wpAny _ A.in1 (Builtin.List.listExtendWith (.ref s.heap.objs.size) (.ref S) (.ref s.heap.objs.size)) _ _ { s with heap:=s.heap.push g};have ap:Shared.TypeIs { s with heap:=s.heap.push g} (.ref S) "set":=⟨o,C,u.1.1⟩;refine d_ (wpAny_typeOf ap ?_);have h1:Builtin.List.listSameRef (.ref s.heap.objs.size) (.ref S)=T:=by simp only[Builtin.List.listSameRef,beq_eq_false_iff_ne];exact Dv a
 have h2:(Value.type "set" == Value.type "list")=T:=by decide
 have h3:(Value.type "set" == Value.type "tuple")=T:=by decide
 simp only[h1,h2,h3,Bool.or_false,pu,if_false];refine d_ (zc (s:={ s with heap:=s.heap.push g}) u C ?_);generalize hI:({ cls:=.type "set_iterator",data:=.fields #[.int 0 0,.int 0 0,.ref S,.int es.size 0,.int ep 0]}:Obj)=y;have W:((s.heap.push g).push y).get? S=J o:=ls _ C;have M:((s.heap.push g).push y).get? s.heap.objs.size=J g:=ls _ Z;have an:((s.heap.push g).push y).get? (s.heap.push g).objs.size=J y:=q0 _ (by rw[<-hI];rfl);show wpAny _ A.in1 _ _ _ { s with heap:=(s.heap.push g).push y};have as:Shared.TypeIs { s with heap:=(s.heap.push g).push y} (.ref S) "set":=⟨o,W,u.1.1⟩;refine d_ (wpAny_holding (B3 as ?_));rw[c_ (by decide +kernel)];refine d_ (wpAny_rule ?_);refine d_ ?_;show wpAny _ A.in1 (updateSeq s.heap.objs.size (·.push .none) >>= λ_=>updateSeq s.heap.objs.size (·.pop)) _ _ _;subst hL;refine d_ (wpAny_updateSeq M rfl ?_);have j:=K_ (Obj.mapSeq (·.push Value.none)) M rfl;refine wpAny_updateSeq j rfl ?_;have F:=K_ (Obj.mapSeq (·.pop)) j rfl;have EY:∀b H,b≠s.heap.objs.size->((s.heap.push { cls:=.type "list",data:=.seq ([]:SQ).toArray}).push y).get? b=J H ->
   ((((s.heap.push { cls:=.type "list",data:=.seq ([]:SQ).toArray}).push y).update s.heap.objs.size (Obj.mapSeq (·.push Value.none))).update s.heap.objs.size (Obj.mapSeq (·.pop))).get? b=J H :=
  λb H L e=>(Nw _ _ (Ne.symm L)).trans ((Nw _ _ (Ne.symm L)).trans e)
 have B:s.heap.objs.size≠(s.heap.push { cls:=.type "list",data:=.seq ([]:SQ).toArray}).objs.size:=by rw[r];exact qp (HQ _)
 have P:S≠(s.heap.push { cls:=.type "list",data:=.seq ([]:SQ).toArray}).objs.size:=by rw[r];exact qp (G5 a)
 have hW:=(AB (A:=A.in1) (it:=(s.heap.push { cls:=.type "list",data:=.seq ([]:SQ).toArray}).objs.size) hh P u).toS;have ab:s.heap.objs.size∉[(s.heap.push { cls:=.type "list",data:=.seq ([]:SQ).toArray}).objs.size,S]:=by simp only[nk,Ew,or_false,not_or];exact⟨B,Dv a⟩
 refine il ⟨plainId_quiet PySem.F.plain_extend_loop _,codeAny_extend_loopS hW hn _ ab _ es.size 0 _ _ _ rfl (vl _) ?_ F (ItemsOf.nil _) λs' z c' R X l=>?_⟩
 .refine⟨EY S _ (qp a) W,0,?_,λ_=>zh _ u.2.2.2.2.2.1⟩;subst hI;exact EY _ _ (Ne.symm B) an
 .show wpAny _ A (load s.heap.objs.size >>= _) _ _ s';refine d_ (wpAny_load X ?_);refine il ?_;have G:z.toList=(cv w S ep es).toList.map (·.2):=by
   have hl:(cv w S ep es).size=es.size:=by rw[<-z_,(gS w S ep es).length_eq,z_]
   apply G7;intro i;by_cases hi:i<es.size
   .obtain⟨v,hv⟩:=eA z i (by rw[l.1];exact hi);obtain⟨x,hx,e⟩:=l.2 i v hv;rw[BC,hv,yT,BC,hx,e];rfl
   .rw[Eh (by rw[z_,l.1];lia),Eh (by rw[tu,z_,hl];lia)]
  rw[G];obtain⟨O,g',d',U,al⟩:=s';have eg:g'=s.gens:=R.gens;have ed:d'=s.drawn:=R.drawn;have eo:al=s.os:=R.os;have et:s.toks<=U:=R.toks;subst eg;subst ed;subst eo;refine hQ O U (λb H e=>?_) (ml X) et;have L:b<s.heap.objs.size:=ml e;refine R.heap b H ?_ (EY b H (qp L) (ls _ (ls _ e)));simp only[nk,Ew,or_false,not_or];exact⟨qp L,by rw[r];exact qp (G5 L)⟩
def wG(hh:A.handled=Y)(j:dW prog w (PB H0 R) s.heap S (bg w) ks)(hx:Df H0 s.heap)(hQ:∀F O vs H,Df s.heap F->s.heap.objs.size<F.objs.size->s.toks<=O->ET prog w H0 (List.toArray vs) H->(∀v∈vs,∃a,v=.ref a/\R a)->H.Perm ks->Q vs { s with heap:=F,toks:=O}):
  wpAny (model prog w) A (collect (.ref S)) Q E s:=by
 obtain⟨o,es,ep,t,u,j,hr,ab,al⟩:=j;unfold nN at hr;have M:es.size<=t.mask:=by rcases j.mask with e|e | e<;>rw[e]at hr ⊢<;>lia
 have an:t.mask<=127:=by rcases j.mask with e|e | e<;>lia
 refine nr hh ⟨j.ex,j.data,j.dm,j.plain,j.led',j.wf.rise,j.size,M⟩ j.get (by rw[sizeLine_eq];lia) λF O e1 e3 e2=>?_;have hp:=gS w S ep es;have r:∀e∈es.toList,∃k a,e.2=.ref a/\TK prog w H0 k a/\R a:=by intro e z;obtain⟨i,l⟩:=C6.mp z;rw[BC]at l;obtain⟨k,y⟩:∃k,u[i]?=J k:=⟨_,C5 (by rw[<-j.ents.1];exact eW l)⟩;obtain⟨c,d,⟨oc,P,m,X,q⟩,g,⟨U,Z⟩,hR⟩:=j.ents.2 i e k l y;have e3:oc=U:=Option.some.inj (X.symm.trans (hx c U Z));subst e3;exact⟨k,c,d,⟨oc,P,m,Z,q⟩,hR⟩
 let G:Int×Value->R6:=λe=>Classical.epsilon λk=>∃a,e.2=.ref a/\TK prog w H0 k a
 have L:∀e∈es.toList,∃a,e.2=.ref a/\TK prog w H0 (G e) a:=by intro e z;obtain⟨k,a,B,h2,_⟩:=r e z;exact Classical.epsilon_spec (p:=λk=>∃a,e.2=.ref a/\TK prog w H0 k a) ⟨k,a,B,h2⟩
 have C:es.toList.map G=u:=by
  apply G7;intro i;rw[yT,BC]
  cases l:es[i]? with
  |none =>
   have:u.length<=i:=by
    rw[<-j.ents.1]
    have:=Ou.mp l
    lia
   rw[Eh this];rfl
  |some e =>
   obtain⟨k,y⟩:∃k,u[i]?=J k:=⟨_,C5 (by rw[<-j.ents.1];exact eW l)⟩;obtain⟨c,d,X,g,⟨U,Z⟩,_⟩:=j.ents.2 i e k l y;have z:e∈es.toList:=C6.mpr ⟨i,by rw[BC];exact l⟩;obtain⟨a,B,h2⟩:=L e z;rw[d]at B;cases B;have W:=mL hx h2;rw[y];show J (G e)=J k;rw[IsTupleKey.inj W X]
 refine hQ F O _ ((cv w S ep es).toList.map G) e1 e3 e2 ⟨by simp,?_⟩ ?_ ?_
 .intro i v k hv y;rw[KA,yT]at hv;rw[yT]at y
  cases l:(cv w S ep es).toList[i]? with
  |none=>rw[l]at hv;cases hv
  |some e =>
   rw[l]at hv y;cases hv;cases y;exact L e (hp.mem_iff.mp (Dm l))
 .intro v hv;obtain⟨e,z,rfl⟩:=mx.mp hv;obtain⟨k,a,B,_,W⟩:=r e (hp.mem_iff.mp z);exact⟨a,B,W⟩
 .have:=hp.map G
  rw[C]at this;exact this.trans ab
end
end SetT
namespace SortT
open PyProof.Rows
structure yM(prog:Program)(w:World)(A:Around)(E:SA)(s:Shared)(kd:SortKind)(O:KeyOrd) where
 key:Keyed->O.α
 dflt:O.α
 good:Keyed->Prop
 ask:∀(x y:Keyed)(st:SortSt)(Q:Option Bool->SortSt->Prop),good x->good y->kindOf st=kd->Q (J (O.blt (key x) (key y))) st->wpS (model prog w) A E s (lt' x y) Q st
section
variable{prog:Program}{w:World}{A:Around}{E:SA}{s:Shared}{kd:SortKind}{O:KeyOrd}(C:yM prog w A E s kd O)
def kk(xs:Array Keyed)(i:Nat):O.α:=match xs[i]? with
 |some p=>C.key p
 |none=>C.dflt
def r4(xs:Array Keyed)(lo a:Nat):Prop:=∀i j,lo<=i->i<=j->j<a->O.kle (kk C xs i) (kk C xs j)
def KU(xs:Array Keyed)(lo a:Nat):Prop:=∀i j,lo<=i->i<=j->j<a->O.kle (kk C xs j) (kk C xs i)
def da(xs:Array Keyed):Prop:=∀p,p∈xs.toList->C.good p
structure SB(kd:SortKind)(a₀:Array Keyed)(st:SortSt):Prop where
 perm:(arrOf st).Perm a₀
 kind:kindOf st=kd
 failed:failedOf st=Y
def dh(lo:Nat)(xs ys:Array Keyed):Prop:=∀i,i<lo->ys[i]?=xs[i]?
def dh.rfl'{lo:Nat}{xs:Array Keyed}:dh lo xs xs:=λ_ _=>rfl
def dh.trans{lo:Nat}{xs ys a:Array Keyed}(h:dh lo xs ys)(g:dh lo ys a):dh lo xs a:=λi e=>(g i e).trans (h i e)
variable{C}{a₀:Array Keyed}{st:SortSt}
def SB.size(h:SB kd a₀ st):(arrOf st).size=a₀.size:=h.perm.size_eq
def SB.arr(h:SB kd a₀ st)(a:xs.Perm (arrOf st)):SB kd a₀ (setArr st xs):=⟨a.trans h.perm,h.kind,h.failed⟩
def SB.good(h:SB kd a₀ st)(e:da C a₀):da C (arrOf st):=λp a=>e p ((Ov.mp h.perm).mem_iff.mp a)
def fI(h:xs[i]?=ys[j]?):kk C xs i=kk C ys j:=by delta kk;rw[h]
def aU(h:xs[i]?=J p):kk C xs i=C.key p:=by delta kk;rw[h]
def bH{xs:Array Keyed}(g:da C xs){i:Nat}{p:Keyed}(h:xs[i]?=J p):C.good p:=by refine g p (C6.mpr ⟨i,?_⟩);rw[BC];exact h
def aX(a:i<xs.size)(h:∀p,xs[i]?=J p->Q p st):wpS (model prog w) A E s (elem' xs i) Q st:=by rw[elem'_eq];have e:=getElem?_pos xs i a;rw[e];exact wpS_pure (h _ e)
def mP{i j:Nat}{Q:Option Bool->SortSt->Prop}(a:SB kd a₀ st)(l:da C a₀)(r:i<a₀.size)(o:j<a₀.size)(h:Q (J (O.blt (kk C (arrOf st) i) (kk C (arrOf st) j))) st):wpS (model prog w) A E s (ltAt' i j) Q st:=by
 refine wpS_bind (wpS_get ?_);refine wpS_bind (aX (by rw[a.size];exact r) λx g=>wpS_bind (aX (by rw[a.size];exact o) λy e=>?_));rw[aU g,aU e]at h;exact C.ask x y st Q (bH (a.good l) g) (bH (a.good l) e) a.kind h
def tV(j:src<xs.size)(hd:d<=src)(i:Nat):
  kk C (bubble xs src d) i=if i=src-d then kk C xs src else if src-d<i/\i<=src then kk C xs (i-1)else kk C xs i:=by
 have e:=getElem?_bubble j d hd i;split
 .next a=>rw[c_ a]at e;exact fI e
 .next a =>
  rw[f_ a]at e;split
  .next g=>rw[c_ g]at e;exact fI e
  .next g=>rw[f_ g]at e;exact fI e
def lS(g:j<=xs.size)(q:Nat):
  kk C (mirror xs i j ((j-i)/2)) q=if i<=q/\q<j then kk C xs (i+j-1-q)else kk C xs q:=by
 have e:=getElem?_mirror_all (i:=i) g q;split
 .next a=>rw[c_ a]at e;exact fI e
 .next a=>rw[f_ a]at e;exact fI e
def eI(e:j<=xs.size)(a:∀q,i<=q->q<j->kk C xs q=kk C xs (j-1))(q:Nat):
  kk C (mirror xs i j ((j-i)/2)) q=kk C xs q:=by
 rw[lS e];split
 .next h=>rw[a (i+j-1-q) ⋯ ⋯,a q h.1 h.2]
 .rfl
def gL{xs:Array Keyed}{lo i j:Nat}(a:j<=xs.size)(h:lo<=i):dh lo xs (mirror xs i j ((j-i)/2)):=λq e=>by
 rw[getElem?_mirror_all a,f_ ⋯]
def wD{xs:Array Keyed}{lo a d:Nat}(e:a<xs.size)(hd:d<=a)(h:lo<=a-d):dh lo xs (bubble xs a d):=λq g=>by
 rw[getElem?_bubble e d hd,f_ ⋯,f_ ⋯]
abbrev AS:=Option (SG)×Nat
abbrev DS:=Option (SG)×Nat×Nat
def mG(p a e:Nat):StateT SortSt Sem AS :=
 forIn [a:e] ((Y,a):AS) λ_ c=>do
  let q <-ltAt' (p+c.2) (p+c.2-1)
  match q with
  |some z=>if z=I then pure (ForInStep.done (Y,c.2))else pure (ForInStep.yield (Y,c.2+1))
  |_=>pure (ForInStep.done (J Y,c.2))
def Jn(p n a:Nat):StateT SortSt Sem (SG):=do
 reverseSlice' p (p+n)
 let c <-mG p n a
 match c.1 with
 |some r=>pure r
 |none=>pure (J c.2)
def F6(p n a:Nat):StateT SortSt Sem DS :=
 forIn [n:a] ((Y,n,0):DS) λ_ c=>do
  let q <-ltAt' (p+c.2.1) (p+c.2.1-1)
  match q with
  |some z =>
   if z=I then
    if c.2.2>0 then do
     reverseSlice' (p+c.2.1-(c.2.2+1)) (p+c.2.1)
     pure (ForInStep.yield (Y,c.2.1+1,0))
    else pure (ForInStep.yield (Y,c.2.1+1,0))
   else do
    let q <-ltAt' (p+c.2.1-1) (p+c.2.1)
    match q with
    |some z=>if z=I then pure (ForInStep.done (Y,c.2.1,c.2.2))else pure (ForInStep.yield (Y,c.2.1+1,c.2.2+1))
    |_=>pure (ForInStep.done (J Y,c.2.1,c.2.2))
  |_=>pure (ForInStep.done (J Y,c.2.1,c.2.2))
def Jo(p n a:Nat):StateT SortSt Sem (SG):=do
 liftM (rule "list.sort.descending-run")
 let c <-F6 p (n+1) a
 match c.1 with
 |some r=>pure r
 |none =>
  if c.2.2>0 then do
   reverseSlice' (p+c.2.1-(c.2.2+1)) (p+c.2.1)
   Jn p c.2.1 a
  else Jn p c.2.1 a
def Jp(p a:Nat):countRun' p a=(do
  let c <-mG p 1 a
  match c.1 with
  |some r=>pure r
  |none =>
   if(c.2==a)=I then pure (J c.2)
   else if c.2>1 then do
    let q <-ltAt' p (p+c.2-1)
    match q with
    |some z=>if z=I then pure (J c.2)else do
      reverseSlice' p (p+c.2)
      Jo p c.2 a
    |_=>pure Y
   else Jo p c.2 a):=by
 refine congrArg (λg=>mG p 1 a >>= g) (funext λc=>?_);obtain⟨r,n⟩:=c
 cases r with
 |some r=>rfl
 |none =>
  dsimp only;split
  .rfl
  .split
   .congr 1;funext x
    cases x with
    |none=>rfl
    |some z =>
     dsimp only;split
     .rfl
     .refine congrArg _ (funext λ_=>?_);refine congrArg _ (funext λ_=>?_);refine congrArg (λg=>F6 p (n+1) a >>= g) (funext λt=>?_);obtain⟨j,l,u⟩:=t
      cases j with
      |some j=>rfl
      |none =>
       dsimp only;split
       .refine congrArg _ (funext λ_=>?_);refine congrArg _ (funext λ_=>?_);refine congrArg (λg=>mG p l a >>= g) (funext λe=>?_);obtain⟨i,o⟩:=e;cases i<;>rfl
       .refine congrArg _ (funext λ_=>?_);refine congrArg (λg=>mG p l a >>= g) (funext λe=>?_);obtain⟨i,o⟩:=e;cases i<;>rfl
   .refine congrArg _ (funext λ_=>?_);refine congrArg (λg=>F6 p (n+1) a >>= g) (funext λt=>?_);obtain⟨j,l,u⟩:=t
    cases j with
    |some j=>rfl
    |none =>
     dsimp only;split
     .refine congrArg _ (funext λ_=>?_);refine congrArg _ (funext λ_=>?_);refine congrArg (λg=>mG p l a >>= g) (funext λe=>?_);obtain⟨i,o⟩:=e;cases i<;>rfl
     .refine congrArg _ (funext λ_=>?_);refine congrArg (λg=>mG p l a >>= g) (funext λe=>?_);obtain⟨i,o⟩:=e;cases i<;>rfl
def xo(F:da C a₀)(R:p+nrem<=a₀.size)(M:1<=a)(H:a<=nrem)(z:SB kd a₀ st)(B:r4 C (arrOf st) p (p+a))(h:∀n,a<=n->n<=nrem->r4 C (arrOf st) p (p+n)->(n=nrem\/O.klt (kk C (arrOf st) (p+n)) (kk C (arrOf st) (p+n-1)))->Q (Y,n) st):
  wpS (model prog w) A E s (mG p a nrem) Q st:=by
 refine wpS_forRange (I:=λx c g=>g=st/\c=(Y,x)/\r4 C (arrOf st) p (p+x)) ?_ ?_ ⟨rfl,rfl,B⟩
 .rintro x c g G P ⟨rfl,rfl,l⟩;refine wpS_bind (mP z F ⋯ ⋯ ?_)
  cases y:O.blt (kk C (arrOf g) (p+x)) (kk C (arrOf g) (p+x-1)) with
  |true=>exact wpS_pure (h x G ⋯ l (.inr y))
  |false =>
   refine wpS_pure ⟨rfl,rfl,λi j u o L=>?_⟩;by_cases t:j<p+x
   .exact l i j u o t
   .have e:j=p+x:=by lia
    subst e;by_cases r:i=p+x
    .subst r;exact KeyOrd.kle_refl _
    .exact KeyOrd.kle_trans (l i (p+x-1) u ⋯ ⋯) y
 .simp_all
def nY(h:Q () (setArr st (mirror (arrOf st) i j ((j-i)/2)))):wpS (model prog w) A E s (reverseSlice' i j) Q st:=by exact wpS_modify h
def xb(z:da C a₀)(F:p+nrem<=a₀.size)(B:1<=n)(l:n<=nrem)(o:SB kd a₀ st)(y:KU C (arrOf st) p (p+n))(h:∀m a,SB kd a₀ a->dh p (arrOf st) (arrOf a)->pendingOf a=pendingOf st->1<=m->m<=nrem->r4 C (arrOf a) p (p+m)->Q (J m) a):
  wpS (model prog w) A E s (Jn p n nrem) Q st:=by
 have e:p+n<=(arrOf st).size:=by rw[o.size];lia
 refine wpS_bind (nY ?_);have g:=o.arr (mirror_perm (arrOf st) p (p+n) ((p+n-p)/2));refine wpS_bind (xo z F B l g (λi j G t H=>?_) λm L r u _=>wpS_pure (h m _ g (gL e (i3 _)) rfl ⋯ r u));rw[lS e,lS e,c_ ⋯,c_ ⋯];exact y _ _ ⋯ ⋯ ⋯
def F7{p n l:Nat}{Q:DS->SortSt->Prop}(h0:da C a₀)(hn:p+l<=a₀.size)(h1:1<=n)(P:n<=l)(hB:SB kd a₀ st)(hs:KU C (arrOf st) p (p+n))(h:∀m q g,SB kd a₀ g->dh p (arrOf st) (arrOf g)->pendingOf g=pendingOf st->n<=m->m<=l->KU C (arrOf g) p (p+m)->q+1<=m ->
   (∀i,p+m-(q+1)<=i->i<p+m->kk C (arrOf g) i=kk C (arrOf g) (p+m-1))->Q (Y,m,q) g):
  wpS (model prog w) A E s (F6 p n l) Q st:=by
 refine wpS_forRange (I:=λx c g=>∃q,c=(Y,x,q)/\SB kd a₀ g/\dh p (arrOf st) (arrOf g)/\pendingOf g=pendingOf st/\KU C (arrOf g) p (p+x)/\q+1<=x /\
   ∀i,p+x-(q+1)<=i->i<p+x->kk C (arrOf g) i=kk C (arrOf g) (p+x-1)) ?_ ?_ ⟨0,rfl,hB,dh.rfl',rfl,hs,⋯,λi a b=>by congr 1;lia⟩
 .rintro x c g X ab ⟨q,rfl,o,r,t,hf,G,y⟩;have z:p+x<=(arrOf g).size:=by rw[o.size];lia
  have u:∀xs:Array Keyed,(∀i,kk C xs i=kk C (arrOf g) i)->O.kle (kk C (arrOf g) (p+x)) (kk C (arrOf g) (p+x-1))->KU C xs p (p+(x+1)):=by
   intro xs hk L i j Z H hj;rw[hk,hk];by_cases U:j<p+x
   .exact hf i j Z H U
   .have e:j=p+x:=by lia
    subst e;by_cases S:i=p+x
    .subst S;exact KeyOrd.kle_refl _
    .exact KeyOrd.kle_trans L (hf i (p+x-1) Z ⋯ ⋯)
  dsimp only;refine wpS_bind (mP o h0 ⋯ ⋯ ?_)
  cases R:O.blt (kk C (arrOf g) (p+x)) (kk C (arrOf g) (p+x-1)) with
  |true =>
   dsimp only;rw[c_ rfl];by_cases B:q>0
   .rw[c_ B];refine wpS_bind (nY (wpS_pure ⟨0,rfl,o.arr (mirror_perm _ _ _ _),r.trans (gL z ⋯),t,u _ (eI z y) (KeyOrd.kle_of_klt R),⋯,λi a b=>by congr 1;lia⟩))
   .rw[f_ B];exact wpS_pure ⟨0,rfl,o,r,t,u _ (λ_=>rfl) (KeyOrd.kle_of_klt R),⋯,λi a b=>by congr 1;lia⟩
  |false =>
   dsimp only;rw[f_ (by simp)];refine wpS_bind (mP o h0 ⋯ ⋯ ?_)
   cases F:O.blt (kk C (arrOf g) (p+x-1)) (kk C (arrOf g) (p+x)) with
   |true =>
    dsimp only;rw[c_ rfl];exact wpS_pure (h x q g o r t X ⋯ hf G y)
   |false =>
    dsimp only;rw[f_ (by simp)];have W:kk C (arrOf g) (p+x)=kk C (arrOf g) (p+x-1):=KeyOrd.kle_antisymm F R;refine wpS_pure ⟨q+1,rfl,o,r,t,u _ (λ_=>rfl) F,⋯,λi a b=>?_⟩;have e1:p+(x+1)-1=p+x:=by lia
    rw[e1];by_cases M:i=p+x
    .subst M;rfl
    .rw[W];exact y i ⋯ ⋯
 .rintro c g ⟨q,rfl,o,r,t,hf,G,y⟩;have e:max n l=l:=by lia
  rw[e]at hf G y ⊢;exact h l q g o r t P (i3 _) hf G y
def uS{p n e:Nat}{Q:SG->SortSt->Prop}(H:da C a₀)(M:p+e<=a₀.size)(F:n+1<=e)(U:SB kd a₀ st)(X:KU C (arrOf st) p (p+(n+1)))(h:∀m a,SB kd a₀ a->dh p (arrOf st) (arrOf a)->pendingOf a=pendingOf st->1<=m->m<=e->r4 C (arrOf a) p (p+m)->Q (J m) a):
  wpS (model prog w) A E s (Jo p n e) Q st:=by
 refine wpS_bind (wpS_lift (wpAny_rule ⟨rfl,?_⟩));refine wpS_bind (F7 H M ⋯ F U X λm q a o t y Z u hf hq R=>?_);dsimp only;have g:p+m<=(arrOf a).size:=by rw[o.size];lia
 by_cases r:q>0
 .rw[c_ r];refine wpS_bind (nY (xb H M ⋯ u (o.arr (mirror_perm _ _ _ _)) ?_ λP l B L G=>h P l B ((t.trans (gL g ⋯)).trans L) (G.trans y)));intro i j S z W;rw[eI g R,eI g R];exact hf i j S z W
 .rw[f_ r];exact xb H M ⋯ u o hf λP l B L G=>h P l B (t.trans L) (G.trans y)
def xK(H:da C a₀)(R:p+nrem<=a₀.size)(h1:1<=nrem)(r:SB kd a₀ st)(h:∀m g,SB kd a₀ g->dh p (arrOf st) (arrOf g)->pendingOf g=pendingOf st->1<=m->m<=nrem->r4 C (arrOf g) p (p+m)->Q (J m) g):
  wpS (model prog w) A E s (countRun' p nrem) Q st:=by
 rw[Jp];refine wpS_bind (xo H R (i3 1) h1 r (λi j G y W=>by have e:i=j:=⋯;subst e;exact KeyOrd.kle_refl _) λn X U l S=>?_);by_cases t:n=nrem
 .rw[c_ (by simpa using t)];exact wpS_pure (h n st r dh.rfl' rfl X U l)
 .rw[f_ (by simpa using t)];have z:=S.resolve_left t;by_cases B:n>1
  .rw[c_ B];refine wpS_bind (mP r H ⋯ ⋯ ?_)
   cases hz:O.blt (kk C (arrOf st) p) (kk C (arrOf st) (p+n-1)) with
   |true =>
    dsimp only;exact wpS_pure (h n st r dh.rfl' rfl X U l)
   |false =>
    dsimp only;have o:p+n<=(arrOf st).size:=by rw[r.size];lia
    have a:∀q,p<=q->q<p+n->kk C (arrOf st) q=kk C (arrOf st) (p+n-1):=λq F P =>
     KeyOrd.kle_antisymm (l q (p+n-1) F ⋯ ⋯) (KeyOrd.kle_trans hz (l p q (i3 _) F P))
    refine wpS_bind (nY (uS H R ⋯ (r.arr (mirror_perm _ _ _ _)) ?_ λm2 M F P Z=>h m2 M F ((gL o (i3 _)).trans P) Z));intro i j G y W;rw[eI o a,eI o a];by_cases L:j<p+n
    .rw[a i G ⋯,a j ⋯ L];exact KeyOrd.kle_refl _
    .have e:j=p+n:=by lia
     subst e;by_cases u:i=p+n
     .subst u;exact KeyOrd.kle_refl _
     .rw[a i G ⋯];exact KeyOrd.kle_of_klt z
  .rw[f_ B];have e:n=1:=by lia
   subst e;refine uS H R ⋯ r ?_ h;intro i j G y W;by_cases u:i=j
   .subst u;exact KeyOrd.kle_refl _
   .have e1:i=p:=by lia
    have e2:j=p+1:=by lia
    subst e1;subst e2;exact KeyOrd.kle_of_klt z
end
section
variable{prog:Program}{w:World}{A:Around}{E:SA}{s:Shared}{kd:SortKind}{O:KeyOrd}{C:yM prog w A E s kd O}{a₀:Array Keyed}{st:SortSt}
def wQ(h0:da C a₀)(hn:p+n<=a₀.size)(hok:ok<=n)(Z:SB kd a₀ st)(hs:r4 C (arrOf st) p (p+ok))(h:∀g,SB kd a₀ g->dh p (arrOf st) (arrOf g)->pendingOf g=pendingOf st->r4 C (arrOf g) p (p+n)->Q I g):wpS (model prog w) A E s (binarySort' p n ok) Q st:=by
 rw[binarySort'_eq]
 refine wpS_bind (wpS_mono (wpS_forRange (I:=λk c g=>c=(Y,())/\SB kd a₀ g/\dh p (arrOf st) (arrOf g)/\pendingOf g=pendingOf st/\r4 C (arrOf g) p (p+min k n))
  (Q:=λc g=>c=(Y,())/\SB kd a₀ g/\dh p (arrOf st) (arrOf g)/\pendingOf g=pendingOf st/\r4 C (arrOf g) p (p+n)) ?_ ?_ ?_) ?_)
 .rintro k c g X U ⟨rfl,u,B,F,t⟩;have ek:min k n=k:=by lia
  rw[ek]at t
  refine wpS_bind (wpS_mono (wpS_forRange (I:=λx c o=>o=g/\∃l r,c=(Y,l,r)/\l<=r/\r<=k/\r-l<=k-x /\
    (∀i,p<=i->i<p+l->O.kle (kk C (arrOf g) i) (kk C (arrOf g) (p+k)))/\∀i,p+r<=i->i<p+k->O.klt (kk C (arrOf g) (p+k)) (kk C (arrOf g) i))
   (Q:=λc o=>o=g/\∃l r,c=(Y,l,r)/\l<=k /\
    (∀i,p<=i->i<p+l->O.kle (kk C (arrOf g) i) (kk C (arrOf g) (p+k)))/\∀i,p+l<=i->i<p+k->O.klt (kk C (arrOf g) (p+k)) (kk C (arrOf g) i)) ?_ ?_ ?_) ?_)
  .rintro x c o _ hx ⟨rfl,l,r,rfl,P,H,hm,y,z⟩;by_cases L:l>=r
   .rw[c_ L];have e:l=r:=by lia
    subst e;exact wpS_pure ⟨rfl,l,l,rfl,H,y,z⟩
   .rw[f_ L];refine wpS_bind (mP u h0 ⋯ ⋯ ?_)
    cases S:O.blt (kk C (arrOf o) (p+k)) (kk C (arrOf o) (p+(l+r)/2)) with
    |true =>
     simp only[if_true];exact wpS_pure ⟨rfl,l,(l+r)/2,rfl,⋯,⋯,⋯,y,λi a b=>KeyOrd.klt_of_klt_of_kle S (t _ _ ⋯ a b)⟩
    |false =>
     simp only[pu,if_false];exact wpS_pure ⟨rfl,(l+r)/2+1,r,rfl,⋯,⋯,⋯,λi a b=>KeyOrd.kle_trans (t i (p+(l+r)/2) a ⋯ ⋯) S,z⟩
  .rintro c o ⟨rfl,l,r,rfl,P,H,hm,y,z⟩;have e:l=r:=by lia
   subst e;exact⟨rfl,l,l,rfl,H,y,z⟩
  .exact⟨rfl,0,k,rfl,⋯,⋯,⋯,λi a b=>by lia,λi a b=>by lia⟩
  .rintro c o ⟨rfl,l,r,rfl,ab,y,z⟩;dsimp only;rw[moveDown'_eq];have G:p+k<(arrOf o).size:=by rw[u.size];lia
   have ed:p+k-(p+l)=k-l:=by lia
   rw[ed];refine wpS_bind (wpS_modify (wpS_pure ⟨rfl,u.arr (bubble_perm _ _ _),B.trans (wD G ⋯ ⋯),F,?_⟩));have e1:min (k+1) n=k+1:=by lia
   rw[e1];intro i j R M hj;show O.kle (kk C (bubble (arrOf o) (p+k) (k-l)) i) (kk C (bubble (arrOf o) (p+k) (k-l)) j);have e2:p+k-(k-l)=p+l:=by lia
   rw[tV G ⋯,tV G ⋯,e2]
   repeat' split
   all_goals first
    |(exfalso;lia)
    |exact KeyOrd.kle_refl _
    |exact y _ ⋯ ⋯
    |exact KeyOrd.kle_of_klt (z _ ⋯ ⋯)
    |exact t _ _ ⋯ ⋯ ⋯
 .rintro c g ⟨W,u,B,F,t⟩;refine⟨W,u,B,F,?_⟩;have e:min (max (max ok 1) n) n=n:=by lia
  rwa [e]at t
 .refine⟨rfl,Z,dh.rfl',rfl,λi j R M hj=>?_⟩;by_cases h1:ok=0
  .have e:i=j:=by lia
   subst e;exact KeyOrd.kle_refl _
  .exact hs i j R M ⋯
 .rintro c g ⟨rfl,u,B,F,t⟩;exact wpS_pure (h g u B F t)
def gallop':Bool->Keyed->Array Keyed->Nat->Nat->Nat->StateT SortSt Sem (SG):=sortPriv% PySem.Builtin.gallop
def rq(left:Bool)(key:Keyed)(arr:Array Keyed)(base i:Nat):StateT SortSt Sem (Option Bool):=do
 let x <-elem' arr (base+i)
 if left then lt' x key else return (<-lt' key x).map (!·)
def yV(left:Bool)(key:Keyed)(arr:Array Keyed)(base n a:Nat):gallop' left key arr base n a=(do
  let mut la:=0
  let mut of:=1
  let mut lo:=0
  let mut hi:=0
  let J rt <-rq left key arr base a|return Y
  if rt then
   let e:=n-a
   for _ in [0:n] do
    if of>=e then break
    let J q <-rq left key arr base (a+of)|return Y
    if !q then break
    la:=of
    of:=2*of+1
   lo:=a+la+1
   hi:=a+min of e
  else
   let e:=a+1
   for _ in [0:n] do
    if of>=e then break
    let J q <-rq left key arr base (a-of)|return Y
    if q then break
    la:=of
    of:=2*of+1
   lo:=a+1-min of e
   hi:=a-la
  for _ in [0:n] do
   if lo>=hi then break
   let m:=lo+(hi-lo)/2
   let J q <-rq left key arr base m|return Y
   if q then lo:=m+1 else hi:=m
  return J hi):=rfl
def h_(C:yM prog w A E s kd O)(left:Bool)(key:Keyed)(arr:Array Keyed)(i:Nat):Bool:=if left then O.blt (kk C arr i) (C.key key)else !O.blt (C.key key) (kk C arr i)
def nC(g:kindOf st=kd)(j:da C arr)(a:C.good key)(l:base+i<arr.size)(h:Q (J (h_ C left key arr (base+i))) st):wpS (model prog w) A E s (rq left key arr base i) Q st:=by
 refine wpS_bind (aX l λx e=>?_);unfold h_ at h;rw[aU e]at h
 cases left with
 |true =>
  exact C.ask x key st Q (bH j e) a g h
 |false =>
  exact wpS_bind (C.ask key x st _ a (bH j e) g (wpS_pure h))
def Mw(left:Bool)(key:Keyed)(arr:Array Keyed)(base n lo a:Nat):StateT SortSt Sem DS :=
 forIn [:n] ((Y,lo,a):DS) λ_ c =>
  if c.2.1>=c.2.2 then pure (ForInStep.done (Y,c.2.1,c.2.2))
  else do
   let q <-rq left key arr base (c.2.1+(c.2.2-c.2.1)/2)
   match q with
   |some q=>if q=I then pure (ForInStep.yield (Y,c.2.1+(c.2.2-c.2.1)/2+1,c.2.2))else pure (ForInStep.yield (Y,c.2.1,c.2.1+(c.2.2-c.2.1)/2))
   |_=>pure (ForInStep.done (J Y,c.2.1,c.2.2))
section
variable{left:Bool}{key:Keyed}{arr:Array Keyed}{base n:Nat}
def ig(l:base+n<=arr.size)(g:r4 C arr base (base+n)):∀i j,i<=j->j<n->h_ C left key arr (base+j)=I->h_ C left key arr (base+i)=I:=by
 intro i j e o;have a:=g (base+i) (base+j) ⋯ ⋯ ⋯;delta h_
 cases left with
 |true=>exact λq=>KeyOrd.klt_of_kle_of_klt a q
 |false =>
  simp only[pu,if_false,G4];exact λq=>KeyOrd.kle_trans a q
def kF(l:base+n<=arr.size)(r:r4 C arr base (base+n)):∀i j,i<=j->j<n->h_ C left key arr (base+i)=T->h_ C left key arr (base+j)=T:=by
 intro i j e o g
 cases a:h_ C left key arr (base+j) with
 |false=>rfl
 |true=>rw[ig l r i j e o a]at g;cases g
def wt{lo hi:Nat}{Q:DS->SortSt->Prop}(S:kindOf st=kd)(U:da C arr)(t:C.good key)(L:base+n<=arr.size)(G:r4 C arr base (base+n))(B:lo<=hi)(z:hi<=n)(P:∀i,i<lo->h_ C left key arr (base+i)=I)(R:∀i,hi<=i->i<n->h_ C left key arr (base+i)=T)(h:∀k,k<=n->(∀i,i<k->h_ C left key arr (base+i)=I)->(∀i,k<=i->i<n->h_ C left key arr (base+i)=T)->Q (Y,k,k) st):
  wpS (model prog w) A E s (Mw left key arr base n lo hi) Q st:=by
 refine wpS_forRange (I:=λx c j=>j=st/\∃l r,c=(Y,l,r)/\l<=r/\r<=n/\r-l<=n-x/\(∀i,i<l->h_ C left key arr (base+i)=I)/\∀i,r<=i->i<n->h_ C left key arr (base+i)=T)
  ?_ ?_ ⟨rfl,lo,hi,rfl,B,z,⋯,P,R⟩
 .rintro x c j _ W ⟨rfl,l,r,rfl,F,g,M,y,u⟩;by_cases o:l>=r
  .rw[c_ o];have e:l=r:=by lia
   subst e;exact wpS_pure (h l g y u)
  .rw[f_ o];refine wpS_bind (nC S U t ⋯ ?_)
   cases H:h_ C left key arr (base+(l+(r-l)/2)) with
   |true =>
    simp only[if_true];exact wpS_pure ⟨rfl,_,_,rfl,⋯,⋯,⋯,λi hi=>ig L G i (l+(r-l)/2) ⋯ ⋯ H,u⟩
   |false =>
    simp only[pu,if_false];exact wpS_pure ⟨rfl,_,_,rfl,⋯,⋯,⋯,y,λi a b=>kF L G (l+(r-l)/2) i a b H⟩
 .rintro c j ⟨rfl,l,r,rfl,F,g,M,y,u⟩;have e:l=r:=by lia
  subst e;exact h l g y u
def eR{e:Nat}{Q:SG->SortSt->Prop}(G:kindOf st=kd)(H:da C arr)(l:C.good key)(B:base+n<=arr.size)(R:e<n)(z:r4 C arr base (base+n))(h:∀k,k<=n->(∀i,i<k->h_ C left key arr (base+i)=I)->(∀i,k<=i->i<n->h_ C left key arr (base+i)=T)->Q (J k) st):
  wpS (model prog w) A E s (gallop' left key arr base n e) Q st:=by
 rw[yV];refine wpS_bind (nC G H l ⋯ ?_)
 cases P:h_ C left key arr (base+e) with
 |true =>
  refine wpS_bind (wpS_mono (wpS_forRange (I:=λx c j=>j=st/\∃g of,c=(Y,g,of)/\g<of/\x+1<=of/\e+g<n/\h_ C left key arr (base+(e+g))=I)
   (Q:=λc j=>j=st/\∃g of,c=(Y,g,of)/\g<of/\e+g<n/\h_ C left key arr (base+(e+g))=I/\(n-e<=of\/of<n-e/\h_ C left key arr (base+(e+of))=T)) ?_ ?_
    ⟨rfl,0,1,rfl,⋯,⋯,R,P⟩) ?_)
  .rintro x c j _ U ⟨rfl,g,of,rfl,u,L,t,r⟩;dsimp only;by_cases o:of>=n-e
   .rw[c_ o];exact wpS_pure ⟨rfl,g,of,rfl,u,t,r,.inl o⟩
   .rw[f_ o];refine wpS_bind (nC G H l ⋯ ?_)
    cases F:h_ C left key arr (base+(e+of)) with
    |true =>
     simp only[Ez,pu,if_false];exact wpS_pure ⟨rfl,_,_,rfl,⋯,⋯,⋯,F⟩
    |false =>
     simp only[Bool.not_false,if_true];exact wpS_pure ⟨rfl,g,of,rfl,u,t,r,.inr ⟨⋯,F⟩⟩
  .rintro c j ⟨rfl,g,of,rfl,u,L,t,r⟩;exact⟨rfl,g,of,rfl,u,t,r,.inl ⋯⟩
  .rintro c j ⟨rfl,g,of,rfl,u,t,r,y⟩;dsimp only;refine wpS_bind (wt (lo:=e+g+1) (hi:=e+min of (n-e)) G H l B z ⋯ ⋯ (λi S=>ig B z i (e+g) ⋯ t r) (λi a b=>?_) λk a b c=>wpS_pure (h k a b c));rcases y with y|⟨y,M⟩
   .lia
   .exact kF B z (e+of) i ⋯ b M
 |false =>
  simp only[pu,if_false]
  refine wpS_bind (wpS_mono (wpS_forRange (I:=λx c j=>j=st/\∃g of,c=(Y,g,of)/\g<of/\x+1<=of/\g<=e/\h_ C left key arr (base+(e-g))=T)
   (Q:=λc j=>j=st/\∃g of,c=(Y,g,of)/\g<of/\g<=e/\h_ C left key arr (base+(e-g))=T/\(e+1<=of\/of<e+1/\h_ C left key arr (base+(e-of))=I)) ?_ ?_
    ⟨rfl,0,1,rfl,⋯,⋯,⋯,P⟩) ?_)
  .rintro x c j _ U ⟨rfl,g,of,rfl,u,L,t,r⟩;dsimp only;by_cases o:of>=e+1
   .rw[c_ o];exact wpS_pure ⟨rfl,g,of,rfl,u,t,r,.inl o⟩
   .rw[f_ o];refine wpS_bind (nC G H l ⋯ ?_)
    cases F:h_ C left key arr (base+(e-of)) with
    |true =>
     simp only[if_true];exact wpS_pure ⟨rfl,g,of,rfl,u,t,r,.inr ⟨⋯,F⟩⟩
    |false =>
     simp only[pu,if_false];exact wpS_pure ⟨rfl,_,_,rfl,⋯,⋯,⋯,F⟩
  .rintro c j ⟨rfl,g,of,rfl,u,L,t,r⟩;exact⟨rfl,g,of,rfl,u,t,r,.inl ⋯⟩
  .rintro c j ⟨rfl,g,of,rfl,u,t,r,y⟩;dsimp only;refine wpS_bind (wt (lo:=e+1-min of (e+1)) (hi:=e-g) G H l B z ⋯ ⋯ (λi S=>?_) (λi a b=>kF B z (e-g) i a b r) λk a b c=>wpS_pure (h k a b c));rcases y with y|⟨y,M⟩
   .lia
   .exact ig B z i (e-of) ⋯ ⋯ M
end
end
def oO:Array Keyed->Array Keyed->StateT SortSt Sem (Array Keyed):=sortPriv% PySem.Builtin.mergeLo
def F8:Nat->StateT SortSt Sem Unit:=sortPriv% PySem.Builtin.setMinGallop
section
variable{prog:Program}{w:World}{A:Around}{E:SA}{s:Shared}{kd:SortKind}{O:KeyOrd}(C:yM prog w A E s kd O)
def LS(l:List Keyed):Prop:=l.Pairwise λx y=>O.kle (C.key x) (C.key y)
def LB(l m:List Keyed):Prop:=∀x∈l,∀y∈m,O.kle (C.key x) (C.key y)
variable{C}
def cG(e:LS C l)(g:LS C m)(a:LB C l m):LS C (l++m):=by delta LS;rw[Ny];exact⟨e,g,a⟩
def pZ{xs:Array Keyed}{lo hi:Nat}(r:hi<=xs.size)(h:r4 C xs lo hi):LS C (xs.extract lo hi).toList:=by
 delta LS;rw[G1];intro i j l a o;have e:(xs.extract lo hi).size=hi-lo:=by simp;lia
 have g:j<(xs.extract lo hi).size:=by exact a
 have e1:(xs.extract lo hi).toList[i]=xs[lo+i]'⋯:=by simp
 have e2:(xs.extract lo hi).toList[j]=xs[lo+j]'⋯:=by simp
 rw[e1,e2]
 have:=h (lo+i) (lo+j) ⋯ ⋯ ⋯
 rw[aU (getElem?_pos xs (lo+i) ⋯),aU (getElem?_pos xs (lo+j) ⋯)]at this;exact this
def nc(h:LS C xs.toList):r4 C xs 0 xs.size:=by
 intro i j _ g a;rw[aU (getElem?_pos xs i ⋯),aU (getElem?_pos xs j a)];by_cases e:i=j
 .subst e;exact KeyOrd.kle_refl _
 .unfold LS at h;rw[G1]at h
  have:=h i j (by simp;lia) (by simpa using a) ⋯
  simpa using this
structure MI(C:yM prog w A E s kd O)(a b ou:Array Keyed)(i j:Nat):Prop where
 perm:(ou.toList++(a.toList.drop i++b.toList.drop j)).Perm (a.toList++b.toList)
 srt:LS C ou.toList
 low:LB C ou.toList (a.toList.drop i++b.toList.drop j)
variable{a b ou:Array Keyed}{i j:Nat}
def MI.size(m:MI C a b ou i j)(g:i<=a.size)(e:j<=b.size):ou.size+(a.size-i)+(b.size-j)=a.size+b.size:=by
 have:=m.perm.length_eq
 simp at this;lia
def km{xs:Array Keyed}{i:Nat}{p:Keyed}(h:xs[i]?=J p):xs.toList.drop i=p::xs.toList.drop (i+1):=by
 have g:i<xs.toList.length:=by
  have:=(Ky.mp h).1
  simpa using this
 have e:xs.toList[i]=p:=by
  have:=(Ky.mp h).2
  simpa using this
 rw[<-e,QD g]
def j6{xs:Array Keyed}(h:LS C xs.toList)(i:Nat):LS C (xs.toList.drop i):=h.sublist (List.drop_sublist i _)
def j4{xs:Array Keyed}(h:LS C xs.toList){i:Nat}{p:Keyed}(l:xs[i]?=J p):∀y∈xs.toList.drop i,O.kle (C.key p) (C.key y):=by
 have e:=j6 h i;rw[km l]at e ⊢;unfold LS at e;rw[E2]at e;intro y g;rcases nk.mp g with rfl|g
 .exact KeyOrd.kle_refl _
 .exact e.1 y g
def MI.pushA(m:MI C a b ou i j)(B:LS C a.toList)(z:LS C b.toList){p:Keyed}(t:a[i]?=J p)(u:∀q,b[j]?=J q->O.kle (C.key p) (C.key q)):MI C a b (ou.push p) (i+1) j:=by
 have hd:=km t;have r:∀y∈a.toList.drop i++b.toList.drop j,O.kle (C.key p) (C.key y):=by
  intro y e;rcases n9.mp e with e|e
  .exact j4 B t y e
  .cases l:b[j]? with
   |none =>
    have:b.toList.drop j=[]:=K8 (by have:=Ou.mp l;simpa using this)
    rw[this]at e;cases e
   |some q=>exact KeyOrd.kle_trans (u q l) (j4 z l y e)
 refine⟨?_,?_,?_⟩
 .have:=m.perm
  rw[hd]at this;rw[Fd,Ei];exact this
 .rw[Fd];refine cG m.srt (by delta LS;simp) λx g y e=>?_
  have:y=p:=by simpa using e
  subst this;exact m.low x g y (C7 _ (by rw[hd];exact BD))
 .intro x g y e;rw[Fd]at g;have o:y∈a.toList.drop i++b.toList.drop j:=by
   simp_all
  rcases n9.mp g with g|g
  .exact m.low x g y o
  .have:x=p:=by simpa using g
   subst this;exact r y o
def MI.pushB(m:MI C a b ou i j)(B:LS C a.toList)(z:LS C b.toList){p:Keyed}(t:b[j]?=J p)(u:∀q,a[i]?=J q->O.kle (C.key p) (C.key q)):MI C a b (ou.push p) i (j+1):=by
 have hd:=km t;have r:∀y∈a.toList.drop i++b.toList.drop j,O.kle (C.key p) (C.key y):=by
  intro y e;rcases n9.mp e with e|e
  .cases l:a[i]? with
   |none =>
    have:a.toList.drop i=[]:=K8 (by have:=Ou.mp l;simpa using this)
    rw[this]at e;cases e
   |some q=>exact KeyOrd.kle_trans (u q l) (j4 B l y e)
  .exact j4 z t y e
 refine⟨?_,?_,?_⟩
 .have:=m.perm
  rw[hd]at this;rw[Fd,Ei];refine List.Perm.trans (List.Perm.append_left _ ?_) this;show(p::(a.toList.drop i++b.toList.drop (j+1))).Perm _;exact KC.symm
 .rw[Fd];refine cG m.srt (by delta LS;simp) λx g y e=>?_
  have:y=p:=by simpa using e
  subst this;exact m.low x g y (n4 _ (by rw[hd];exact BD))
 .intro x g y e;rw[Fd]at g;have o:y∈a.toList.drop i++b.toList.drop j:=by
   rcases n9.mp e with e|e
   .exact C7 _ e
   .exact n4 _ (by rw[hd];exact oh _ e)
  rcases n9.mp g with g|g
  .exact m.low x g y o
  .have:x=p:=by simpa using g
   subst this;exact r y o
def mS{xs:Array Keyed}{i k:Nat}{p:Keyed}(h:xs[i+k]?=J p):xs.extract i (i+(k+1))=(xs.extract i (i+k)).push p:=by
 apply Ff.mp;simp only[Nz,Fd,Oy];have e1:i+(k+1)-i=k+1:=by lia
 have e2:i+k-i=k:=by lia
 rw[e1,e2,KG,ND,BC,h];rfl
def MI.moveA(m:MI C a b ou i j)(y:LS C a.toList)(t:LS C b.toList):∀k,i+k<=a.size->(∀r p q,r<k->a[i+r]?=J p->b[j]?=J q->O.kle (C.key p) (C.key q))->MI C a b (ou++a.extract i (i+k)) (i+k) j:=by
 intro k
 induction k with
 |zero =>
  intro _ _;have e:ou++a.extract i (i+0)=ou:=by apply Ff.mp;simp
  rw[e];exact m
 |succ k z =>
  intro B o;have g:=getElem?_pos a (i+k) ⋯;have u:=(z ⋯ λr p q F=>o r p q ⋯).pushA y t g (λq l=>o k _ q ⋯ g l);have e:ou++(a.extract i (i+k)).push (a[i+k]'⋯)=(ou++a.extract i (i+k)).push (a[i+k]'⋯):=by simp
  rw[mS g,e];exact u
def MI.moveB(m:MI C a b ou i j)(y:LS C a.toList)(t:LS C b.toList):∀k,j+k<=b.size->(∀r p q,r<k->b[j+r]?=J p->a[i]?=J q->O.kle (C.key p) (C.key q))->MI C a b (ou++b.extract j (j+k)) i (j+k):=by
 intro k
 induction k with
 |zero =>
  intro _ _;have e:ou++b.extract j (j+0)=ou:=by apply Ff.mp;simp
  rw[e];exact m
 |succ k z =>
  intro B o;have g:=getElem?_pos b (j+k) ⋯;have u:=(z ⋯ λr p q F=>o r p q ⋯).pushB y t g (λq l=>o k _ q ⋯ g l);have e:ou++(b.extract j (j+k)).push (b[j+k]'⋯)=(ou++b.extract j (j+k)).push (b[j+k]'⋯):=by simp
  rw[mS g,e];exact u
def MR(C:yM prog w A E s kd O)(a b e:Array Keyed):Prop:=e.toList.Perm (a.toList++b.toList)/\LS C e.toList
def iH{xs:Array Keyed}{i:Nat}:(xs.extract i xs.size).toList=xs.toList.drop i:=by rw[Nz];exact HH (by simp)
def MI.all(m:MI C a b ou i j)(l:LS C a.toList)(g:LS C b.toList)(h:a.size<=i\/b.size<=j):MR C a b (ou++a.extract i a.size++b.extract j b.size):=by
 have e:(ou++a.extract i a.size++b.extract j b.size).toList=ou.toList++(a.toList.drop i++b.toList.drop j):=by rw[HL,HL,iH,iH,Ei]
 delta MR;rw[e];refine⟨m.perm,cG m.srt ?_ m.low⟩;rcases h with h|h
 .have:a.toList.drop i=[]:=K8 (by simpa using h)
  rw[this];exact j6 g j
 .have:b.toList.drop j=[]:=K8 (by simpa using h)
  rw[this,G9];exact j6 l i
def MI.one(m:MI C a b ou i j)(z:LS C a.toList)(t:LS C b.toList)(h:i+1=a.size)(u:∀x q,x∈b.toList->a[i]?=J q->O.kle (C.key x) (C.key q)):MR C a b (ou++b.extract j b.size++a.extract i a.size):=by
 have e:(ou++b.extract j b.size++a.extract i a.size).toList=ou.toList++(b.toList.drop j++a.toList.drop i):=by rw[HL,HL,iH,iH,Ei]
 delta MR;rw[e];have r:=getElem?_pos a i ⋯;have hd:=km r;have g:a.toList.drop (i+1)=[]:=K8 (by simp;lia);rw[g]at hd;refine⟨(List.Perm.append_left _ OB).trans m.perm,cG m.srt (cG (j6 t j) (j6 z i) ?_) ?_⟩
 .intro x o y l;rw[hd]at l
  have:y=a[i]'⋯:=by simpa using l
  subst this;exact u x _ (HJ o) r
 .intro x o y l;exact m.low x o y (n9.mpr (n9.mp l).symm)
end
structure Eqv(st st':SortSt):Prop where
 kind:kindOf st'=kindOf st
 arr:arrOf st'=arrOf st
 pend:pendingOf st'=pendingOf st
 failed:failedOf st'=failedOf st
def Eqv.rfl'{st:SortSt}:Eqv st st:=⟨rfl,rfl,rfl,rfl⟩
def Eqv.trans{st e a:SortSt}(x:Eqv st e)(y:Eqv e a):Eqv st a:=⟨y.kind.trans x.kind,y.arr.trans x.arr,y.pend.trans x.pend,y.failed.trans x.failed⟩
abbrev GS:=Option (Array Keyed)×Array Keyed×Nat×Nat×Nat×Nat×Nat
def Jq(a b e:Array Keyed)(i j g na nb:Nat):StateT SortSt Sem (ForInStep GS):=do
 let x <-elem' a i
 if(i+1+1==a.size)=I then pure (ForInStep.done (J (e.push x++b.extract j b.size++a.extract (i+1) a.size),e.push x,i+1,j,g,na,nb))
 else if(decide (na<7)&&decide (nb<7))=I then pure (ForInStep.done (Y,e.push x,i+1,j,g,na,nb))
 else pure (ForInStep.yield (Y,e.push x,i+1,j,g,na,nb))
def Jr(a b e:Array Keyed)(i j g na nb:Nat):StateT SortSt Sem (ForInStep GS):=do
 let x <-elem' b j
 if(j+1==b.size)=I then pure (ForInStep.done (J (e.push x++a.extract i a.size++b.extract (j+1) b.size),e.push x,i,j+1,g,na,nb))
 else do
  let y <-elem' a i
  let q <-gallop' I y b (j+1) (b.size-(j+1)) 0
  match q with
  |some k =>
   if k>0 then
    if(j+1+k==b.size)=I then
     pure (ForInStep.done (J (e.push x++b.extract (j+1) (j+1+k)++a.extract i a.size++b.extract (j+1+k) b.size),e.push x++b.extract (j+1) (j+1+k),i,j+1+k,g,na,k))
    else Jq a b (e.push x++b.extract (j+1) (j+1+k)) i (j+1+k) g na k
   else Jq a b (e.push x) i (j+1) g na k
  |_=>pure (ForInStep.done (J (e.push x++a.extract i a.size++b.extract (j+1) b.size),e.push x,i,j+1,g,na,nb))
def F9(a b e:Array Keyed)(i j g na nb:Nat):StateT SortSt Sem (ForInStep GS):=do
 F8 g
 let x <-elem' b j
 let q <-gallop' T x a i (a.size-i) 0
 match q with
 |some k =>
  if k>0 then
   if(i+k+1==a.size)=I then
    pure (ForInStep.done (J (e++a.extract i (i+k)++b.extract j b.size++a.extract (i+k) a.size),e++a.extract i (i+k),i+k,j,g,k,nb))
   else if(i+k==a.size)=I then
    pure (ForInStep.done (J (e++a.extract i (i+k)++a.extract (i+k) a.size++b.extract j b.size),e++a.extract i (i+k),i+k,j,g,k,nb))
   else Jr a b (e++a.extract i (i+k)) (i+k) j g k nb
  else Jr a b e i j g k nb
 |_=>pure (ForInStep.done (J (e++a.extract i a.size++b.extract j b.size),e,i,j,g,na,nb))
abbrev KW:=Option (Array Keyed)×Array Keyed×Nat×Nat×Nat×Nat
abbrev LCt:=Option (Array Keyed)×Array Keyed×Nat×Nat×Nat
def PM(a b:Array Keyed)(g:Nat)(c:KW):StateT SortSt Sem (ForInStep KW):=do
 let x <-elem' b c.2.2.2.1
 let y <-elem' a c.2.2.1
 let q <-lt' x y
 match q with
 |some q =>
  if q=I then do
   let z <-elem' b c.2.2.2.1
   if(c.2.2.2.1+1==b.size)=I then pure (ForInStep.done (J (c.2.1.push z++a.extract c.2.2.1 a.size++b.extract (c.2.2.2.1+1) b.size),c.2.1.push z,c.2.2.1,c.2.2.2.1+1,0,c.2.2.2.2.2+1))
   else if c.2.2.2.2.2+1>=g then pure (ForInStep.done (Y,c.2.1.push z,c.2.2.1,c.2.2.2.1+1,0,c.2.2.2.2.2+1))
   else pure (ForInStep.yield (Y,c.2.1.push z,c.2.2.1,c.2.2.2.1+1,0,c.2.2.2.2.2+1))
  else do
   let z <-elem' a c.2.2.1
   if(c.2.2.1+1+1==a.size)=I then pure (ForInStep.done (J (c.2.1.push z++b.extract c.2.2.2.1 b.size++a.extract (c.2.2.1+1) a.size),c.2.1.push z,c.2.2.1+1,c.2.2.2.1,c.2.2.2.2.1+1,0))
   else if c.2.2.2.2.1+1>=g then pure (ForInStep.done (Y,c.2.1.push z,c.2.2.1+1,c.2.2.2.1,c.2.2.2.2.1+1,0))
   else pure (ForInStep.yield (Y,c.2.1.push z,c.2.2.1+1,c.2.2.2.1,c.2.2.2.2.1+1,0))
 |_=>pure (ForInStep.done (J (c.2.1++a.extract c.2.2.1 a.size++b.extract c.2.2.2.1 b.size),c.2.1,c.2.2.1,c.2.2.2.1,c.2.2.2.2.1,c.2.2.2.2.2))
def PN(a b:Array Keyed)(c:GS):StateT SortSt Sem (ForInStep GS) :=
 if c.2.2.2.2.1>1 then F9 a b c.2.1 c.2.2.1 c.2.2.2.1 (c.2.2.2.2.1-1) c.2.2.2.2.2.1 c.2.2.2.2.2.2
 else F9 a b c.2.1 c.2.2.1 c.2.2.2.1 c.2.2.2.2.1 c.2.2.2.2.2.1 c.2.2.2.2.2.2
def QQ(c:GS):StateT SortSt Sem (ForInStep LCt) :=
 match c.1 with
 |some r=>pure (ForInStep.done (J r,c.2.1,c.2.2.1,c.2.2.2.1,c.2.2.2.2.1))
 |none=>do
  F8 (c.2.2.2.2.1+1)
  pure (ForInStep.yield (Y,c.2.1,c.2.2.1,c.2.2.2.1,c.2.2.2.2.1+1))
def QR(a b:Array Keyed)(g:Nat)(c:KW):StateT SortSt Sem (ForInStep LCt) :=
 match c.1 with
 |some r=>pure (ForInStep.done (J r,c.2.1,c.2.2.1,c.2.2.2.1,g))
 |none=>do
  liftM (rule "list.sort.gallop")
  let e <-forIn [:a.size+b.size] ((Y,c.2.1,c.2.2.1,c.2.2.2.1,g+1,c.2.2.2.2.1,c.2.2.2.2.2):GS) λ_ e=>PN a b e
  QQ e
def QS(a b:Array Keyed)(c:LCt):StateT SortSt Sem (ForInStep LCt):=do
 let d <-forIn [:a.size+b.size] ((Y,c.2.1,c.2.2.1,c.2.2.2.1,0,0):KW) λ_ d=>PM a b c.2.2.2.2 d
 QR a b c.2.2.2.2 d
def QT(a b:Array Keyed)(x:Keyed):StateT SortSt Sem (Array Keyed):=do
 let g <-get
 let r <-forIn [:a.size+b.size] ((Y,#[x],0,1,gallopOf g):LCt) λ_ c=>QS a b c
 match r.1 with
 |some r=>pure r
 |none=>liftM (unsupported "internal:list.sort.merge-bound":Sem (Array Keyed))
def PP(a b:Array Keyed):oO a b=(do
 liftM (rule "list.sort.merge-lo")
 let x <-elem' b 0
 if(1==b.size)=I then pure (#[x]++a.extract 0 a.size++b.extract 1 b.size)
 else if(0+1==a.size)=I then pure (#[x]++b.extract 1 b.size++a.extract 0 a.size)
 else QT a b x):=by
 refine congrArg (Bind.bind _) (funext λ_=>congrArg (Bind.bind _) (funext λx=>congrArg (λz=>ite _ _ (ite _ _ z)) ?_));have e:∀{α β:Type}{x y:StateT SortSt Sem α}{f h:α->StateT SortSt Sem β},x=y->(∀a,f a=h a)->(x >>= f)=(y >>= h):=λe f=>by rw[e,funext f]
 refine congrArg (Bind.bind _) (funext λg=>e (congrArg (forIn _ _) (funext λ_=>funext λc=>?_)) λ⟨r,_⟩=>by cases r<;>rfl);refine e rfl λd=>?_;obtain⟨i,j⟩:=d
 cases i with
 |some r=>rfl
 |none=>exact congrArg (Bind.bind _) (funext λ_=>e rfl λ⟨r,_⟩=>by cases r<;>rfl)
section
variable{prog:Program}{w:World}{A:Around}{E:SA}{s:Shared}{kd:SortKind}{O:KeyOrd}{C:yM prog w A E s kd O}{st:SortSt}{a b:Array Keyed}
structure Dg(C:yM prog w A E s kd O)(a b:Array Keyed):Prop where
 ga:da C a
 gb:da C b
 sa:LS C a.toList
 sb:LS C b.toList
 na:1<=a.size
 nb:1<=b.size
 fst:∀p q,b[0]?=J p->a[0]?=J q->O.kle (C.key p) (C.key q)
 lst:∀x q,x∈b.toList->a[a.size-1]?=J q->O.kle (C.key x) (C.key q)
def LI(C:yM prog w A E s kd O)(a b:Array Keyed)(N:Nat)(c:GS):Prop:=c.1=Y/\MI C a b c.2.1 c.2.2.1 c.2.2.2.1/\c.2.2.1+1<a.size/\c.2.2.2.1<b.size/\N<=c.2.1.size
def lW(C:yM prog w A E s kd O)(a b:Array Keyed)(N:Nat)(st:SortSt)(r:ForInStep GS)(e:SortSt):Prop:=Eqv st e/\match r with
 |.done c=>(∃x,c.1=J x/\MR C a b x)\/LI C a b N c
 |.yield c=>LI C a b N c
def ya(e:Dg C a b)(m:MI C a b ou i j)(H:i+1<a.size)(G:j<b.size)(hN:N<=ou.size)(r:∀p q,a[i]?=J p->b[j]?=J q->O.kle (C.key p) (C.key q)):
  wpS (model prog w) A E s (Jq a b ou i j g na nb) (lW C a b N st) st:=by
 refine wpS_bind (aX ⋯ λx t=>?_);have z:=m.pushA e.sa e.sb t (λq o=>r x q t o);have B:(ou.push x).size=ou.size+1:=Fg ..;by_cases l:i+1+1=a.size
 .rw[c_ (by simpa using l)];exact wpS_pure ⟨Eqv.rfl',.inl ⟨_,rfl,z.one e.sa e.sb l λy q F o=>e.lst y q F (by rw[<-l];exact o)⟩⟩
 .rw[f_ (by simpa using l)];have u:LI C a b N (Y,ou.push x,i+1,j,g,na,nb):=⟨rfl,z,⋯,G,⋯⟩;split
  .exact wpS_pure ⟨Eqv.rfl',.inr u⟩
  .exact wpS_pure ⟨Eqv.rfl',u⟩
def xf(l:Dg C a b)(hk:kindOf st=kd)(m:MI C a b ou i j)(Q:i+1<a.size)(Z:j<b.size)(hN:N<=ou.size)(G:∀p q,b[j]?=J p->a[i]?=J q->O.kle (C.key p) (C.key q)):
  wpS (model prog w) A E s (Jr a b ou i j g na nb) (lW C a b N st) st:=by
 refine wpS_bind (aX Z λx U=>?_);have L:=m.pushB l.sa l.sb U (λq o=>G x q U o);have X:(ou.push x).size=ou.size+1:=Fg ..;by_cases R:j+1=b.size
 .rw[c_ (by simpa using R)];exact wpS_pure ⟨Eqv.rfl',.inl ⟨_,rfl,L.all l.sa l.sb (.inr ⋯)⟩⟩
 .rw[f_ (by simpa using R)];refine wpS_bind (aX ⋯ λy F=>?_);refine wpS_bind (eR (C:=C) hk l.gb (bH l.ga F) ⋯ ⋯ ?_ λk al M P=>?_)
  .intro p q B H o;exact nc l.sb p q (vl _) H ⋯
  .have z:∀r p q,r<k->b[j+1+r]?=J p->a[i]?=J q->O.kle (C.key p) (C.key q):=λr p q hr B o=>by
    have:=M r hr
    unfold h_ at this;rw[aU B]at this;rw[F]at o;cases o;exact KeyOrd.kle_of_klt this
   have t:∀p q,a[i]?=J p->b[j+1+k]?=J q->O.kle (C.key p) (C.key q):=λp q B o=>by
    have ab:=(Ky.mp o).1
    have:=P k (i3 _) ⋯
    unfold h_ at this;rw[aU o]at this;rw[F]at B;cases B;exact this
   dsimp only;by_cases u:k>0
   .rw[c_ u];have W:=L.moveB l.sa l.sb k ⋯ z;by_cases S:j+1+k=b.size
    .rw[c_ (by simpa using S)];exact wpS_pure ⟨Eqv.rfl',.inl ⟨_,rfl,W.all l.sa l.sb (.inr ⋯)⟩⟩
    .rw[f_ (by simpa using S)];exact ya l W Q ⋯ (by rw[Lf];lia) t
   .rw[f_ u];have e:k=0:=by lia
    subst e;exact ya l L Q ⋯ ⋯ t
def xk(l:Dg C a b)(hk:kindOf st=kd)(m:MI C a b ou i j)(X:i+1<a.size)(M:j<b.size)(hN:N<=ou.size):
  wpS (model prog w) A E s (F9 a b ou i j g na nb) (lW C a b N st) st:=by
 delta F9;refine wpS_bind (wpS_modify ?_);have ev:Eqv st (SortSt.mk' (kindOf st) (arrOf st) (pendingOf st) g (failedOf st)):=⟨rfl,rfl,rfl,rfl⟩;refine wpS_mono (Q:=lW C a b N (SortSt.mk' (kindOf st) (arrOf st) (pendingOf st) g (failedOf st))) ?_ λr Z h=>⟨ev.trans h.1,h.2⟩;have u:kindOf (SortSt.mk' (kindOf st) (arrOf st) (pendingOf st) g (failedOf st))=kd:=hk;refine wpS_bind (aX M λx R=>?_);refine wpS_bind (eR (C:=C) u l.ga (bH l.gb R) ⋯ ⋯ ?_ λk al L P=>?_)
 .intro p q F H o;exact nc l.sa p q (vl _) H ⋯
 .have B:∀r p q,r<k->a[i+r]?=J p->b[j]?=J q->O.kle (C.key p) (C.key q):=λr p q hr F o=>by
   have:=L r hr
   unfold h_ at this;rw[aU F]at this;rw[R]at o;cases o;simp only[pu,if_false,G4]at this;exact this
  have t:∀p q,b[j]?=J p->a[i+k]?=J q->O.kle (C.key p) (C.key q):=λp q F o=>by
   have ab:=(Ky.mp o).1
   have:=P k (i3 _) ⋯
   unfold h_ at this;rw[aU o]at this;rw[R]at F;cases F;simp only[pu,if_false,OC]at this;exact KeyOrd.kle_of_klt this
  dsimp only;by_cases z:k>0
  .rw[c_ z];have S:=m.moveA l.sa l.sb k ⋯ B;by_cases G:i+k+1=a.size
   .rw[c_ (by simpa using G)];exact wpS_pure ⟨Eqv.rfl',.inl ⟨_,rfl,S.one l.sa l.sb G λy q W o=>l.lst y q W (by rw[<-G];exact o)⟩⟩
   .rw[f_ (by simpa using G)];by_cases U:i+k=a.size
    .rw[c_ (by simpa using U)];exact wpS_pure ⟨Eqv.rfl',.inl ⟨_,rfl,S.all l.sa l.sb (.inl ⋯)⟩⟩
    .rw[f_ (by simpa using U)];exact xf l u S ⋯ M (by rw[Lf];lia) t
  .rw[f_ z];have e:k=0:=by lia
   subst e;exact xf l u m X M hN t
def My(C:yM prog w A E s kd O)(a b:Array Keyed)(N:Nat)(c:KW):Prop:=c.1=Y/\MI C a b c.2.1 c.2.2.1 c.2.2.2.1/\c.2.2.1+1<a.size/\c.2.2.2.1<b.size/\N<=c.2.1.size
def PQ(C:yM prog w A E s kd O)(a b:Array Keyed)(N:Nat)(c:LCt):Prop:=c.1=Y/\MI C a b c.2.1 c.2.2.1 c.2.2.2.1/\c.2.2.1+1<a.size/\c.2.2.2.1<b.size/\N<=c.2.1.size
def PX(C:yM prog w A E s kd O)(a b:Array Keyed)(N:Nat)(st:SortSt)(r:ForInStep KW)(e:SortSt):Prop:=match r with
 |.done c=>e=st/\((∃x,c.1=J x/\MR C a b x)\/My C a b N c)
 |.yield c=>e=st/\My C a b N c
def Js(C:yM prog w A E s kd O)(a b:Array Keyed)(N:Nat)(st:SortSt)(r:ForInStep LCt)(e:SortSt):Prop:=match r with
 |.done c=>Eqv st e/\∃x,c.1=J x/\MR C a b x
 |.yield c=>Eqv st e/\PQ C a b N c
def Jt(e:Dg C a b)(F:kindOf st=kd)(G:MI C a b ou' i' j')(z:i'+1<a.size)(o:j'<b.size)(hN:N<=ou'.size):
  wpS (model prog w) A E s (PM a b g (Y,ou',i',j',na,nb)) (PX C a b (N+1) st) st:=by
 delta PM;dsimp only;refine wpS_bind (aX o λp B=>wpS_bind (aX ⋯ λq u=>?_));refine wpS_bind (C.ask p q st _ (bH e.gb B) (bH e.ga u) F ?_)
 cases H:O.blt (C.key p) (C.key q) with
 |true =>
  dsimp only;refine wpS_bind (aX o λP i=>?_);rw[B]at i;cases i;have t:=G.pushB e.sa e.sb B (λM j=>by rw[u]at j;cases j;exact KeyOrd.kle_of_klt H);have l:(ou'.push p).size=ou'.size+1:=Fg ..;by_cases r:j'+1=b.size
  .rw[c_ (by simpa using r)];exact wpS_pure ⟨rfl,.inl ⟨_,rfl,t.all e.sa e.sb (.inr ⋯)⟩⟩
  .rw[f_ (by simpa using r)];split
   .exact wpS_pure ⟨rfl,.inr ⟨rfl,t,z,⋯,by rw[l];lia⟩⟩
   .exact wpS_pure ⟨rfl,rfl,t,z,⋯,by rw[l];lia⟩
 |false =>
  dsimp only;refine wpS_bind (aX ⋯ λM j=>?_);rw[u]at j;cases j;have t:=G.pushA e.sa e.sb u (λP i=>by rw[B]at i;cases i;exact H);have l:(ou'.push q).size=ou'.size+1:=Fg ..;by_cases r:i'+1+1=a.size
  .rw[c_ (by simpa using r)];exact wpS_pure ⟨rfl,.inl ⟨_,rfl,t.one e.sa e.sb r λy q L u=>e.lst y q L (by rw[<-r];exact u)⟩⟩
  .rw[f_ (by simpa using r)];split
   .exact wpS_pure ⟨rfl,.inr ⟨rfl,t,⋯,o,by rw[l];lia⟩⟩
   .exact wpS_pure ⟨rfl,rfl,t,⋯,o,by rw[l];lia⟩
def Ju(i:Eqv ES st)(e:(∃x,c.1=J x/\MR C a b x)\/LI C a b N c):wpS (model prog w) A E s (QQ c) (Js C a b N ES) st:=by
 obtain⟨B,t,y,u,z,j,o⟩:=c;rcases e with⟨r,g,l⟩|⟨e,g⟩
 .cases g;exact wpS_pure ⟨i,r,rfl,l⟩
 .cases e;exact wpS_bind (wpS_modify (wpS_pure ⟨i.trans ⟨rfl,rfl,rfl,rfl⟩,rfl,g⟩))
def Jv(i:Dg C a b)(l:kindOf st=kd)(h:LI C a b N c):wpS (model prog w) A E s (PN a b c) (lW C a b N st) st:=by
 obtain⟨_,o,e,g,j⟩:=h;delta PN;split
 .exact xk i l o e g j
 .exact xk i l o e g j
def Jw(t:Dg C a b)(L:kindOf st=kd)(u:Eqv ES st)(l:(∃x,c.1=J x/\MR C a b x)\/My C a b N c):wpS (model prog w) A E s (QR a b g c) (Js C a b N ES) st:=by
 obtain⟨S,H,R,P,na,nb⟩:=c;rcases l with⟨r,j,z⟩|⟨l,j⟩
 .cases j;exact wpS_pure ⟨u,r,rfl,z⟩
 .cases l;refine wpS_bind (wpS_lift (wpAny_rule ⟨rfl,?_⟩));refine wpS_bind (wpS_mono (wpS_forRange (I:=λy c i=>Eqv st i/\LI C a b N c) (Q:=λc i=>Eqv st i/\((∃x,c.1=J x/\MR C a b x)\/LI C a b N c)) ?_ ?_ ⟨Eqv.rfl',rfl,j⟩) ?_)
  .rintro y c i _ M ⟨e,B⟩;refine wpS_mono (Jv t (e.kind.trans L) B) λr G j=>?_
   cases r with
   |done F=>exact⟨e.trans j.1,j.2⟩
   |yield F=>exact⟨e.trans j.1,j.2⟩
  .rintro c i ⟨e,o⟩;exact⟨e,.inr o⟩
  .rintro c i ⟨e,l⟩;exact Ju (u.trans e) l
def Jx(i:Dg C a b)(u:kindOf st=kd)(h:PQ C a b N c):wpS (model prog w) A E s (QS a b c) (Js C a b (N+1) st) st:=by
 obtain⟨j,G⟩:=h
 refine wpS_bind (wpS_mono (wpS_forRange (I:=λy c e=>e=st/\My C a b (N+y) c)
  (Q:=λc e=>e=st/\((∃x,c.1=J x/\MR C a b x)\/My C a b (N+1) c)) ?_ ?_ ⟨rfl,rfl,G⟩) ?_)
 .rintro y c e _ L ⟨rfl,H⟩;obtain⟨j,B,o,l,g⟩:=H;refine wpS_mono (Jt i u B o l g) λr F t=>?_
  cases r with
  |done z=>exact⟨t.1,t.2.imp_right λh=>⟨h.1,h.2.1,h.2.2.1,h.2.2.2.1,tx ⋯ h.2.2.2.2⟩⟩
  |yield z=>exact t
 .rintro c e ⟨rfl,h⟩;exact⟨rfl,.inr ⟨h.1,h.2.1,h.2.2.1,h.2.2.2.1,tx ⋯ h.2.2.2.2⟩⟩
 .rintro c e ⟨rfl,j⟩;exact Jw i u Eqv.rfl' j
def Jy(l:Dg C a b)(F:kindOf st=kd)(o:MI C a b #[x0] 0 1)(B:0+1<a.size)(z:1<b.size)(h:∀x e,Eqv st e->MR C a b x->Q x e):wpS (model prog w) A E s (QT a b x0) Q st:=by
 refine wpS_bind (wpS_get ?_)
 refine wpS_bind (wpS_mono (wpS_forRange (I:=λx c e=>Eqv st e/\PQ C a b (x+1) c)
  (Q:=λc e=>Eqv st e/\∃x,c.1=J x/\MR C a b x) ?_ ?_ ⟨Eqv.rfl',rfl,o,B,z,i3 _⟩) ?_)
 .rintro x c e _ M ⟨i,g⟩;refine wpS_mono (Jx l (i.kind.trans F) g) λr y j=>?_
  cases r with
  |done u=>exact⟨i.trans j.1,j.2⟩
  |yield u=>exact⟨i.trans j.1,j.2⟩
 .rintro c e ⟨i,g⟩;exfalso;have o:=g.2.2.1;have H:=g.2.2.2.1
  have:=g.2.1.size ⋯ ⋯
  have:=g.2.2.2.2
  lia
 .rintro c e ⟨i,r,j,t⟩;obtain⟨L,G⟩:=c;cases j;exact wpS_pure (h r e i t)
def Jz(e:Dg C a b)(G:kindOf st=kd)(h:∀x g,Eqv st g->MR C a b x->Q x g):wpS (model prog w) A E s (oO a b) Q st:=by
 rw[PP];refine wpS_bind (wpS_lift (wpAny_rule ⟨rfl,?_⟩));have u:=e.na;have H:=e.nb;refine wpS_bind (aX ⋯ λt i=>?_);have z:MI C a b #[] 0 0:=⟨by simp,by delta LS;simp,λx F=>by simp at F⟩;have o:MI C a b #[t] 0 1:=by
  have:=z.pushB e.sa e.sb i (λq l=>e.fst t q i l)
  simpa using this
 by_cases r:1=b.size
 .rw[c_ (by simpa using r)]
  have:=o.all e.sa e.sb (.inr ⋯)
  exact wpS_pure (h _ st Eqv.rfl' (by simpa using this))
 .rw[f_ (by simpa using r)];by_cases j:0+1=a.size
  .rw[c_ (by simpa using j)]
   have:=o.one e.sa e.sb j λy q B l=>e.lst y q B (by rw[<-j];exact l)
   exact wpS_pure (h _ st Eqv.rfl' (by simpa using this))
  .rw[f_ (by simpa using j)];exact Jy e G o ⋯ ⋯ h
end
def o5:Array Keyed->Array Keyed->StateT SortSt Sem (Array Keyed):=sortPriv% PySem.Builtin.mergeHi
section
variable{prog:Program}{w:World}{A:Around}{E:SA}{s:Shared}{kd:SortKind}{O:KeyOrd}{C:yM prog w A E s kd O}{a b ou:Array Keyed}{m n:Nat}{st:SortSt}
structure HI(C:yM prog w A E s kd O)(a b ou:Array Keyed)(m n:Nat):Prop where
 perm:(a.toList.take m++b.toList.take n++ou.toList.reverse).Perm (a.toList++b.toList)
 srt:LS C ou.toList.reverse
 hgh:LB C (a.toList.take m++b.toList.take n) ou.toList.reverse
def HI.size(h:HI C a b ou m n)(g:m<=a.size)(e:n<=b.size):ou.size+m+n=a.size+b.size:=by
 have:=h.perm.length_eq
 simp at this;lia
def og{xs:Array Keyed}{i:Nat}{p:Keyed}(h:xs[i]?=J p):xs.toList.take (i+1)=xs.toList.take i++[p]:=by rw[KG,BC,h];rfl
def kq{xs:Array Keyed}(h:LS C xs.toList)(i:Nat):LS C (xs.toList.take i):=h.sublist (List.take_sublist i _)
def nL{xs:Array Keyed}(h:LS C xs.toList){i:Nat}{p:Keyed}(j:xs[i]?=J p):∀y∈xs.toList.take (i+1),O.kle (C.key y) (C.key p):=by
 have g:=kq h (i+1);rw[og j]at g ⊢;unfold LS at g;rw[Ny]at g;intro y e;rcases n9.mp e with e|e
 .exact g.2.2 y e p (by simp)
 .have:y=p:=by simpa using e
  subst this;exact KeyOrd.kle_refl _
def iO(p:Keyed):(ou.push p).toList.reverse=p::ou.toList.reverse:=by simp
def HI.pushA(h:HI C a b ou (m+1) n)(u:LS C a.toList)(r:LS C b.toList){p:Keyed}(l:a[m]?=J p)(z:1<=n)(t:n<=b.size)(o:∀q,b[n-1]?=J q->O.kle (C.key q) (C.key p)):HI C a b (ou.push p) m n:=by
 have hd:=og l;obtain⟨q,i⟩:∃q,b[n-1]?=J q:=⟨_,getElem?_pos b (n-1) ⋯⟩;have j:∀y∈a.toList.take m++b.toList.take n,O.kle (C.key y) (C.key p):=by
  intro y e;rcases n9.mp e with e|e
  .exact nL u l y (by rw[hd];exact C7 _ e)
  .refine KeyOrd.kle_trans (nL r i y ?_) (o q i)
   have:n-1+1=n:=by lia
   rw[this];exact e
 refine⟨?_,?_,?_⟩
 .have:=h.perm
  rw[hd]at this;rw[iO];refine List.Perm.trans ?_ this;have e1:(a.toList.take m++b.toList.take n++p::ou.toList.reverse).Perm (p::(a.toList.take m++b.toList.take n++ou.toList.reverse)):=KC;have e2:(a.toList.take m++[p]++b.toList.take n++ou.toList.reverse).Perm (p::(a.toList.take m++b.toList.take n++ou.toList.reverse)):=by simp_all
  exact e1.trans e2.symm
 .rw[iO];delta LS;rw[E2];refine⟨λy e=>h.hgh p (C7 _ (by rw[hd];simp)) y e,h.srt⟩
 .rw[iO];intro x g y e;rcases nk.mp e with rfl|e
  .exact j x g
  .refine h.hgh x ?_ y e;rcases n9.mp g with g|g
   .exact C7 _ (by rw[hd];exact C7 _ g)
   .exact n4 _ g
def HI.pushB(h:HI C a b ou m (n+1))(u:LS C a.toList)(r:LS C b.toList){p:Keyed}(l:b[n]?=J p)(z:1<=m)(t:m<=a.size)(o:∀q,a[m-1]?=J q->O.kle (C.key q) (C.key p)):HI C a b (ou.push p) m n:=by
 have hd:=og l;obtain⟨q,i⟩:∃q,a[m-1]?=J q:=⟨_,getElem?_pos a (m-1) ⋯⟩;have j:∀y∈a.toList.take m++b.toList.take n,O.kle (C.key y) (C.key p):=by
  intro y e;rcases n9.mp e with e|e
  .refine KeyOrd.kle_trans (nL u i y ?_) (o q i)
   have:m-1+1=m:=by lia
   rw[this];exact e
  .exact nL r l y (by rw[hd];exact C7 _ e)
 refine⟨?_,?_,?_⟩
 .have:=h.perm
  simp_all
 .rw[iO];delta LS;rw[E2];refine⟨λy e=>h.hgh p (n4 _ (by rw[hd];simp)) y e,h.srt⟩
 .rw[iO];intro x g y e;rcases nk.mp e with rfl|e
  .exact j x g
  .refine h.hgh x ?_ y e;rcases n9.mp g with g|g
   .exact C7 _ g
   .exact n4 _ (by rw[hd];exact C7 _ g)
def vg{xs:Array Keyed}{m k:Nat}{p:Keyed}(g:k<m)(e:m<=xs.size)(h:xs[m-(k+1)]?=J p):ou++(xs.extract (m-(k+1)) m).reverse=(ou++(xs.extract (m-k) m).reverse).push p:=by
 apply Ff.mp;simp only[HL,Array.toList_reverse,Fd,Nz,Oy];have e1:m-(m-(k+1))=k+1:=by lia
 have e2:m-(m-k)=k:=by lia
 have e3:m-(k+1)+1=m-k:=by lia
 rw[e1,e2,km h,e3];simp
def HI.moveA(h:HI C a b ou m n)(F:LS C a.toList)(z:LS C b.toList)(B:m<=a.size)(G:1<=n)(j:n<=b.size):∀k,k<=m->(∀r p q,m-k<=r->r<m->a[r]?=J p->b[n-1]?=J q->O.kle (C.key q) (C.key p)) ->
  HI C a b (ou++(a.extract (m-k) m).reverse) (m-k) n:=by
 intro k
 induction k with
 |zero =>
  intro _ _;have e:ou++(a.extract (m-0) m).reverse=ou:=by apply Ff.mp;simp
  rw[e];exact h
 |succ k y =>
  intro L o;have l:a[m-(k+1)]?=J (a[m-(k+1)]'⋯):=getElem?_pos a _ ⋯;have t:=y ⋯ λr p q H g=>o r p q ⋯ g;have e:m-k=m-(k+1)+1:=by lia
  rw[vg ⋯ B l];rw[e]at t;have u:=t.pushA F z l G j (λq i=>o _ _ q (i3 _) ⋯ l i);rw[<-e]at u;exact u
def HI.moveB(h:HI C a b ou m n)(F:LS C a.toList)(z:LS C b.toList)(G:n<=b.size)(B:1<=m)(j:m<=a.size):∀k,k<=n->(∀r p q,n-k<=r->r<n->b[r]?=J p->a[m-1]?=J q->O.kle (C.key q) (C.key p)) ->
  HI C a b (ou++(b.extract (n-k) n).reverse) m (n-k):=by
 intro k
 induction k with
 |zero =>
  intro _ _;have e:ou++(b.extract (n-0) n).reverse=ou:=by apply Ff.mp;simp
  rw[e];exact h
 |succ k y =>
  intro L o;have l:b[n-(k+1)]?=J (b[n-(k+1)]'⋯):=getElem?_pos b _ ⋯;have t:=y ⋯ λr p q H g=>o r p q ⋯ g;have e:n-k=n-(k+1)+1:=by lia
  rw[vg ⋯ G l];rw[e]at t;have u:=t.pushB F z l B j (λq i=>o _ _ q (i3 _) ⋯ l i);rw[<-e]at u;exact u
def oW{xs:Array Keyed}{i:Nat}:(xs.extract 0 i).toList=xs.toList.take i:=by rw[Nz,Oy];simp
def HI.all(h:HI C a b ou m n)(j:LS C a.toList)(i:LS C b.toList)(g:m=0\/n=0):MR C a b (a.extract 0 m++b.extract 0 n++ou.reverse):=by
 have e:(a.extract 0 m++b.extract 0 n++ou.reverse).toList=a.toList.take m++b.toList.take n++ou.toList.reverse:=by simp_all
 delta MR;rw[e];refine⟨h.perm,cG ?_ h.srt h.hgh⟩;rcases g with rfl|rfl
 .simpa using kq i n
 .simpa using kq j m
def HI.one(h:HI C a b ou m n)(g:Dg C a b)(t:n=1):MR C a b (b.extract 0 n++a.extract 0 m++ou.reverse):=by
 subst t;have e:(b.extract 0 1++a.extract 0 m++ou.reverse).toList=b.toList.take 1++a.toList.take m++ou.toList.reverse:=by rw[HL,HL,oW,oW,Array.toList_reverse]
 delta MR;rw[e];have z:=g.nb;have u:=g.na;have o:=getElem?_pos b 0 ⋯;have r:=getElem?_pos a 0 ⋯;have hd:=og o;refine⟨(List.Perm.append_right _ OB).trans h.perm,cG (cG (kq g.sb 1) (kq g.sa m) ?_) h.srt ?_⟩
 .intro x j y i;have l:x=b[0]'⋯:=by
   have:=j
   rw[hd]at this;simpa using this
  subst l;refine KeyOrd.kle_trans (g.fst _ _ o r) (j4 g.sa r y ?_);exact NA i
 .intro x j y i;exact h.hgh x (n9.mpr (n9.mp j).symm) y i
end
abbrev HS:=Option (Array Keyed)×Nat×Nat×Array Keyed×Nat×Nat×Nat
def JA(a b e:Array Keyed)(m n g j i:Nat):StateT SortSt Sem (ForInStep HS):=do
 let x <-elem' a (m-1)
 if(m-1==0)=I then pure (ForInStep.done (J (a.extract 0 (m-1)++b.extract 0 n++(e.push x).reverse),m-1,n,e.push x,g,j,i))
 else if(decide (j<7)&&decide (i<7))=I then pure (ForInStep.done (Y,m-1,n,e.push x,g,j,i))
 else pure (ForInStep.yield (Y,m-1,n,e.push x,g,j,i))
def JB(a b e:Array Keyed)(m n g i j:Nat):StateT SortSt Sem (ForInStep HS):=do
 let x <-elem' b (n-1)
 if(n-1==1)=I then pure (ForInStep.done (J (b.extract 0 (n-1)++a.extract 0 m++(e.push x).reverse),m,n-1,e.push x,g,i,j))
 else do
  let y <-elem' a (m-1)
  let q <-gallop' I y b 0 (n-1) (n-1-1)
  match q with
  |some z =>
   if n-1-z>0 then
    if(z==1)=I then
     pure (ForInStep.done (J (b.extract 0 z++a.extract 0 m++(e.push x++(b.extract z (n-1)).reverse).reverse),m,z,e.push x++(b.extract z (n-1)).reverse,g,i,n-1-z))
    else if(z==0)=I then
     pure (ForInStep.done (J (a.extract 0 m++b.extract 0 z++(e.push x++(b.extract z (n-1)).reverse).reverse),m,z,e.push x++(b.extract z (n-1)).reverse,g,i,n-1-z))
    else JA a b (e.push x++(b.extract z (n-1)).reverse) m z g i (n-1-z)
   else JA a b (e.push x) m (n-1) g i (n-1-z)
  |_=>pure (ForInStep.done (J (a.extract 0 m++b.extract 0 (n-1)++(e.push x).reverse),m,n-1,e.push x,g,i,j))
def F_(a b e:Array Keyed)(m n g j i:Nat):StateT SortSt Sem (ForInStep HS):=do
 F8 g
 let x <-elem' b (n-1)
 let q <-gallop' T x a 0 m (m-1)
 match q with
 |some z =>
  if m-z>0 then
   if(z==0)=I then
    pure (ForInStep.done (J (a.extract 0 z++b.extract 0 n++(e++(a.extract z m).reverse).reverse),z,n,e++(a.extract z m).reverse,g,m-z,i))
   else JB a b (e++(a.extract z m).reverse) z n g (m-z) i
  else JB a b e m n g (m-z) i
 |_=>pure (ForInStep.done (J (a.extract 0 m++b.extract 0 n++e.reverse),m,n,e,g,j,i))
abbrev HB:=Option (Array Keyed)×Nat×Nat×Array Keyed×Nat×Nat
abbrev HC:=Option (Array Keyed)×Nat×Nat×Array Keyed×Nat
def PY(a b:Array Keyed)(g:Nat)(c:HB):StateT SortSt Sem (ForInStep HB):=do
 let x <-elem' b (c.2.2.1-1)
 let y <-elem' a (c.2.1-1)
 let q <-lt' x y
 match q with
 |some q =>
  if q=I then do
   let z <-elem' a (c.2.1-1)
   if(c.2.1-1==0)=I then pure (ForInStep.done (J (a.extract 0 (c.2.1-1)++b.extract 0 c.2.2.1++(c.2.2.2.1.push z).reverse),c.2.1-1,c.2.2.1,c.2.2.2.1.push z,c.2.2.2.2.1+1,0))
   else if c.2.2.2.2.1+1>=g then pure (ForInStep.done (Y,c.2.1-1,c.2.2.1,c.2.2.2.1.push z,c.2.2.2.2.1+1,0))
   else pure (ForInStep.yield (Y,c.2.1-1,c.2.2.1,c.2.2.2.1.push z,c.2.2.2.2.1+1,0))
  else do
   let z <-elem' b (c.2.2.1-1)
   if(c.2.2.1-1==1)=I then pure (ForInStep.done (J (b.extract 0 (c.2.2.1-1)++a.extract 0 c.2.1++(c.2.2.2.1.push z).reverse),c.2.1,c.2.2.1-1,c.2.2.2.1.push z,0,c.2.2.2.2.2+1))
   else if c.2.2.2.2.2+1>=g then pure (ForInStep.done (Y,c.2.1,c.2.2.1-1,c.2.2.2.1.push z,0,c.2.2.2.2.2+1))
   else pure (ForInStep.yield (Y,c.2.1,c.2.2.1-1,c.2.2.2.1.push z,0,c.2.2.2.2.2+1))
 |_=>pure (ForInStep.done (J (a.extract 0 c.2.1++b.extract 0 c.2.2.1++c.2.2.2.1.reverse),c.2.1,c.2.2.1,c.2.2.2.1,c.2.2.2.2.1,c.2.2.2.2.2))
def PZ(a b:Array Keyed)(c:HS):StateT SortSt Sem (ForInStep HS) :=
 if c.2.2.2.2.1>1 then F_ a b c.2.2.2.1 c.2.1 c.2.2.1 (c.2.2.2.2.1-1) c.2.2.2.2.2.1 c.2.2.2.2.2.2
 else F_ a b c.2.2.2.1 c.2.1 c.2.2.1 c.2.2.2.2.1 c.2.2.2.2.2.1 c.2.2.2.2.2.2
def QU(c:HS):StateT SortSt Sem (ForInStep HC) :=
 match c.1 with
 |some r=>pure (ForInStep.done (J r,c.2.1,c.2.2.1,c.2.2.2.1,c.2.2.2.2.1))
 |none=>do
  F8 (c.2.2.2.2.1+1)
  pure (ForInStep.yield (Y,c.2.1,c.2.2.1,c.2.2.2.1,c.2.2.2.2.1+1))
def QV(a b:Array Keyed)(g:Nat)(c:HB):StateT SortSt Sem (ForInStep HC) :=
 match c.1 with
 |some r=>pure (ForInStep.done (J r,c.2.1,c.2.2.1,c.2.2.2.1,g))
 |none=>do
  liftM (rule "list.sort.gallop")
  let e <-forIn [:a.size+b.size] ((Y,c.2.1,c.2.2.1,c.2.2.2.1,g+1,c.2.2.2.2.1,c.2.2.2.2.2):HS) λ_ e=>PZ a b e
  QU e
def QW(a b:Array Keyed)(c:HC):StateT SortSt Sem (ForInStep HC):=do
 let d <-forIn [:a.size+b.size] ((Y,c.2.1,c.2.2.1,c.2.2.2.1,0,0):HB) λ_ d=>PY a b c.2.2.2.2 d
 QV a b c.2.2.2.2 d
def QX(a b:Array Keyed)(x:Keyed):StateT SortSt Sem (Array Keyed):=do
 let g <-get
 let r <-forIn [:a.size+b.size] ((Y,a.size-1,b.size,#[x],gallopOf g):HC) λ_ c=>QW a b c
 match r.1 with
 |some r=>pure r
 |none=>liftM (unsupported "internal:list.sort.merge-bound":Sem (Array Keyed))
def P0(a b:Array Keyed):o5 a b=(do
 liftM (rule "list.sort.merge-hi")
 let x <-elem' a (a.size-1)
 if(a.size-1==0)=I then pure (a.extract 0 (a.size-1)++b.extract++#[x].reverse)
 else if(b.size==1)=I then pure (b.extract++a.extract 0 (a.size-1)++#[x].reverse)
 else QX a b x):=by
 refine congrArg (Bind.bind _) (funext λ_=>congrArg (Bind.bind _) (funext λx=>congrArg (λz=>ite _ _ (ite _ _ z)) ?_));have e:∀{α β:Type}{x y:StateT SortSt Sem α}{f h:α->StateT SortSt Sem β},x=y->(∀a,f a=h a)->(x >>= f)=(y >>= h):=λe f=>by rw[e,funext f]
 refine congrArg (Bind.bind _) (funext λg=>e (congrArg (forIn _ _) (funext λ_=>funext λc=>?_)) λ⟨r,_⟩=>by cases r<;>rfl);refine e rfl λd=>?_;obtain⟨i,j⟩:=d
 cases i with
 |some r=>rfl
 |none=>exact congrArg (Bind.bind _) (funext λ_=>e rfl λ⟨r,_⟩=>by cases r<;>rfl)
section
variable{prog:Program}{w:World}{A:Around}{E:SA}{s:Shared}{kd:SortKind}{O:KeyOrd}{C:yM prog w A E s kd O}{st:SortSt}{a b:Array Keyed}
def JC(C:yM prog w A E s kd O)(a b:Array Keyed)(N:Nat)(c:HS):Prop :=
 c.1=Y/\HI C a b c.2.2.2.1 c.2.1 c.2.2.1/\1<=c.2.1/\c.2.1<=a.size/\2<=c.2.2.1/\c.2.2.1<=b.size/\N<=c.2.2.2.1.size
def qN(C:yM prog w A E s kd O)(a b:Array Keyed)(N:Nat)(st:SortSt)(r:ForInStep HS)(e:SortSt):Prop:=Eqv st e/\match r with
 |.done c=>(∃x,c.1=J x/\MR C a b x)\/JC C a b N c
 |.yield c=>JC C a b N c
def xG(i:Dg C a b)(h:HI C a b ou m n)(H:1<=m)(F:m<=a.size)(G:2<=n)(j:n<=b.size)(hN:N<=ou.size)(l:∀p q,b[n-1]?=J p->a[m-1]?=J q->O.kle (C.key p) (C.key q)):wpS (model prog w) A E s (JA a b ou m n g ca cb) (qN C a b N st) st:=by
 refine wpS_bind (aX ⋯ λx y=>?_);have e:m=m-1+1:=by lia
 have u:HI C a b (ou.push x) (m-1) n:=by have r:=h;rw[e]at r;exact r.pushA i.sa i.sb y ⋯ j (λq B=>l q x B y)
 have z:(ou.push x).size=ou.size+1:=Fg ..;by_cases o:m-1=0
 .rw[c_ (by simpa using o)];exact wpS_pure ⟨Eqv.rfl',.inl ⟨_,rfl,u.all i.sa i.sb (.inl o)⟩⟩
 .rw[f_ (by simpa using o)];have t:JC C a b N (Y,m-1,n,ou.push x,g,ca,cb):=⟨rfl,u,⋯,⋯,G,j,⋯⟩;split
  .exact wpS_pure ⟨Eqv.rfl',.inr t⟩
  .exact wpS_pure ⟨Eqv.rfl',t⟩
def xg(i:Dg C a b)(hk:kindOf st=kd)(h:HI C a b ou m n)(H:1<=m)(l:m<=a.size)(hn:2<=n)(al:n<=b.size)(hN:N<=ou.size)(P:∀p q,a[m-1]?=J p->b[n-1]?=J q->O.kle (C.key p) (C.key q)):wpS (model prog w) A E s (JB a b ou m n g ca cb) (qN C a b N st) st:=by
 refine wpS_bind (aX ⋯ λx hx=>?_);have e:n=n-1+1:=by lia
 have W:HI C a b (ou.push x) m (n-1):=by have h':=h;rw[e]at h';exact h'.pushB i.sa i.sb hx H l (λq j=>P q x j hx)
 have ab:(ou.push x).size=ou.size+1:=Fg ..;by_cases X:n-1=1
 .rw[c_ (by simpa using X)];exact wpS_pure ⟨Eqv.rfl',.inl ⟨_,rfl,W.one i X⟩⟩
 .rw[f_ (by simpa using X)];refine wpS_bind (aX ⋯ λy M=>?_);refine wpS_bind (eR (C:=C) hk i.gb (bH i.ga M) ⋯ ⋯ ?_ λz hz R U=>?_)
  .intro p q t Q j;exact nc i.sb p q (vl _) Q ⋯
  .have o:∀r p q,r<z->b[r]?=J p->a[m-1]?=J q->O.kle (C.key p) (C.key q):=λr p q hr t j=>by
    have:=R r hr
    unfold h_ at this;rw[zu,aU t]at this;rw[M]at j;cases j;exact KeyOrd.kle_of_klt this
   have F:∀r p q,z<=r->r<n-1->b[r]?=J p->a[m-1]?=J q->O.kle (C.key q) (C.key p):=λr p q G u t j=>by
    have:=U r G u
    unfold h_ at this;rw[zu,aU t]at this;rw[M]at j;cases j;exact this
   dsimp only;by_cases B:n-1-z>0
   .rw[c_ B];have ez:n-1-(n-1-z)=z:=by lia
    have L:=W.moveB i.sa i.sb ⋯ H l (n-1-z) ⋯ (λr p q G u=>F r p q ⋯ u);rw[ez]at L;by_cases Z:z=1
    .rw[c_ (by simpa using Z)];exact wpS_pure ⟨Eqv.rfl',.inl ⟨_,rfl,L.one i Z⟩⟩
    .rw[f_ (by simpa using Z)];by_cases S:z=0
     .rw[c_ (by simpa using S)];exact wpS_pure ⟨Eqv.rfl',.inl ⟨_,rfl,L.all i.sa i.sb (.inr S)⟩⟩
     .rw[f_ (by simpa using S)];exact xG i L H l ⋯ ⋯ (by rw[Lf];lia) (λp q t j=>o (z-1) p q ⋯ t j)
   .rw[f_ B];exact xG i W H l ⋯ ⋯ ⋯ (λp q t j=>o (n-1-1) p q ⋯ t j)
def w5(e:Dg C a b)(hk:kindOf st=kd)(h:HI C a b ou m n)(Z:1<=m)(B:m<=a.size)(U:2<=n)(t:n<=b.size)(hN:N<=ou.size):
  wpS (model prog w) A E s (F_ a b ou m n g ca cb) (qN C a b N st) st:=by
 delta F_;refine wpS_bind (wpS_modify ?_);have ev:Eqv st (SortSt.mk' (kindOf st) (arrOf st) (pendingOf st) g (failedOf st)):=⟨rfl,rfl,rfl,rfl⟩;refine wpS_mono (Q:=qN C a b N (SortSt.mk' (kindOf st) (arrOf st) (pendingOf st) g (failedOf st))) ?_ λr W h=>⟨ev.trans h.1,h.2⟩;have u:kindOf (SortSt.mk' (kindOf st) (arrOf st) (pendingOf st) g (failedOf st))=kd:=hk;refine wpS_bind (aX ⋯ λx R=>?_);refine wpS_bind (eR (C:=C) u e.ga (bH e.gb R) ⋯ ⋯ ?_ λz hz L M=>?_)
 .intro p q l H i;exact nc e.sa p q (vl _) H ⋯
 .have j:∀r p q,r<z->a[r]?=J p->b[n-1]?=J q->O.kle (C.key p) (C.key q):=λr p q hr l i=>by
   have:=L r hr
   unfold h_ at this;rw[zu,aU l]at this;rw[R]at i;cases i;simp only[pu,if_false,G4]at this;exact this
  have F:∀r p q,z<=r->r<m->a[r]?=J p->b[n-1]?=J q->O.kle (C.key q) (C.key p):=λr p q G o l i=>by
   have:=M r G o
   unfold h_ at this;rw[zu,aU l]at this;rw[R]at i;cases i;simp only[pu,if_false,OC]at this;exact KeyOrd.kle_of_klt this
  dsimp only;by_cases y:m-z>0
  .rw[c_ y];have X:m-(m-z)=z:=by lia
   have P:=h.moveA e.sa e.sb B ⋯ t (m-z) ⋯ (λr p q G o=>F r p q ⋯ o);rw[X]at P;by_cases S:z=0
   .rw[c_ (by simpa using S)];exact wpS_pure ⟨Eqv.rfl',.inl ⟨_,rfl,P.all e.sa e.sb (.inl S)⟩⟩
   .rw[f_ (by simpa using S)];exact xg e u P ⋯ ⋯ U t (by rw[Lf];lia) (λp q l i=>j (z-1) p q ⋯ l i)
  .rw[f_ y];exact xg e u h Z B U t hN (λp q l i=>j (m-1) p q ⋯ l i)
def Mz(C:yM prog w A E s kd O)(a b:Array Keyed)(N:Nat)(c:HB):Prop :=
 c.1=Y/\HI C a b c.2.2.2.1 c.2.1 c.2.2.1/\1<=c.2.1/\c.2.1<=a.size/\2<=c.2.2.1/\c.2.2.1<=b.size/\N<=c.2.2.2.1.size
def P1(C:yM prog w A E s kd O)(a b:Array Keyed)(N:Nat)(c:HC):Prop :=
 c.1=Y/\HI C a b c.2.2.2.1 c.2.1 c.2.2.1/\1<=c.2.1/\c.2.1<=a.size/\2<=c.2.2.1/\c.2.2.1<=b.size/\N<=c.2.2.2.1.size
def MB(C:yM prog w A E s kd O)(a b:Array Keyed)(N:Nat)(st:SortSt)(r:ForInStep HB)(e:SortSt):Prop:=match r with
 |.done c=>e=st/\((∃x,c.1=J x/\MR C a b x)\/Mz C a b N c)
 |.yield c=>e=st/\Mz C a b N c
def yP(C:yM prog w A E s kd O)(a b:Array Keyed)(N:Nat)(st:SortSt)(r:ForInStep HC)(e:SortSt):Prop:=match r with
 |.done c=>Eqv st e/\∃x,c.1=J x/\MR C a b x
 |.yield c=>Eqv st e/\P1 C a b N c
def JD(e:Dg C a b)(L:kindOf st=kd)(F:HI C a b ou' m' n')(u:1<=m')(l:m'<=a.size)(B:2<=n')(o:n'<=b.size)(hN:N<=ou'.size):
  wpS (model prog w) A E s (PY a b g (Y,m',n',ou',ca,cb)) (MB C a b (N+1) st) st:=by
 delta PY;dsimp only;refine wpS_bind (aX ⋯ λp H=>wpS_bind (aX ⋯ λq G=>?_));refine wpS_bind (C.ask p q st _ (bH e.gb H) (bH e.ga G) L ?_)
 cases M:O.blt (C.key p) (C.key q) with
 |true =>
  dsimp only;refine wpS_bind (aX ⋯ λP j=>?_);rw[G]at j;cases j;have em:m'=m'-1+1:=by lia
  have y:HI C a b (ou'.push q) (m'-1) n':=by have z:=F;rw[em]at z;exact z.pushA e.sa e.sb G ⋯ o (λQ i=>by rw[H]at i;cases i;exact KeyOrd.kle_of_klt M)
  have r:(ou'.push q).size=ou'.size+1:=Fg ..;by_cases t:m'-1=0
  .rw[c_ (by simpa using t)];exact wpS_pure ⟨rfl,.inl ⟨_,rfl,y.all e.sa e.sb (.inl t)⟩⟩
  .rw[f_ (by simpa using t)];split
   .exact wpS_pure ⟨rfl,.inr ⟨rfl,y,⋯,⋯,B,o,by rw[r];lia⟩⟩
   .exact wpS_pure ⟨rfl,rfl,y,⋯,⋯,B,o,by rw[r];lia⟩
 |false =>
  dsimp only;rw[f_ (by simp)];refine wpS_bind (aX ⋯ λQ i=>?_);rw[H]at i;cases i;have R:n'=n'-1+1:=by lia
  have y:HI C a b (ou'.push p) m' (n'-1):=by have z:=F;rw[R]at z;exact z.pushB e.sa e.sb H u l (λP j=>by rw[G]at j;cases j;exact M)
  have r:(ou'.push p).size=ou'.size+1:=Fg ..;by_cases t:n'-1=1
  .rw[c_ (by simpa using t)];exact wpS_pure ⟨rfl,.inl ⟨_,rfl,y.one e t⟩⟩
  .rw[f_ (by simpa using t)];split
   .exact wpS_pure ⟨rfl,.inr ⟨rfl,y,u,l,⋯,⋯,by rw[r];lia⟩⟩
   .exact wpS_pure ⟨rfl,rfl,y,u,l,⋯,⋯,by rw[r];lia⟩
def JE(i:Eqv ES st)(e:(∃x,c.1=J x/\MR C a b x)\/JC C a b N c):wpS (model prog w) A E s (QU c) (yP C a b N ES) st:=by
 obtain⟨y,z,B,t,u,o,j⟩:=c;rcases e with⟨r,g,l⟩|⟨e,g⟩
 .cases g;exact wpS_pure ⟨i,r,rfl,l⟩
 .cases e;exact wpS_bind (wpS_modify (wpS_pure ⟨i.trans ⟨rfl,rfl,rfl,rfl⟩,rfl,g⟩))
def JF(j:Dg C a b)(t:kindOf st=kd)(h:JC C a b N c):wpS (model prog w) A E s (PZ a b c) (qN C a b N st) st:=by
 obtain⟨_,r,l,e,i,g,o⟩:=h;delta PZ;split
 .exact w5 j t r l e i g o
 .exact w5 j t r l e i g o
def JG(t:Dg C a b)(L:kindOf st=kd)(u:Eqv ES st)(l:(∃x,c.1=J x/\MR C a b x)\/Mz C a b N c):wpS (model prog w) A E s (QV a b g c) (yP C a b N ES) st:=by
 obtain⟨U,R,P,H,W,S⟩:=c;rcases l with⟨r,j,z⟩|⟨l,j⟩
 .cases j;exact wpS_pure ⟨u,r,rfl,z⟩
 .cases l;refine wpS_bind (wpS_lift (wpAny_rule ⟨rfl,?_⟩));refine wpS_bind (wpS_mono (wpS_forRange (I:=λy c i=>Eqv st i/\JC C a b N c) (Q:=λc i=>Eqv st i/\((∃x,c.1=J x/\MR C a b x)\/JC C a b N c)) ?_ ?_ ⟨Eqv.rfl',rfl,j⟩) ?_)
  .rintro y c i _ M ⟨e,B⟩;refine wpS_mono (JF t (e.kind.trans L) B) λr G j=>?_
   cases r with
   |done F=>exact⟨e.trans j.1,j.2⟩
   |yield F=>exact⟨e.trans j.1,j.2⟩
  .rintro c i ⟨e,o⟩;exact⟨e,.inr o⟩
  .rintro c i ⟨e,l⟩;exact JE (u.trans e) l
def JH(o:Dg C a b)(L:kindOf st=kd)(h:P1 C a b N c):wpS (model prog w) A E s (QW a b c) (yP C a b (N+1) st) st:=by
 obtain⟨u,P,S,z,W,j,t⟩:=h
 refine wpS_bind (wpS_mono (wpS_forRange (I:=λy c e=>e=st/\Mz C a b (N+y) c)
  (Q:=λc e=>e=st/\((∃x,c.1=J x/\MR C a b x)\/Mz C a b (N+1) c)) ?_ ?_ ⟨rfl,rfl,P,S,z,W,j,t⟩) ?_)
 .rintro y c e _ X ⟨rfl,U⟩;obtain⟨u,F,B,g,H,l,i⟩:=U;refine wpS_mono (JD o L F B g H l i) λr R G=>?_
  cases r with
  |done M=>exact⟨G.1,G.2.imp_right λh=>⟨h.1,h.2.1,h.2.2.1,h.2.2.2.1,h.2.2.2.2.1,h.2.2.2.2.2.1,tx ⋯ h.2.2.2.2.2.2⟩⟩
  |yield M=>exact G
 .rintro c e ⟨rfl,h⟩;exact⟨rfl,.inr ⟨h.1,h.2.1,h.2.2.1,h.2.2.2.1,h.2.2.2.2.1,h.2.2.2.2.2.1,tx ⋯ h.2.2.2.2.2.2⟩⟩
 .rintro c e ⟨rfl,u⟩;exact JG o L Eqv.rfl' u
def JI(l:Dg C a b)(F:kindOf st=kd)(z:HI C a b #[x0] (a.size-1) b.size)(y:1<=a.size-1)(B:2<=b.size)(h:∀x e,Eqv st e->MR C a b x->Q x e):wpS (model prog w) A E s (QX a b x0) Q st:=by
 refine wpS_bind (wpS_get ?_)
 refine wpS_bind (wpS_mono (wpS_forRange (I:=λx c e=>Eqv st e/\P1 C a b (x+1) c)
  (Q:=λc e=>Eqv st e/\∃x,c.1=J x/\MR C a b x) ?_ ?_ ⟨Eqv.rfl',rfl,z,y,Nat.sub_le _ _,B,i3 _,i3 _⟩) ?_)
 .rintro x c e _ L ⟨i,g⟩;refine wpS_mono (JH l (i.kind.trans F) g) λr u j=>?_
  cases r with
  |done t=>exact⟨i.trans j.1,j.2⟩
  |yield t=>exact⟨i.trans j.1,j.2⟩
 .rintro c e ⟨i,g⟩;exfalso
  have:=g.2.1.size g.2.2.2.1 g.2.2.2.2.2.1
  have:=g.2.2.2.2.2.2
  lia
 .rintro c e ⟨i,r,j,o⟩;obtain⟨H,G⟩:=c;cases j;exact wpS_pure (h r e i o)
def JJ(g:Dg C a b)(L:kindOf st=kd)(h:∀x j,Eqv st j->MR C a b x->Q x j):wpS (model prog w) A E s (o5 a b) Q st:=by
 rw[P0];refine wpS_bind (wpS_lift (wpAny_rule ⟨rfl,?_⟩));have F:=g.na;have l:=g.nb;refine wpS_bind (aX ⋯ λu i=>?_)
 have H:HI C a b #[] a.size b.size:=⟨by
   have e1:a.toList.take a.size=a.toList:=HH (by simp);have e2:b.toList.take b.size=b.toList:=HH (by simp)
   rw[e1,e2];simp,by delta LS;simp,λx _ y z=>by simp at z⟩
 have o:HI C a b #[u] (a.size-1) b.size:=by
  have e:a.size=a.size-1+1:=by lia
  have G:HI C a b #[] (a.size-1+1) b.size:=by rw[<-e];exact H
  have:=G.pushA g.sa g.sb i l (i3 _) (λq B=>g.lst q u (C6.mpr ⟨_,by rw[BC];exact B⟩) i)
  simpa using this
 by_cases r:a.size-1=0
 .rw[c_ (by simpa using r)];exact wpS_pure (h _ st Eqv.rfl' (o.all g.sa g.sb (.inl r)))
 .rw[f_ (by simpa using r)];by_cases t:b.size=1
  .rw[c_ (by simpa using t)];exact wpS_pure (h _ st Eqv.rfl' (o.one g t))
  .rw[f_ (by simpa using t)];exact JI g L o ⋯ ⋯ h
end
def wB(i:Nat):mergeAt' i=(do
 let c <-get
 let(J (sa,na,pw),J (sb,nb,_)):=((pendingOf c)[i]?,(pendingOf c)[i+1]?)|unsupported "internal:list.sort.pending"
 set (setPending c (((pendingOf c).setIfInBounds i (sa,na+nb,pw)).eraseIdxIfInBounds (i+1)))
 let J k <-gallop' T (<-elem' (arrOf c) sb) (arrOf c) sa na 0|return T
 let(sa,na):=(sa+k,na-k)
 if na==0 then return I
 let J nb <-gallop' I (<-elem' (arrOf c) (sa+na-1)) (arrOf c) sb nb (nb-1)|return T
 if nb==0 then return I
 let x:=(arrOf c).extract sa sb
 let y:=(arrOf c).extract sb (sb+nb)
 let e <-if na<=nb then oO x y else o5 x y
 modify λc=>setArr c (e.toList.zipIdx.foldl (λa (p,j)=>a.setIfInBounds (sa+j) p) (arrOf c))
 return (failedOf (<-get)).isNone):=rfl
def Ga(e:Nat):∀(l:List Keyed)(q:Nat)(xs:Array Keyed)(i:Nat),((l.zipIdx q).foldl (λa (p:Keyed×Nat)=>a.setIfInBounds (e+p.2) p.1) xs)[i]? =
  if e+q<=i/\i<e+q+l.length/\i<xs.size then l[i-(e+q)]? else xs[i]?:=by
 intro l
 induction l with
 |nil=>intro q xs i;rw[f_ (by simp;lia)];rfl
 |cons p l g =>
  intro q xs i;rw[OE,NG,g];simp only[Array.size_setIfInBounds]
  grind
def Cd{xs ou:Array Keyed}{off:Nat}(h:off+ou.size<=xs.size):
  (ou.toList.zipIdx.foldl (λa (p:Keyed×Nat)=>a.setIfInBounds (off+p.2) p.1) xs).toList=xs.toList.take off++(ou.toList++xs.toList.drop (off+ou.size)):=by
 apply G7;intro i;rw[BC,Ga];have j:(xs.toList.take off).length=off:=by simp;lia
 by_cases e:i<off
 .rw[f_ ⋯,yS ⋯,Nu e,BC]
 .rw[DG ⋯,j];by_cases g:i<off+ou.size
  .rw[c_ ⟨⋯,by simpa using g,⋯⟩,yS (by simp;lia)];congr 1
  .rw[f_ (by simp;lia),DG (by simp;lia),ND,BC];congr 1;simp;lia
section
variable{prog:Program}{w:World}{A:Around}{E:SA}{s:Shared}{kd:SortKind}{O:KeyOrd}{C:yM prog w A E s kd O}{a₀:Array Keyed}{st:SortSt}
def iR{xs:Array Keyed}{lo g i j:Nat}(h:r4 C xs lo g)(a:lo<=i)(e:i<=j)(o:j<g){p q:Keyed}(l:xs[i]?=J p)(r:xs[j]?=J q):O.kle (C.key p) (C.key q):=by
 have:=h i j a e o
 rw[aU l,aU r]at this;exact this
def yb{xs:Array Keyed}{lo e:Nat}{p:Keyed}(g:e<=xs.size)(h:p∈(xs.extract lo e).toList):∃i,lo<=i/\i<e/\xs[i]?=J p:=by
 obtain⟨q,a⟩:=C6.mp h;rw[BC,K7]at a
 split at a
 .exact⟨lo+q,⋯,⋯,a⟩
 .cases a
def JK{xs:Array Keyed}{i j k:Nat}(l:i<=j)(o:j<=k)(r:k<=xs.size):xs.toList=xs.toList.take i++((xs.extract i j).toList++(xs.extract j k).toList++xs.toList.drop k):=by
 have e1:(xs.extract i j).toList=(xs.toList.drop i).take (j-i):=by simp
 have e2:(xs.extract j k).toList=(xs.toList.drop j).take (k-j):=by simp
 rw[e1,e2];have g:(xs.toList.drop j).take (k-j)++xs.toList.drop k=xs.toList.drop j:=by
  have:=Fc (k-j) (xs.toList.drop j)
  simp_all
 have a:(xs.toList.drop i).take (j-i)++xs.toList.drop j=xs.toList.drop i:=by
  have:=Fc (j-i) (xs.toList.drop i)
  rw[List.drop_drop]at this;have e:i+(j-i)=j:=by lia
  rw[e]at this;exact this
 rw[Ei,g,a,Fc]
def wN{n1 pw:Nat}{Q:Bool->SortSt->Prop}(h0:da C a₀)(hB:SB kd a₀ st)(h1:1<=n1)(h2:n1<a₀.size)(hp:pendingOf st=#[(0,n1,pw),(n1,a₀.size-n1,0)])(B:r4 C (arrOf st) 0 n1)(u:r4 C (arrOf st) n1 a₀.size)(h:∀ab,SB kd a₀ ab->(pendingOf ab).size=1->r4 C (arrOf ab) 0 a₀.size->Q I ab):wpS (model prog w) A E s (mergeAt' 0) Q st:=by
 have b1:=hB.size;have hg:=hB.good h0;rw[wB];refine wpS_bind (wpS_get ?_);rw[hp];have e0:(#[(0,n1,pw),(n1,a₀.size-n1,0)]:Array (Nat×Nat×Nat))[0]?=J (0,n1,pw):=rfl;have e1:(#[(0,n1,pw),(n1,a₀.size-n1,0)]:Array (Nat×Nat×Nat))[0+1]?=J (n1,a₀.size-n1,0):=rfl;rw[e0,e1];dsimp only;refine wpS_bind ?_;have a5:∀(c:SortSt)(Q':PUnit->SortSt->Prop),Q' ⟨⟩ c->wpS (model prog w) A E s (set c:StateT SortSt Sem PUnit) Q' st:=λc Q' hq=>by
  unfold wpS;rw[StateT.run_set];exact il ⟨rfl,hq⟩
 refine a5 _ _ ?_;obtain⟨G,F⟩:∃c,c=setPending st (((#[(0,n1,pw),(n1,a₀.size-n1,0)]:Array (Nat×Nat×Nat)).setIfInBounds 0 (0,n1+(a₀.size-n1),pw)).eraseIdxIfInBounds (0+1)):=⟨_,rfl⟩;rw[<-F];have z:SB kd a₀ G:=by rw[F];exact⟨hB.perm,hB.kind,hB.failed⟩
 have ay:(pendingOf G).size=1:=by rw[F];simp[pendingOf]
 have a7:arrOf G=arrOf st:=by rw[F]
 clear F;have W:r4 C (arrOf st) 0 n1->r4 C (arrOf st) n1 a₀.size->(∀i j,i<n1->n1<=j->j<a₀.size->O.kle (kk C (arrOf st) i) (kk C (arrOf st) j))->r4 C (arrOf G) 0 a₀.size:=by
  intro g1 g2 g3 i j _ a3 P;rw[a7];by_cases c1:j<n1
  .exact g1 i j (vl _) a3 c1
  .by_cases c2:i<n1
   .exact g3 i j c2 ⋯ P
   .exact g2 i j ⋯ a3 P
 refine wpS_bind (aX ⋯ λb0 R=>?_);refine wpS_bind (eR (C:=C) z.kind hg (bH hg R) ⋯ ⋯ (by rw[zu];exact B) λk hk bm bt=>?_);have X:∀r p,r<k->(arrOf st)[r]?=J p->O.kle (C.key p) (C.key b0):=λr p hr g=>by
  have:=bm r hr
  unfold h_ at this;rw[zu,aU g]at this;simp only[pu,if_false,G4]at this;exact this
 have a1:∀r p,k<=r->r<n1->(arrOf st)[r]?=J p->O.kle (C.key b0) (C.key p):=λr p ap as g=>by
  have:=bt r ap as
  unfold h_ at this;rw[zu,aU g]at this;simp only[pu,if_false,OC]at this;exact KeyOrd.kle_of_klt this
 dsimp only;rw[zu];have L:∀i,i<a₀.size->∃p,(arrOf st)[i]?=J p:=λi t=>⟨_,getElem?_pos _ i ⋯⟩;by_cases z1:n1-k=0
 .rw[c_ (by simpa using z1)];refine wpS_pure (h G z ay (W B u λi j t a6 S=>?_));obtain⟨p,g⟩:=L i ⋯;obtain⟨q,o⟩:=L j S;rw[aU g,aU o];exact KeyOrd.kle_trans (X i p ⋯ g) (iR u (i3 _) a6 S R o)
 .rw[f_ (by simpa using z1)];have ez:k+(n1-k)-1=n1-1:=by lia
  rw[ez];refine wpS_bind (aX ⋯ λal Z=>?_);refine wpS_bind (eR (C:=C) z.kind hg (bH hg Z) ⋯ ⋯ (by have e:n1+(a₀.size-n1)=a₀.size:=⋯;rw[e];exact u) λm hm a2 a8=>?_);have ax:∀r p,n1<=r->r<n1+m->(arrOf st)[r]?=J p->O.kle (C.key p) (C.key al):=λr p ap as g=>by
   have:=a2 (r-n1) ⋯
   have e:n1+(r-n1)=r:=by lia
   unfold h_ at this;rw[e,aU g]at this;exact KeyOrd.kle_of_klt this
  have U:∀r p,n1+m<=r->r<a₀.size->(arrOf st)[r]?=J p->O.kle (C.key al) (C.key p):=λr p ap as g=>by
   have:=a8 (r-n1) ⋯ ⋯
   have e:n1+(r-n1)=r:=by lia
   unfold h_ at this;rw[e,aU g]at this;exact this
  dsimp only;by_cases z2:m=0
  .rw[c_ (by simpa using z2)];refine wpS_pure (h G z ay (W B u λi j t a6 S=>?_));obtain⟨p,g⟩:=L i ⋯;obtain⟨q,o⟩:=L j S;rw[aU g,aU o];exact KeyOrd.kle_trans (iR B (vl _) ⋯ ⋯ g Z) (U j q ⋯ S o)
  .rw[f_ (by simpa using z2)];have sx:((arrOf st).extract k n1).size=n1-k:=by simp;lia
   have sy:((arrOf st).extract n1 (n1+m)).size=m:=by simp;lia
   have gx:∀r,r<n1-k->((arrOf st).extract k n1)[r]?=(arrOf st)[k+r]?:=λr hr=>by rw[K7,c_ ⋯]
   have gy:∀r,r<m->((arrOf st).extract n1 (n1+m))[r]?=(arrOf st)[n1+r]?:=λr hr=>by rw[K7,c_ ⋯]
   have an:∀p,p∈((arrOf st).extract k n1).toList->∃i,k<=i/\i<n1/\(arrOf st)[i]?=J p:=λp g=>yb ⋯ g;have M:∀p,p∈((arrOf st).extract n1 (n1+m)).toList->∃i,n1<=i/\i<n1+m/\(arrOf st)[i]?=J p:=λp g=>yb ⋯ g;have a9:Dg C ((arrOf st).extract k n1) ((arrOf st).extract n1 (n1+m)):=by
    refine⟨λp g=>?_,λp g=>?_,pZ ⋯ λi j a b c=>B i j (vl _) b c,pZ ⋯ λi j a b c=>u i j a b ⋯,⋯,⋯,?_,?_⟩
    .obtain⟨i,_,_,t⟩:=an p g;exact bH hg t
    .obtain⟨i,_,_,t⟩:=M p g;exact bH hg t
    .intro p q g o;rw[gy 0 ⋯]at g;rw[gx 0 ⋯]at o;have e:(arrOf st)[n1+0]?=J b0:=R;rw[e]at g;cases g;exact a1 (k+0) q ⋯ ⋯ o
    .intro x q hx o;obtain⟨i,i1,i2,t⟩:=M x hx;rw[sx,gx _ ⋯]at o;have e:k+(n1-k-1)=n1-1:=by lia
     rw[e,Z]at o;cases o;exact ax i x i1 i2 t
   have fin:∀H l,Eqv G l->MR C ((arrOf st).extract k n1) ((arrOf st).extract n1 (n1+m)) H ->
     wpS (model prog w) A E s (do
      modify λc=>setArr c (H.toList.zipIdx.foldl (λa (p:Keyed×Nat)=>a.setIfInBounds (k+p.2) p.1) (arrOf c))
      return (failedOf (<-get)).isNone) Q l:=by
    intro H l ev mr;refine wpS_bind (wpS_modify ?_);refine wpS_bind (wpS_get (wpS_pure ?_));have ea:arrOf l=arrOf st:=ev.arr.trans a7;have so:H.size=n1-k+m:=by
     have:=mr.1.length_eq
     rw[z_,DO,z_,z_,sx,sy]at this;exact this
    have hl:=Cd (xs:=arrOf l) (ou:=H) (off:=k) (by rw[ea];lia);have eo:k+H.size=n1+m:=by lia
    rw[eo,ea]at hl;have bf:=JK (xs:=arrOf st) (i:=k) (j:=n1) (k:=n1+m) ⋯ ⋯ ⋯;have bx:(failedOf (setArr l (H.toList.zipIdx.foldl (λa (p:Keyed×Nat)=>a.setIfInBounds (k+p.2) p.1) (arrOf l)))).isNone=I:=by show(failedOf l).isNone=I;rw[ev.failed,z.failed];rfl
    rw[bx];have bv:LS C (H.toList.zipIdx.foldl (λa (p:Keyed×Nat)=>a.setIfInBounds (k+p.2) p.1) (arrOf l)).toList:=by
     rw[ea,hl];have mo:∀p,p∈H.toList->(∃i,k<=i/\i<n1/\(arrOf st)[i]?=J p)\/(∃i,n1<=i/\i<n1+m/\(arrOf st)[i]?=J p):=λp g =>
      (n9.mp (mr.1.mem_iff.mp g)).imp (an p) (M p)
     have mt:∀p,p∈(arrOf st).toList.take k->∃i,i<k/\(arrOf st)[i]?=J p:=λp g=>by
      obtain⟨i,t⟩:=C6.mp g;by_cases c:i<k
      .rw[Nu c,BC]at t;exact⟨i,c,t⟩
      .rw[Eh (by simp;lia)]at t;cases t
     have md:∀p,p∈(arrOf st).toList.drop (n1+m)->∃i,n1+m<=i/\i<a₀.size/\(arrOf st)[i]?=J p:=λp g=>by
      obtain⟨i,t⟩:=C6.mp g;rw[ND,BC]at t
      have:=(Ky.mp t).1
      exact⟨n1+m+i,⋯,⋯,t⟩
     refine cG ?_ (cG mr.2 ?_ ?_) ?_
     .have:=pZ (C:=C) (xs:=arrOf st) (lo:=0) (hi:=k) ⋯ λi j a b c=>B i j a b ⋯
      rw[oW]at this;exact this
     .have:=pZ (C:=C) (xs:=arrOf st) (lo:=n1+m) (hi:=(arrOf st).size) (i3 _) λi j a b c=>u i j ⋯ b ⋯
      rw[iH]at this;exact this
     .intro x hx y hy;obtain⟨j,j1,j2,P⟩:=md y hy;rcases mo x hx with⟨i,i1,i2,t⟩|⟨i,i1,i2,t⟩
      .exact KeyOrd.kle_trans (iR B (vl _) ⋯ ⋯ t Z) (U j y j1 j2 P)
      .exact iR u i1 ⋯ j2 t P
     .intro x hx y hy;obtain⟨i,i1,t⟩:=mt x hx;rcases n9.mp hy with hy|hy
      .rcases mo y hy with⟨j,j1,j2,P⟩|⟨j,j1,j2,P⟩
       .exact iR B (vl _) ⋯ j2 t P
       .exact KeyOrd.kle_trans (X i x i1 t) (iR u (i3 _) j1 ⋯ R P)
      .obtain⟨j,j1,j2,P⟩:=md y hy;exact KeyOrd.kle_trans (X i x i1 t) (iR u (i3 _) ⋯ j2 R P)
    have a4:(H.toList.zipIdx.foldl (λa (p:Keyed×Nat)=>a.setIfInBounds (k+p.2) p.1) (arrOf l)).Perm (arrOf st):=by rw[Ov,ea,hl];refine List.Perm.trans ?_ (List.Perm.of_eq bf.symm);exact List.Perm.append_left _ (List.Perm.append_right _ mr.1)
    refine h _ ⟨a4.trans hB.perm,ev.kind.trans z.kind,ev.failed.trans z.failed⟩ ?_ ?_
    .show (pendingOf l).size=1;rw[ev.pend];exact ay
    .have:=nc bv
     have e2:(H.toList.zipIdx.foldl (λa (p:Keyed×Nat)=>a.setIfInBounds (k+p.2) p.1) (arrOf l)).size=a₀.size:=(a4.trans hB.perm).size_eq;rw[e2]at this;exact this
   by_cases a0:n1-k<=m
   .rw[c_ a0];refine wpS_bind (Jz a9 z.kind λH l ev mr=>?_);exact fin H l ev mr
   .rw[f_ a0];refine wpS_bind (JJ a9 z.kind λH l ev mr=>?_);exact fin H l ev mr
end
def u9(a:2<=n)(h:n<64):minRun' n n 0=n:=by
 obtain⟨f,hf⟩:∃f,n=f+1:=⟨n-1,⋯⟩
 have:minRun' (f+1) n 0=n+0:=by rw[minRun'_succ,c_ h]
 rw[<-hf]at this;exact this
def AW(a:2<=n)(h:n<=66):1<=minRun' n n 0/\minRun' n n 0<=n/\n<=2*minRun' n n 0:=by
 by_cases c:n<64
 .rw[u9 a c];lia
 .have:n=64\/n=65\/n=66:=by lia
  rcases this with e|e | e<;>subst e
  .have:minRun' 64 64 0=32:=by decide
   rw[this];lia
  .have:minRun' 65 65 0=33:=by decide
   rw[this];lia
  .have:minRun' 66 66 0=33:=by decide
   rw[this];lia
section
variable{prog:Program}{w:World}{A:Around}{E:SA}{s:Shared}{kd:SortKind}{O:KeyOrd}{C:yM prog w A E s kd O}{a₀:Array Keyed}{st:SortSt}
def One(C:yM prog w A E s kd O)(a₀:Array Keyed)(e a:Nat)(st:SortSt):Prop:=SB kd a₀ st/\pendingOf st=#[(0,a,0)]/\e<=a/\a<=a₀.size/\r4 C (arrOf st) 0 a
def MC(C:yM prog w A E s kd O)(a₀:Array Keyed)(a:Nat)(st:SortSt):Prop :=
 SB kd a₀ st/\1<=a/\a<a₀.size/\(∃e,pendingOf st=#[(0,a,e),(a,a₀.size-a,0)])/\r4 C (arrOf st) 0 a/\r4 C (arrOf st) a a₀.size
def vW{xs ys:Array Keyed}{p lo l:Nat}(h:dh p xs ys)(o:l<=p)(g:r4 C xs lo l):r4 C ys lo l:=by intro i j a e r;rw[fI (h i ⋯),fI (h j ⋯)];exact g i j a e r
def CC(h0:da C a₀)(hB:SB kd a₀ st)(a4:pendingOf st=#[])(h2:2<=a₀.size)(ax:a₀.size<=66)(h:∀i,(arrOf i).Perm a₀->failedOf i=Y->r4 C (arrOf i) 0 a₀.size->Q () i):wpS (model prog w) A E s sortRuns' Q st:=by
 obtain⟨m1,m2,m3⟩:=AW h2 ax;rw[sortRuns'_eq];refine wpS_bind (wpS_get ?_);dsimp only;rw[hB.size];generalize minRun' a₀.size a₀.size 0=X at m1 m2 m3 ⊢
 refine wpS_bind (wpS_mono (wpS_forRange
  (I:=λx c i=>(x=0/\c=(Y,0)/\SB kd a₀ i/\pendingOf i=#[])\/(x=1/\∃g,c=(Y,g)/\One C a₀ X g i)\/(2<=x/\c=(Y,a₀.size)/\∃g,MC C a₀ g i))
  (Q:=λc i=>c=(Y,a₀.size)/\(One C a₀ X a₀.size i\/∃g,MC C a₀ g i)) ?_ ?_ (.inl ⟨rfl,rfl,hB,a4⟩)) ?_)
 .rintro x c i _ hx (⟨rfl,rfl,r,j⟩|⟨rfl,g,rfl,r,j,a2,as,P⟩|⟨a6,rfl,g,L⟩)
  .rw[f_ ⋯];simp only[Nat.sub_zero,zu];refine wpS_bind (xK (p:=0) h0 ⋯ ⋯ r λm z o _ B ay a3 F=>?_);rw[zu]at F;dsimp only;by_cases M:m<X
   .rw[c_ M];refine wpS_bind (wpS_lift (wpAny_rule ⟨rfl,?_⟩));refine wpS_bind (wQ (p:=0) h0 ⋯ ⋯ o (by rw[zu];exact F) λt u _ G H=>?_);simp only[Ez,pu,if_false];refine wpS_bind (wpS_get ?_);have L:(pendingOf t).back?=Y:=by rw[G,B,j];rfl
    rw[L];dsimp only;refine wpS_bind (wpS_modify (wpS_pure (.inr (.inl ⟨trivial,_,rfl,⟨u.perm,u.kind,u.failed⟩,?_,⋯,⋯,?_⟩))))
    .show (pendingOf t).push _=_;rw[G,B,j];rfl
    .rw[zu]at H;exact H
   .rw[f_ M];refine wpS_bind (wpS_get ?_);have L:(pendingOf z).back?=Y:=by rw[B,j];rfl
    rw[L];dsimp only;refine wpS_bind (wpS_modify (wpS_pure (.inr (.inl ⟨trivial,_,rfl,⟨o.perm,o.kind,o.failed⟩,?_,⋯,⋯,F⟩))));show(pendingOf z).push _=_;rw[B,j];rfl
  .dsimp only;by_cases R:g>=a₀.size
   .rw[c_ R];have e:g=a₀.size:=by lia
    subst e;exact wpS_pure ⟨rfl,.inl ⟨r,j,a2,as,P⟩⟩
   .rw[f_ R];have an:a₀.size-g<=X:=by lia
    refine wpS_bind (xK (p:=g) h0 ⋯ ⋯ r λm z o ab B ay a3 F=>?_);dsimp only;by_cases M:m<X
    .rw[c_ M];refine wpS_bind (wpS_lift (wpAny_rule ⟨rfl,?_⟩));have em:min (a₀.size-g) X=a₀.size-g:=by lia
     rw[em];refine wpS_bind (wQ (p:=g) h0 ⋯ ⋯ o F λt u al G H=>?_);simp only[Ez,pu,if_false];refine wpS_bind (wpS_get ?_);have S:pendingOf t=#[(0,g,0)]:=by rw[G,B,j]
     have L:(pendingOf t).back?=J (0,g,0):=by rw[S];rfl
     rw[L];dsimp only;refine wpS_bind (wpS_mono (wpS_forRange (I:=λ_ c l=>c=(Y,())/\l=t) (Q:=λc l=>c=(Y,())/\l=t) ?_ (λ_ _ hh=>hh) ⟨rfl,rfl⟩) ?_)
     .rintro y c l _ _ ⟨rfl,rfl⟩;refine wpS_bind (wpS_get ?_);rw[S];exact wpS_pure ⟨rfl,rfl⟩
     .rintro c l ⟨rfl,rfl⟩;dsimp only;refine wpS_bind (wpS_modify (wpS_bind (wpS_modify (wpS_pure (.inr (.inr ⟨⋯,?_,g,⟨u.perm,u.kind,u.failed⟩,⋯,⋯,⟨power' a₀.size (2*0+g) (2*0+g+g+(a₀.size-g)) a₀.size,?_⟩,(vW (ab.trans al) (i3 _) P),(by have e:g+(a₀.size-g)=a₀.size:=⋯;rw[e]at H;exact H)⟩))))))
      .have e:g+(a₀.size-g)=a₀.size:=by lia
       rw[e]
      .show ((pendingOf l).modify _ _).push _=_;rw[S];simp
    .rw[f_ M];have em:m=a₀.size-g:=by lia
     subst em;refine wpS_bind (wpS_get ?_);have W:pendingOf z=#[(0,g,0)]:=by rw[B,j]
     have L:(pendingOf z).back?=J (0,g,0):=by rw[W];rfl
     rw[L];dsimp only;refine wpS_bind (wpS_mono (wpS_forRange (I:=λ_ c l=>c=(Y,())/\l=z) (Q:=λc l=>c=(Y,())/\l=z) ?_ (λ_ _ hh=>hh) ⟨rfl,rfl⟩) ?_)
     .rintro y c l _ _ ⟨rfl,rfl⟩;refine wpS_bind (wpS_get ?_);rw[W];exact wpS_pure ⟨rfl,rfl⟩
     .rintro c l ⟨rfl,rfl⟩;dsimp only;refine wpS_bind (wpS_modify (wpS_bind (wpS_modify (wpS_pure (.inr (.inr ⟨⋯,?_,g,⟨o.perm,o.kind,o.failed⟩,⋯,⋯,⟨power' a₀.size (2*0+g) (2*0+g+g+(a₀.size-g)) a₀.size,?_⟩,(vW ab (i3 _) P),(by have e:g+(a₀.size-g)=a₀.size:=⋯;rw[e]at F;exact F)⟩))))))
      .have e:g+(a₀.size-g)=a₀.size:=by lia
       rw[e]
      .show ((pendingOf l).modify _ _).push _=_;rw[W];simp
  .dsimp only;rw[c_ (i3 _)];exact wpS_pure ⟨rfl,.inr ⟨g,L⟩⟩
 .rintro c i (⟨hx,_⟩|⟨hx,_⟩|⟨_,hc,L⟩)
  .lia
  .lia
  .exact⟨hc,.inr L⟩
 .rintro c i ⟨rfl,hc⟩;dsimp only;rcases hc with⟨r,j,_,_,P⟩|⟨g,r,ap,n12,⟨pw,j⟩,a1,a0⟩
  .refine wpS_bind (wpS_mono (wpS_forRange (I:=λ_ c a=>a=i/\c=(Y,())) (Q:=λc a=>a=i/\c=(Y,())) ?_ (λ_ _ hh=>hh) ⟨rfl,rfl⟩) ?_)
   .rintro x c a _ _ ⟨rfl,rfl⟩;refine wpS_bind (wpS_get ?_);rw[c_ (by rw[j];exact i3 1)];exact wpS_pure ⟨rfl,rfl⟩
   .rintro c a ⟨rfl,rfl⟩;exact wpS_pure (h _ r.perm r.failed P)
  .refine wpS_bind (wpS_mono (wpS_forRange (I:=λx c a=>c=(Y,())/\((x=0/\a=i)\/(1<=x/\SB kd a₀ a/\(pendingOf a).size=1/\r4 C (arrOf a) 0 a₀.size)))
    (Q:=λc a=>c=(Y,())/\SB kd a₀ a/\r4 C (arrOf a) 0 a₀.size) ?_ ?_ ⟨rfl,.inl ⟨rfl,rfl⟩⟩) ?_)
   .rintro x c a _ _ ⟨rfl,U⟩;rcases U with⟨rfl,rfl⟩|⟨a5,Z,b2,b3⟩
    .refine wpS_bind (wpS_get ?_);rw[f_ (by rw[j];simp)];rw[j];refine wpS_bind (wN (n1:=g) (pw:=pw) h0 r ap n12 j a1 a0 λt c1 c2 c3=>?_);simp only[Ez,pu,if_false];exact wpS_pure ⟨rfl,.inr ⟨⋯,c1,c2,c3⟩⟩
    .refine wpS_bind (wpS_get ?_);rw[c_ (by rw[b2];exact i3 1)];exact wpS_pure ⟨rfl,Z,b3⟩
   .rintro c a ⟨rfl,⟨hx,_⟩|⟨_,Z,_,b3⟩⟩
    .lia
    .exact⟨rfl,Z,b3⟩
   .rintro c a ⟨rfl,Z,b3⟩;exact wpS_pure (h _ Z.perm Z.failed b3)
end
end SortT
namespace SortT
open PyProof.Rows SetT PySem.W
def bZ:R6->R6->Bool
 |[],[]=>T
 |[],_::_=>I
 |_::_,[]=>T
 |a::x,b::y=>if a=b then bZ x y else decide (a<b)
def oq:∀x,bZ x x=T
 |[]=>rfl
 |a::x=>by unfold bZ;rw[c_ rfl];exact oq x
def qE:∀x y z,bZ x y=I->bZ y z=I->bZ x z=I
 |[],_::_,_::_,_,_=>rfl
 |a::x,b::y,c::z,g,e=>by
  unfold bZ at g e ⊢;by_cases e1:a=b
  .rw[c_ e1]at g;by_cases e2:b=c
   .rw[c_ e2]at e;rw[c_ (e1.trans e2)];exact qE x y z g e
   .rw[f_ e2]at e;rw[f_ (λq=>e2 (e1.symm.trans q)),e1];exact e
  .grind
def uL:∀x y z,bZ x z=I->bZ x y=I\/bZ y z=I
 |[],[],_::_,_=>.inr rfl
 |[],_::_,_,_=>.inl rfl
 |_::_,[],_::_,_=>.inr rfl
 |a::x,b::y,c::z,h=>by
  unfold bZ at h ⊢;by_cases e1:a=b
  .rw[c_ e1];by_cases e2:b=c
   .rw[c_ e2];rw[c_ (e1.trans e2)]at h;exact uL x y z h
   .rw[f_ (λq=>e2 (e1.symm.trans q)),e1]at h;rw[f_ e2];exact .inr h
  .grind
def lb:∀x y,bZ x y=T->bZ y x=T->x=y
 |[],[],_,_=>rfl
 |a::x,b::y,g,i=>by
  unfold bZ at g i;by_cases e:a=b
  .rw[c_ e]at g;rw[c_ e.symm]at i;rw[e,lb x y g i]
  .rw[f_ e]at g;rw[f_ (λq=>e q.symm)]at i
   grind
def Gb:KeyOrd:=⟨R6,bZ,oq,qE,uL,lb⟩
def Gc(l:R7):Prop:=l.Pairwise λx y=>bZ y x=T
section
variable{prog:Program}{w:World}{A:Around}{E:SA}{s:Shared}
def q7(prog:Program)(w:World)(h:Heap)(v:Value):R6:=Classical.epsilon λk=>∃a,v=.ref a/\TK prog w h k a
def iA(t:TK prog w h k a):q7 prog w h (.ref a)=k:=by
 have:=Classical.epsilon_spec (p:=λk=>∃b,Value.ref a=.ref b/\TK prog w h k b) ⟨k,a,rfl,t⟩
 obtain⟨b,e,g⟩:=this;cases e;exact IsTupleKey.inj g t
def JL:∀(xs ys:SQ)(l j:R6)(i:Nat),ItemsAre (intKind prog w) l xs->ItemsAre (intKind prog w) j ys->fin=decide (xs.length<ys.length)->Q (bZ l j) s ->
  KatLex prog w A b fin Q (xs.zip ys) i s:=by
 intro xs
 induction xs with
 |nil =>
  intro ys l j i C r hf a;cases C
  cases r with
  |nil=>rw[hf];exact a
  |cons G H=>rw[hf];exact a
 |cons x xs L =>
  intro ys l j i C r hf a
  cases C with
  |@cons g _ z _ G B =>
   cases r with
   |nil=>rw[hf];exact a
   |@cons o y u t H F =>
    obtain⟨M,rfl⟩:=Value.isInt_shape (k:=g) (v:=x) G;obtain⟨O,rfl⟩:=Value.isInt_shape (k:=o) (v:=y) H;refine kat_cons (wpAny_eqBool_int ?_);unfold bZ at a;by_cases e:g=o
    .rw[c_ e]at a
     have:(g==o)=I:=by simpa using e
     rw[this];exact kat_yes (L t z u (i+1) B F (by rw[hf];simp) a)
    .rw[f_ e]at a
     have:(g==o)=T:=by simpa using e
     rw[this];refine kat_no ?_
     cases P:(b&&i==0) with
     |true=>exact oneLt_int a
     |false=>exact kat_one _ _ (wpAny_lt_int a)
def MD(prog:Program)(w:World)(A:Around)(E:SA)(s:Shared)(b:Bool):yM prog w A E s (tuples' b) Gb where
 key:=λp=>q7 prog w s.heap p.1
 dflt:=([]:R6)
 good:=λp=>∃a k,p.1=.ref a/\TK prog w s.heap k a
 ask:=λx y st Q H L R C=>by
  obtain⟨x1,U⟩:=x;obtain⟨S,y2⟩:=y;obtain⟨P,z,ex,B⟩:=H;obtain⟨G,u,t,ty⟩:=L;simp only at ex t;subst ex;subst t;have F:Q (J (bZ z u)) st:=by
   have M:=iA B;have O:=iA ty;have e:Gb.blt (q7 prog w s.heap (.ref P)) (q7 prog w s.heap (.ref G))=bZ z u:=by rw[M,O];rfl
   rw[<-e];exact C
  obtain⟨ox,X,nx,j,_,i,l⟩:=B;obtain⟨W,iy,Z,r,_,g,o⟩:=ty;rw[lt'_eq];refine wpS_bind (wpS_get ?_);rw[R];refine wpS_bind (wpS_lift (wpAny_attempt (kat_lt j i r g (JL _ _ _ _ _ l o (by simp) ⟨rfl,?_⟩))));exact wpS_pure F
def vY{z:SQ}{C:R7}{Q:SortKind->Shared->Prop}(W:ET prog w s.heap z.toArray C)(H:∀k∈C,k≠[])(h1:0<z.length)(h:Q (tuples' I) s):
  wpAny (model prog w) A (keyKind' z.toArray) Q E s:=by
 have B:z.length=C.length:=by have:=W.1;simpa using this
 have key:∀(r:SQ)(g:R7),r.length=g.length->(∀(i:Nat)(v:Value)(k:R6),r[i]?=J v->g[i]?=J k->∃a,v=.ref a/\TK prog w s.heap k a)->(∀k∈g,k≠[]) ->
   ∃fs:SQ,fs.length=r.length/\KatTups s.heap r fs/\∀v∈fs,∃i t,v=.int i t:=by
  intro r
  induction r with
  |nil=>intro g _ _ _;exact⟨[],rfl,KatTups.nil,λv hv=>by cases hv⟩
  |cons u r ih =>
   intro g P j S
   cases g with
   |nil=>simp at P
   |cons k g =>
    obtain⟨a,rfl,o,items,n,ho,X,hd,Z⟩:=j 0 u k rfl rfl;obtain⟨fs,R,G,L⟩:=ih g (by simpa using P) (λi v F hv e=>j (i+1) v F (by simpa using hv) (by simpa using e)) (λF e=>S F (oh _ e))
    cases k with
    |nil=>exact absurd rfl (S [] BD)
    |cons U kr =>
     have y:=Z;generalize M:items.toList=l at y
     cases y with
     |@cons _ v0 _ vr h0 hr =>
      obtain⟨O,rfl⟩:=Value.isInt_shape h0;have hg:items[0]?=J (.int U O):=by rw[<-BC,M];rfl
      refine⟨.int U O::fs,by simp[R],KatTups.cons ho X hd hg G,λv hv=>?_⟩;rcases nk.mp hv with rfl|hv
      .exact⟨_,_,rfl⟩
      .exact L v hv
 obtain⟨fs,R,G,L⟩:=key z C B (λi v k hv e=>W.2 i v k (by simpa using hv) e) H;refine kat_kind (T:=.type "int") G ⋯ (λv hv=>?_) (by decide) ?_
 .obtain⟨i,t,rfl⟩:=L v hv;exact .now
 .exact h
def Bk(ho:s.heap.get? a=J (seqObj "list" vs.toArray n))(G:ET prog w s.heap vs.toArray z)(a0:∀k∈z,k≠[])(a6:vs.length<=66)(h:∀(O:SQ) (R:R7),ET prog w s.heap O.toArray R->O.Perm vs->R.Perm z->Gc R->P (.done (.ret .none)) { s with heap:=sortedHeap s.heap a vs O.toArray}):
  wpAny (model prog w) A (Builtin.«list.sort» ⟨[.ref a],[]⟩) P E s:=by
 rw[list_sort_plain];have F:vs.length<=sizeLine:=by rw[sizeLine_eq];lia
 refine d_ (listItems_at ho rfl ?_);refine d_ (listUpdate_at ho rfl ?_ (by rw[va];exact F) (vl _));obtain⟨e1,an⟩:∃e1,(s.heap.update a (Obj.mapSeq λ_=>(#[]:Array Value))).get? a=J (seqObj "list" #[] e1):=⟨_,get?_update_seq ho λ_=>#[]⟩;refine d_ (seqEpoch_at an rfl ?_);refine d_ (wpAny_newTuple ?_ (by show vs.length<=_;exact F));refine d_ (wpAny_newList ?_ (vl _));refine wpAny_holding ?_;have H:(((s.heap.update a (Obj.mapSeq λ_=>(#[]:Array Value))).push (seqObj "tuple" vs.toArray 0)).push (seqObj "list" #[] 0)).get? a=J (seqObj "list" #[] e1) :=
  ls _ (ls _ an)
 have X:∀k b,TK prog w s.heap k b->TK prog w (((s.heap.update a (Obj.mapSeq λ_=>(#[]:Array Value))).push (seqObj "tuple" vs.toArray 0)).push (seqObj "list" #[] 0)) k b:=by
  rintro k b ⟨o,items,m,hb,hc,r⟩;have U:b≠a:=by rintro rfl;rw[ho]at hb;cases hb;have a4:Value.type "list"=Value.type "tuple":=hc;exact absurd a4 (by decide)
  exact⟨o,items,m,ls _ (ls _ ((Lc _ _ _ _ U).trans hb)),hc,r⟩
 show wpAny (model prog w) A _ P E { s with heap:=((s.heap.update a (Obj.mapSeq λ_=>(#[]:Array Value))).push (seqObj "tuple" vs.toArray 0)).push (seqObj "list" #[] 0)};have al:ET prog w (((s.heap.update a (Obj.mapSeq λ_=>(#[]:Array Value))).push (seqObj "tuple" vs.toArray 0)).push (seqObj "list" #[] 0)) vs.toArray z :=
  ⟨G.1,λi v k hv l=>let⟨b,e,t⟩:=G.2 i v k hv l;⟨b,e,X k b t⟩⟩
 have ap:vs.toArray.size=vs.length:=by simp
 dsimp only;by_cases h2:vs.toArray.size<2
 .rw[c_ h2,c_ h2];refine d_ (il ?_);rw[StateT.run_pure];refine d_ (il ?_);dsimp only;refine d_ (seqEpoch_at H rfl ?_);have hz:((vs.toArray.zip vs.toArray).map (·.2))=vs.toArray:=by
   apply Ff.mp;simp only[Array.toList_map,Array.toList_zip,List.toList_toArray];exact List.map_snd_zip (i3 _)
  refine d_ (listUpdate_at H rfl ?_ (vl _) (by show((vs.toArray.zip vs.toArray).map (·.2)).size<=_;rw[hz,ap];lia));simp only[bne_self_eq_false,pu,if_false];refine il ?_
  have:=h vs z G (List.Perm.refl _) (List.Perm.refl _) (by
   have Z:z.length<2:=by have:=G.1;lia
   delta Gc
   match z,Z with
   |[],_=>simp
   |[x],_=>simp)
  have e:(arrOf (SortSt.mk' general' (vs.toArray.zip vs.toArray) #[] 7 Y)).map (·.2)=vs.toArray:=hz;rw[e];exact this
 .rw[f_ h2,f_ h2];refine d_ (vY (s:={ s with heap:=_}) al a0 ⋯ ?_);have ay:(pairsOf vs).size=vs.length:=pairsOf_size vs
  refine d_ (wpAny_mono (CC (C:=MD prog w A E { s with heap:=((s.heap.update a (Obj.mapSeq λ_=>(#[]:Array Value))).push (seqObj "tuple" vs.toArray 0)).push (seqObj "list" #[] 0)} I)
   (a₀:=pairsOf vs) (st:=SortSt.mk' (tuples' I) (vs.toArray.zip vs.toArray) #[] 7 Y)
   (Q:=λ_ g=>(arrOf g).Perm (pairsOf vs)/\failedOf g=Y/\r4 (MD prog w A E { s with heap:=((s.heap.update a (Obj.mapSeq λ_=>(#[]:Array Value))).push (seqObj "tuple" vs.toArray 0)).push (seqObj "list" #[] 0)} I) (arrOf g) 0 (pairsOf vs).size)
   ?_ ⟨Array.Perm.refl _,rfl,rfl⟩ rfl ⋯ ⋯ λg a1 a2 a3=>⟨a1,a2,a3⟩) ?_ λ_ _ e=>e)
  .intro p S;rw[pairsOf_toList]at S;obtain⟨q1,q2⟩:=mem_zip_self S;obtain⟨i,y⟩:=C6.mp q2
   obtain⟨k,l⟩:∃k,z[i]?=J k:=⟨_,C5 (by
    have h3:=(mw.mp y).1
    have:=G.1;lia)⟩
   obtain⟨b,e,t⟩:=al.2 i p.1 k (by simpa using y) l;exact⟨b,k,e,t⟩
  .rintro⟨⟨⟩,g⟩ s' ⟨rfl,S,hf,hs⟩;dsimp only;refine d_ (seqEpoch_at H rfl ?_);have hz:((arrOf g).map (·.2)).size=vs.length:=by rw[Array.size_map,S.size_eq,ay]
   refine d_ (listUpdate_at H rfl ?_ (vl _) (by show((arrOf g).map (·.2)).size<=_;rw[hz];lia));rw[hf];simp only[bne_self_eq_false,pu,if_false];refine il ?_;have Z:(arrOf g).toList.Perm (vs.zip vs):=by rw[<-pairsOf_toList];exact Ov.mp S
   have B:∀p,p∈(arrOf g).toList->p.1=p.2/\p.1∈vs:=λp ax=>mem_zip_self (Z.mem_iff.mp ax);have hv:∀v,v∈vs->∃k b,v=.ref b/\TK prog w s.heap k b/\k∈z:=λv hv=>by
    obtain⟨i,y⟩:=C6.mp hv
    obtain⟨k,l⟩:∃k,z[i]?=J k:=⟨_,C5 (by
     have h3:=(mw.mp y).1
     have:=G.1;lia)⟩
    obtain⟨b,e,t⟩:=G.2 i v k (by simpa using y) l;exact⟨k,b,e,t,C6.mpr ⟨i,l⟩⟩
   have W:vs.map (q7 prog w s.heap)=z:=by
    apply G7;intro i;rw[yT]
    cases y:vs[i]? with
    |none =>
     have:=List.getElem?_eq_none_iff.mp y
     rw[Eh (by have:=G.1;lia)];rfl
    |some v =>
     obtain⟨k,l⟩:∃k,z[i]?=J k:=⟨_,C5 (by
      have h3:=(mw.mp y).1
      have:=G.1;lia)⟩
     obtain⟨b,e,t⟩:=G.2 i v k (by simpa using y) l;subst e;rw[l];show J (q7 prog w s.heap (.ref b))=J k;rw[iA t]
   have M:∀v,v∈vs->q7 prog w (((s.heap.update a (Obj.mapSeq λ_=>(#[]:Array Value))).push (seqObj "tuple" vs.toArray 0)).push (seqObj "list" #[] 0)) v=q7 prog w s.heap v:=λv u=>by
    obtain⟨k,b,rfl,t,_⟩:=hv v u;rw[iA t,iA (X k b t)]
   have L:=h ((arrOf g).toList.map (·.2)) ((arrOf g).toList.map λp=>q7 prog w s.heap p.1) ?_ ?_ ?_ ?_
   .have e:((arrOf g).toList.map (·.2)).toArray=(arrOf g).map (·.2):=by apply Ff.mp;simp
    rw[e]at L;exact L
   .refine⟨by simp,λi v k u l=>?_⟩;rw[KA,yT]at u;rw[yT]at l
    cases y:(arrOf g).toList[i]? with
    |none=>rw[y]at u;cases u
    |some p =>
     rw[y]at u l;cases u;cases l;obtain⟨q1,q2⟩:=B p (Dm y);obtain⟨k,b,e,t,_⟩:=hv p.1 q2;refine⟨b,by show p.2=_;rw[<-q1];exact e,?_⟩;show TK prog w s.heap (q7 prog w s.heap p.1) b;rw[e,iA t];exact t
   .have q:=Z.map (·.2);rw[List.map_snd_zip (i3 _)]at q;exact q
   .have q:=Z.map λp=>q7 prog w s.heap p.1;have e2:(vs.zip vs).map (λp=>q7 prog w s.heap p.1)=z:=by
     rw[<-W]
     have:(vs.zip vs).map (λp=>q7 prog w s.heap p.1)=((vs.zip vs).map Prod.fst).map (q7 prog w s.heap):=by rw[zi];rfl
     rw[this,List.map_fst_zip (i3 _)]
    rw[e2]at q;exact q
   .delta Gc;rw[G6,G1];intro i j y hj as;have a5:i<(arrOf g).size:=by simpa using y
    have ab:j<(arrOf g).size:=by simpa using hj
    have q:=hs i j (vl _) (Fh as) (by rw[<-S.size_eq];exact ab);rw[aU (getElem?_pos _ i a5),aU (getElem?_pos _ j ab)]at q;have m1:=(B (arrOf g)[i] (by simp)).2;have m2:=(B (arrOf g)[j] (by simp)).2;have q':bZ (q7 prog w (((s.heap.update a (Obj.mapSeq λ_=>(#[]:Array Value))).push (seqObj "tuple" vs.toArray 0)).push (seqObj "list" #[] 0)) (arrOf g)[j].1)
     (q7 prog w (((s.heap.update a (Obj.mapSeq λ_=>(#[]:Array Value))).push (seqObj "tuple" vs.toArray 0)).push (seqObj "list" #[] 0)) (arrOf g)[i].1)=T:=q
    rw[M _ m1,M _ m2]at q';simpa using q'
def gj(i:h.get? a=J (seqObj "list" vs.toArray n))(e:Array Value):∃c,(sortedHeap h a vs e).get? a=J (seqObj "list" e c):=by obtain⟨e1,g⟩:∃e1,(h.update a (Obj.mapSeq λ_=>(#[]:Array Value))).get? a=J (seqObj "list" #[] e1):=⟨_,get?_update_seq i λ_=>#[]⟩;exact⟨_,get?_update_seq (ls _ (ls _ g)) λ_=>e⟩
def fE(g:b≠a)(i:h.get? b=J o)(e:Array Value):(sortedHeap h a vs e).get? b=J o:=by unfold sortedHeap;rw[Lc _ _ _ _ g];exact ls _ (ls _ ((Lc _ _ _ _ g).trans i))
structure Told(prog:Program)(w:World)(R:Value->Prop)(H0 h h':Heap)(l:Addr)(ks:R7)(out:SQ)(ks':R7):Prop where
 ext:Df h h'
 fresh:h.get? l=Y
 size:h.objs.size<=l
 at':∃c,h'.get? l=J (seqObj "list" out.toArray c)
 lie:ET prog w H0 out.toArray ks'
 perm:ks'.Perm ks
 ris:Gc ks'
 mem:∀v∈out,R v
def tL(hx:Df H0 s.heap)(an:∀k∈ks,k≠[])(ab:ks.length<=66)(hc:wpAny (model prog w) A.in1 (collect v) (λj s1=>∃G B g,s1={ s with heap:=G,toks:=B}/\Df s.heap G/\s.heap.objs.size<G.objs.size/\s.toks<=B/\ET prog w H0 (List.toArray j) g/\g.Perm ks/\∀v∈j,R v) E s)(h:∀G B l y F,Told prog w R H0 s.heap G l ks y F->s.toks<=B->Q (.ref l) { s with heap:=G,toks:=B}):
  wpAny (model prog w) A (call (.builtin "sorted") [v]) Q E s:=by
 refine Calls.call_function_entry kind_sorted plain_sorted entry_sorted (args_sorted1 _) ?_;refine d_ (il ?_);refine d_ (wpAny_mono hc (λj s1 W=>?_) λ_ _ e=>e);obtain⟨z,B,g,rfl,O,U,Z,a,p1,hR⟩:=W;have P:j.length=g.length:=by have:=a.1;simpa using this
 have M:j.length<=66:=by rw[P,p1.length_eq];exact ab
 refine d_ (wpAny_newList ?_ (by rw[sizeLine_eq];lia));have C:(z.push (seqObj "list" j.toArray 0)).get? z.objs.size=J (seqObj "list" j.toArray 0):=q0 _ rfl;have up:∀b o,z.get? b=J o->(z.push (seqObj "list" j.toArray 0)).get? b=J o:=λb o e=>ls _ e;have H:ET prog w (z.push (seqObj "list" j.toArray 0)) j.toArray g:=⟨a.1,λi u k X S=>let⟨b,e,t⟩:=a.2 i u k X S;⟨b,e,mL (λc o ho=>up c o (O c o (hx c o ho))) t⟩⟩
 refine d_ (wpAny_holding (wpAny_call_entry slot_list_sort ⟨_,C,rfl⟩ entry_list_sort
  (Bk C H (λk S=>an k (p1.mem_iff.mp S)) M λy F l2 pv p2 r2=>⟨_,rfl,?_⟩) (args_list_sort _)))
 refine il ⟨_,rfl,?_⟩;have r:s.heap.get? z.objs.size=Y:=by
  cases e:s.heap.get? z.objs.size with
  |none=>rfl
  |some o=>exact absurd (ml (O _ _ e)) (DH _)
 refine h _ B z.objs.size y F ⟨λb o e=>?_,r,Fh U,gj C _,⟨l2.1,λi u k X S=>?_⟩,p2.trans p1,r2,λv hv=>hR v (pv.mem_iff.mp hv)⟩ Z
 .have hb:=qp (ml (O b o e));exact fE hb (up b o (O b o e)) _
 .obtain⟨b,e,t⟩:=l2.2 i u k X S;have ap:y[i]?=J u:=by simpa using X
  have L:=pv.mem_iff.mp (Dm ap);obtain⟨q,W⟩:=C6.mp L;obtain⟨k1,al⟩:∃k1,g[q]?=J k1:=⟨_,C5 (by have:=(mw.mp W).1;lia)⟩;obtain⟨b1,e1,t1⟩:=a.2 q u k1 (by simpa using W) al;rw[e]at e1;cases e1;have t2:=mL (λc o ho=>up c o (O c o (hx c o ho))) t1
  have:=IsTupleKey.inj t t2
  subst this;exact⟨b,e,t1⟩
def yQ(C:A.handled=Y)(y:dW prog w (PB H0 R) s.heap S (bg w) u)(B:Df H0 s.heap)(t:∀k∈u,k≠[])(o:u.length<=66)(h:∀j i l r g,Told prog w (λv=>∃a,v=.ref a/\R a) H0 s.heap j l u r g->s.toks<=i->Q (.ref l) { s with heap:=j,toks:=i}):
  wpAny (model prog w) A (call (.builtin "sorted") [.ref S]) Q E s :=
 tL B t o (wG (by simpa using C) y B λj i F g a z b c e d=>⟨j,i,g,rfl,a,z,b,c,d,e⟩) h
def wK{l:Addr}{g:SQ}{a:R7}{Q:SA}(F:s.heap.IsList l g.toArray)(C:ET prog w s.heap g.toArray a)(r:∀k∈a,k≠[])(i:a.length<=66)(h:∀z y l j u,Told prog w (·∈g) s.heap s.heap z l a j u->s.toks<=y->Q (.ref l) { s with heap:=z,toks:=y}):
  wpAny (model prog w) A (call (.builtin "sorted") [.ref l]) Q E s:=by
 have B:g.length=a.length:=by have:=C.1;simpa using this
 refine tL (λb o e=>e) r i (collect_list F ⟨_,s.toks,a,rfl,λb o e=>?_,by rw[Heap.size_update,size_push'];exact HQ _,i3 _,C,List.Perm.refl _,λv hv=>hv⟩ (by rw[sizeLine_eq];lia)) h;have t:=ml e;rw[Lc _ _ _ _ (qp t)];exact ls _ e
end
end SortT
namespace MM
open PySem.Spec PyProof.Rows L2 SetT SortT
def jc:R4->Option (R6)
 |[]=>J []
 |.int i::r=>(jc r).map (i::·)
 |_=>Y
def N8:PV->Option (R6)
 |.tup xs=>jc xs
 |_=>Y
def iM:R4->Option (R7)
 |[]=>J []
 |x::r=>(match N8 x,iM r with
  |some k,J a=>J (k::a)
  |_,_=>Y)
def kP(k:R6):PV:=.tup (k.map .int)
def cU(l:R7):R7:=l.mergeSort λx y=>!bZ y x
def eJ(l:R7):(cU l).Perm l:=List.mergeSort_perm _ _
def kN(l:R7):Gc (cU l):=by
 have:=Qz (le:=λx y=>!bZ y x) (λa b c e g=>by
   simp only[G4]at e g ⊢
   exact KeyOrd.kle_trans (O:=Gb) e g) (λa b=>by
   cases h:bZ b a with
   |false=>simp
   |true =>
    have:bZ a b=T:=KeyOrd.klt_asymm (O:=Gb) h
    simp[this])
 delta Gc cU
 simp_all
def pM(e:Gc l)(g:Gc m)(p:l.Perm m):l=m :=
 List.Perm.eq_of_pairwise (λa b _ _ x y=>lb a b y x) e g p
def vD:∀{xs:R4}{k:R6},jc xs=J k->xs=k.map .int
 |[],k,h=>by cases h;rfl
 |x::r,k,h=>by
  cases x with
  |int i =>
   unfold jc at h
   cases a:jc r with
   |none=>rw[a]at h;cases h
   |some e =>
    rw[a]at h;cases h;rw[vD a];rfl
  |_=>cases h
def JM(h:N8 x=J k):x=kP k:=by
 cases x with
 |tup xs=>delta kP;rw[vD (show jc xs=J k from h)]
 |_=>cases h
def sk:∀{xs:R4}{e:R7},iM xs=J e->xs=e.map kP
 |[],e,h=>by cases h;rfl
 |x::r,e,h=>by
  unfold iM at h
  cases a:N8 x with
  |none=>rw[a]at h;cases h
  |some k =>
   cases g:iM r with
   |none=>rw[a,g]at h;cases h
   |some i =>
    rw[a,g]at h;cases h;rw[JM a,sk g];rfl
def Ge(K:ij)(H:Hp)(ys:List V)(e:R7):Prop :=
 ys.length=e.length/\∀(i:Nat)(y:V)(k:R6),ys[i]?=J y->e[i]?=J k->∃a,y=.ref a/\SqT K H a (k.map V.int)
def Ec{K:ij}{U:SM}{H:Hp}:∀{k:R6}{ys:List V},RPs K U H (k.map PV.int) ys->ys=k.map V.int
 |[],ys,h=>by cases h;rfl
 |i::k,ys,h=>by
  cases h with
  |cons r t =>
   cases r;rw[Ec t];rfl
def rY{K:ij}{U:SM}{H:Hp}:∀{a:R7}{ys:List V},RPs K U H (a.map kP) ys->Ge K H ys a
 |[],ys,h=>by cases h;exact⟨rfl,λi y k e=>by simp at e⟩
 |k::a,ys,h=>by
  cases h with
  |cons r t =>
   obtain⟨l,g⟩:=rY t;refine⟨by simp[l],λi y o e1 e2=>?_⟩
   cases i with
   |zero =>
    simp at e1 e2;subst e1;subst e2
    cases r with
    |tup j s =>
     rw[Ec s]at j;exact⟨_,rfl,j⟩
   |succ i=>exact g i y o (by simpa using e1) (by simpa using e2)
def rC{K:ij}{U:SM}{H:Hp}:∀{e:R7}{ys:List V},Ge K H ys e->RPs K U H (e.map kP) ys
 |[],ys,h=>by
  have:=K6.mp (by have:=h.1;simpa using this)
  subst this;exact .nil
 |k::e,ys,h=>by
  cases ys with
  |nil=>have:=h.1;simp at this
  |cons y ys =>
   obtain⟨a,rfl,l⟩:=h.2 0 y k rfl rfl;refine .cons (.tup l (RPs.ints k)) (rC ⟨by have:=h.1;simpa using this,λi j g e1 e2=>h.2 (i+1) j g (by simpa using e1) (by simpa using e2)⟩)
def qG:∀{k:R6}{a:SQ},aI (k.map V.int) a->ItemsAre (intKind prog w) k a
 |[],_,h=>by cases h;exact .nil
 |i::k,_,h=>by
  cases h with
  |cons r t =>
   obtain⟨e,rfl⟩:=r;exact .cons (intKind_is _ _ _ _) (qG t)
section
variable{X:Cx}{Kt:List (Addr × Obj)}{Z:L2.St}{H:Hp}{s:Shared}
def qB(g:Inv X Kt Z H s)(h:SqT X.K H a (k.map V.int)):TK X.prog X.w s.heap k a:=by obtain⟨e,j,⟨o,l,i,n,hd⟩,_⟩:=g.tuple h;exact⟨o,e.toArray,n,l,i,hd,by simpa using qG j⟩
def xQ(g:Inv X Kt Z H s)(h:Ge X.K H ys ks)(o:aI ys its):ET X.prog X.w s.heap its.toArray ks:=by
 refine⟨by simp[<-o.length,h.1],λi v k hv l=>?_⟩;have t:i<ys.length:=by rw[h.1];exact(mw.mp l).1
 obtain⟨a,e,r⟩:=h.2 i ys[i] k (by simp) l;obtain⟨u,y,j⟩:=o.get (show ys[i]?=J ys[i] by simp)
 have:v=u:=by simp_all
 subst this;rw[e]at j;exact⟨a,j,qB g r⟩
end
def Ho(prog:Program)(w:World)(S:Addr)(e:List (R6×Addr))(h:Heap):Prop :=
 ∃o a g t,h.get? S=J o/\o.ExactSet/\o.data=.set a g t/\t.dummies=#[]/\(t.mask=7\/t.mask=31\/t.mask=127)/\t.plain=I/\t.led=bg w /\
  WF t.mask t.place (a.map (·.1))/\nN t a.size/\a.toList=e.map λp=>(TH prog w p.1,Value.ref p.2)
def JN(j:dW prog w P h S (bg w) ks):
  ∃r,Ho prog w S r h/\(r.map (·.1)).Perm ks/\∀p∈r,TK prog w h p.1 p.2/\P p.2:=by
 obtain⟨o,L,U,t,E,j,W,C,O⟩:=j;have key:∀(l:List (Int×Value))(s:R7),l.length=s.length->(∀(i:Nat)(e:Int×Value)(k:R6),l[i]?=J e->s[i]?=J k->∃a,e.2=.ref a/\TK prog w h k a/\e.1=TH prog w k/\P a) ->
   ∃r:List (R6×Addr),l=r.map (λp=>(TH prog w p.1,Value.ref p.2))/\r.map (·.1)=s/\∀p∈r,TK prog w h p.1 p.2/\P p.2:=by
  intro l
  induction l with
  |nil =>
   intro s y _
   have:=K6.mp (by simpa using y.symm)
   subst this;exact⟨[],rfl,rfl,λp u=>by cases u⟩
  |cons e l Q =>
   intro s y g
   cases s with
   |nil=>simp at y
   |cons k s =>
    obtain⟨a,e1,e2,e3,e4⟩:=g 0 e k rfl rfl;obtain⟨r,H,z,B⟩:=Q s (by simpa using y) λi R M F G=>g (i+1) R M (by simpa using F) (by simpa using G);refine⟨(k,a)::r,?_,by simp[z],λp u=>?_⟩
    .congr 1;obtain⟨Z,X⟩:=e;simp only at e1 e3;rw[e1,e3]
    .rcases nk.mp u with rfl|u
     .exact⟨e2,e4⟩
     .exact B p u
 obtain⟨r,H,z,B⟩:=key L.toList E (by exact j.ents.1) λi e k F G=>j.ents.2 i e k (by rw[<-BC];exact F) G;exact⟨r,⟨o,L,U,t,j.get,j.ex,j.data,j.dm,j.mask,j.plain,j.led',j.wf,W,H⟩,by rw[z];exact C,B⟩
def Gf(p:Ho prog w S g h)(Q:∀q∈g,TK prog w h q.1 q.2)(s:(g.map (·.1)).Nodup):
  dW prog w (PB h λa=>∃k,(k,a)∈g) h S (bg w) (g.map (·.1)):=by
 obtain⟨o,W,U,t,L,M,E,F,G,C,P,R,O,j⟩:=p;refine⟨o,W,U,t,g.map (·.1),⟨L,M,E,F,G,C,P,R,?_,λi e k l y=>?_⟩,O,List.Perm.refl _,s⟩
 .rw[<-z_,j];simp
 .rw[<-BC,j,yT]at l;rw[yT]at y
  cases u:g[i]? with
  |none=>rw[u]at l;cases l
  |some q =>
   rw[u]at l y;cases l;cases y;have B:=Dm u;have z:=Q q B;exact⟨q.2,rfl,z,rfl,let⟨H,_,_,r,_⟩:=z;⟨H,r⟩,q.1,B⟩
def yJ(p:Ho prog w S al h1)(k:∀o,h1.get? S=J o->h2.get? S=J o):Ho prog w S al h2:=by obtain⟨o,g,e,t,a,r⟩:=p;exact⟨o,g,e,t,k o a,r⟩
section
variable{X:Cx}{N W G:R5}{k:Nat}
def At(hh:X.calm=I)(hr:Room k X.A):ce X (.type "set") (λxs H Q=>∃l ys y,xs=[.ref l]/\SqL X.K H l ys/\Ge X.K H ys y/\(n_ y).length<=66 /\
  ∀S j,H S=Y->(j.map (·.1)).Perm (n_ y)->(∀p∈j,SqT X.K H p.2 (p.1.map V.int))->Q (.ref S) (k_ H S (.ext (Ho X.prog X.w S j)))):=by
 intro Kt s Z H xs us Q g r ⟨l,ys,y,e,hq,F,E,q⟩;subst e;obtain⟨u,rfl,rx⟩:=eN r;cases rx;obtain⟨C,M,pl,hz⟩:=g.list hq;have lie:=xQ g F M;refine t8 (g.ok.hd hh) (by have:=hr.units;lia) pl.isList lie E λh' tk L x an=>?_;obtain⟨j,sp,pm,P⟩:=JN L;have R:=g.hok.fresh (i3 s.heap.objs.size);obtain⟨o,es,ep,t,ho,ab⟩:=id sp;refine⟨.ref s.heap.objs.size,_,g.laid (o:=.ext (Ho X.prog X.w s.heap.objs.size j)) x (i3 _) ⟨sp,⟨o,ho⟩,λh1 h2 a b=>yJ a b⟩,rfl,q _ j R pm λp hp=>?_⟩;obtain⟨t1,⟨_,hm⟩⟩:=P p hp;obtain⟨i,hi⟩:=C6.mp hm;have z:C[i]?=J (.ref p.2):=by simpa using hi
 have O:=(mw.mp z).1;have B:i<ys.length:=by rw[M.length];exact O
 have U:i<y.length:=by rw[<-F.1];exact B
 obtain⟨a,e,s1⟩:=F.2 i ys[i] y[i] (by simp) (by simp);obtain⟨u,eu,ru⟩:=M.get (show ys[i]?=J ys[i] by simp);rw[z]at eu;cases eu;rw[e]at ru;have ea:p.2=a:=by cases ru;rfl
 have t2:=mL x (qB g s1);rw[<-ea]at t2
 have:=IsTupleKey.inj t1 t2
 rw[this,ea];exact s1
def yc{Kt:SS}{s:Shared}{Z:L2.St}{H:Hp}{Q:VK}{R:Value->Prop}{h':Heap}{tk:Nat}{l:Addr}{P L:R7}{z:SQ}(F:Inv X Kt Z H s)(j:Told X.prog X.w R s.heap s.heap h' l P z L)(hR:∀v,R v->∃(a:Addr)(k:R6),v=.ref a/\SqT X.K H a (k.map V.int))(hz:P.length<=66)(q:∀l ys,H l=Y->Ge X.K H ys (cU P)->Q (.ref l) (k_ H l (.lst ys))):EP X Kt Z Q (.ref l) { s with heap:=h',toks:=tk}:=by
 have O:=j.size;have M:=pM j.ris (kN P) (j.perm.trans (eJ P).symm);obtain⟨c,hc⟩:=j.at';have B:z.length=L.length:=by have:=j.lie.1;simpa using this
 have C:∀v∈z,∃a,v=.ref a:=λv hv=>let⟨a,_,e,_⟩:=hR v (j.mem v hv);⟨a,e⟩;obtain⟨ys,rv,E⟩:∃ys:List V,aI ys z/\∀y∈ys,∃a,y=.ref a/\Value.ref a∈z:=by
  clear B j hR M hc
  induction z with
  |nil=>exact⟨[],.nil,λy E=>by cases E⟩
  |cons v z ih =>
   obtain⟨a,rfl⟩:=C v BD;obtain⟨ys,r,g⟩:=ih (λu hu=>C u (oh _ hu));refine⟨.ref a::ys,.cons rfl r,λy E=>?_⟩;rcases nk.mp E with rfl|E
   .exact⟨a,rfl,BD⟩
   .obtain⟨b,e,m⟩:=g y E;exact⟨b,e,oh _ m⟩
 have S:Ge X.K H ys L:=by
  refine⟨by rw[rv.length,B],λi y k U hk=>?_⟩;obtain⟨u,eu,ru⟩:=rv.get U;obtain⟨a,e,m⟩:=E y (Dm U);subst e;cases ru;obtain⟨b,k2,e2,s1⟩:=hR _ (j.mem _ m);cases e2;obtain⟨b2,e3,t⟩:=j.lie.2 i (.ref a) k (by simpa using eu) hk;cases e3
  have:=IsTupleKey.inj t (qB F s1)
  subst this;exact⟨a,rfl,s1⟩
 have ab:=F.hok.fresh O;refine⟨.ref l,_,F.laid (o:=.lst ys) j.ext O (⟨?_,z,c,rv,hc⟩),rfl,q l ys ab (by rw[<-M];exact S)⟩;rw[rv.length,B,j.perm.length_eq,sizeLine_eq];lia
def vm(F:X.calm=I):ce X (.builtin "sorted") (λxs H Q=>∃S i,xs=[.ref S]/\H S=J (.ext (Ho X.prog X.w S i))/\(∀p∈i,SqT X.K H p.2 (p.1.map V.int))/\(i.map (·.1)).Nodup/\(∀p∈i,p.1≠[])/\i.length<=66 /\
  ∀l ys,H l=Y->Ge X.K H ys (cU (i.map (·.1)))->Q (.ref l) (k_ H l (.lst ys))):=by
 intro Kt s Z H xs us Q g r ⟨S,i,e,O,j,B,y,C,q⟩;subst e;obtain⟨u,rfl,R⟩:=eN r;cases R;obtain⟨L,_,_⟩:=(g.hok S _ O);have t:=Gf L (λp z=>qB g (j p z)) B;refine yQ (g.ok.hd F) t (λb o e=>e) (λk hk=>?_) (by simpa using C) λh' tk l M ab P E=>?_
 .obtain⟨p,z,rfl⟩:=mx.mp hk;exact y p z
 .refine yc g P (λv ⟨a,e,k,U⟩=>⟨a,k,e,j (k,a) U⟩) (by simpa using C) q
def uZ:ce X (.builtin "sorted") (λxs H Q=>∃l ys j,xs=[.ref l]/\SqL X.K H l ys/\Ge X.K H ys j/\(∀k∈j,k≠[])/\j.length<=66 /\
  ∀y o,H y=Y->Ge X.K H o (cU j)->Q (.ref y) (k_ H y (.lst o))):=by
 intro Kt s Z H xs us Q g r ⟨l,ys,j,e,U,z,C,M,q⟩;subst e;obtain⟨u,rfl,rx⟩:=eN r;cases rx;obtain⟨R,B,pl,an⟩:=g.list U;refine wK pl.isList (xQ g z B) C M λh' tk y ab al td S=>?_;refine yc g td (λv hv=>?_) M q;obtain⟨i,L⟩:=C6.mp hv;have E:=(mw.mp L).1;have t:i<ys.length:=by rw[B.length];exact E
 have F:i<j.length:=by rw[<-z.1];exact t
 obtain⟨a,e,s1⟩:=z.2 i ys[i] j[i] (by simp) (by simp);obtain⟨u,P,O⟩:=B.get (show ys[i]?=J ys[i] by simp);rw[L]at P;cases P;rw[e]at O;exact⟨a,_,O,s1⟩
def dj(h:MH):PV->Option (R4)
 |.frl xs=>J xs
 |.loc n=>(match h[n]? with
  |some (.lst xs)=>J xs
  |_=>Y)
 |_=>Y
def rT{U:SM}{H:Hp}{h:MH}{x:PV}{y:V}{xs:R4}{K:ij}{mg:Dx}(t:RH K mg U H h)(r:RP K U H x y)(e:dj h x=J xs):∃a g,y=.ref a/\SqL K H a g/\RPs K U H xs g:=by
 cases r with
 |frl s r=>cases e;exact⟨_,_,rfl,s.sq,r⟩
 |@loc n a z =>
  obtain⟨o,l,u⟩:=t.obj z;unfold dj at e;dsimp only at e;rw[l]at e
  cases o with
  |lst g =>
   cases e;obtain⟨ys,i,j⟩:=u;exact⟨a,ys,rfl,SqL.of i,j⟩
  |_=>cases e
 |_=>cases e
def QY(m:Mx (R4)):Mx PV:=λZ h=>(m Z h).bind λg a=>match g with
 |[x]=>(match (dj a x).bind iM with
  |some e=>if(∀k∈e,k≠[])/\(n_ e).length<=66 then .ok (.loc a.length) (a++[.lst ((cU (n_ e)).map kP)])else .bad
  |none=>.bad)
 |_=>.bad
def mZ(l:R7):(n_ l).Nodup:=by
 have key:∀(m:R7)(a:R7),a.Nodup->(m.foldl SetT.fA a).Nodup:=by
  intro m
  induction m with
  |nil=>intro a h;exact h
  |cons k m j =>
   intro a h;refine j _ ?_;delta SetT.fA;split
   .exact h
   .rename_i g
    rw[G3];refine⟨h,by simp,λx i y e=>?_⟩
    have:y=k:=by simpa using e
    subst this;rintro rfl;exact g i
 exact key l [] NH
def zk(p:l.Perm m):cU l=cU m:=pM (kN l) (kN m) ((eJ l).trans (p.trans (eJ m).symm))
def vP(g:Good X N W G k){a:Expr}{m:Mx (R4)}{i j:Nat}{p P F r:Pos}(hi:G[i]?=J "sorted")(hm:X.mg "sorted"=Y)(hj:G[j]?=J "set")(ab:X.mg "set"=Y)(ha:MA X [a] m)(hs:starEach [a] X.env=[(T,eval a X.env)]:=by rfl)(he:starEach [.Call (.Name "set" P) [a] [] r] X.env=[(T,eval (.Call (.Name "set" P) [a] [] r) X.env)]:=by rfl):
  ME X (.Call (.Name "sorted" p) [.Call (.Name "set" P) [a] [] r] [] F) (QY m):=by
 have d:=g.dbg _ (n4 _ (aA hi));have d':=g.dbg _ (n4 _ (aA hj));refine PE.imp (eG (vm g.calm) (g.gl _ (aA hi)) hm PyProof.Rows.Boot.«sorted» (bS (jD (At g.calm g.room) (g.gl _ (aA hj)) ab PyProof.Rows.Boot.«set» ha d'.2.2 d'.1 hs rfl) d7 he) d.2.2 d.1 he rfl) λZ H Q ⟨U,O,h,rs,rh,q⟩=>?_;refine⟨U,O,h,rs,rh,Ful.bind q λU1 H1 x x' h1 ex l1 s rx e=>?_⟩
 cases rx with
 |nil=>exact e.elim
 |@cons y y' _ _ r1 t1 =>
  cases t1 with
  |cons _ _=>exact e.elim
  |nil =>
   dsimp only at e
   cases E:dj h1 y with
   |none=>rw[E]at e;exact e.elim
   |some xs =>
    rw[E]at e
    cases hk:iM xs with
    |none=>simp only[Ej,hk]at e;exact e.elim
    |some t =>
     simp only[Ej,hk]at e;by_cases z:(∀k∈t,k≠[])/\(n_ t).length<=66
     .rw[c_ z]at e;obtain⟨la,zs,rfl,L,u⟩:=rT s r1 E;rw[sk hk]at u;refine⟨la,zs,t,rfl,L,rY u,z.2,λS al hS pm B=>?_⟩;obtain⟨C,l2⟩:=s.loose hS (.ext (Ho X.prog X.w S al));refine⟨S,al,rfl,bI,λp R=>l2.sqt (B p R),pm.nodup_iff.mpr (mZ t),λp R=>?_,?_,λl ys an tk=>?_⟩
      .have:p.1∈n_ t:=pm.mem_iff.mp (mx.mpr ⟨p,R,rfl⟩)
       exact z.1 p.1 ((j0 _ _).mp this)
      .have:=pm.length_eq
       rw[tu]at this;rw[this];exact z.2
      .rw[zk pm]at tk;obtain⟨M,l3⟩:=C.new an (o:=.lst ((cU (n_ t)).map kP)) (ho:=.lst ys) ⟨_,rfl,rC tk⟩;exact e _ _ _ (l2.trans l3) M (.loc (by rw[<-s.len];simp))
     .rw[f_ z]at e;exact e.elim
end
end MM
namespace SeqT
abbrev E_(tp:Bool):String:=if tp then "tuple_iterator" else "list_iterator"
abbrev QZ(tp:Bool):String:=if tp then "tuple" else "list"
def SqI(e:Bool)(h:Heap)(g a:Addr)(i:Nat):Prop:=∃o,h.get? g=J o/\o.cls=.type (E_ e)/\o.data=.fields #[.ref a,.int i 0]
def SqO(e:Bool)(h:Heap)(a:Addr)(xs:Array Value):Prop:=∃o,h.get? a=J o/\o.cls=.type (QZ e)/\∃n,o.data=.seq xs n
def SqI.at'(x:SqI tp h it a i)(k:∀o,h.get? it=J o->h'.get? it=J o):SqI tp h' it a i:=let⟨o,e,r⟩:=x;⟨o,k o e,r⟩
def SqO.at'(x:SqO tp h a xs)(k:∀o,h.get? a=J o->h'.get? a=J o):SqO tp h' a xs:=let⟨o,e,r⟩:=x;⟨o,k o e,r⟩
def SqI.lt(x:SqI tp h it a i):it<h.objs.size:=let⟨_,e,_⟩:=x;ml e
section
variable{prog:Program}{w:World}{A:Around}{E:SA}{s:Shared}
def jf(B:SqI tp s.heap it a i)(y:SqO tp s.heap a xs)(u:xs[i]?=J x)(r:∀j,SqI tp j it a (i+1)->Heap.SameBut it s.heap j->Q x { s with heap:=j}):wpAny (model prog w) A (Builtin.SmallTypes.nextOf (.ref it)) Q E s:=by
 cases tp with
 |false=>exact wpAny_nextOf_list_item (B) (y) u r
 |true =>
  obtain⟨o,e,t,hd⟩:=id B;obtain⟨G,l,_,C,g⟩:=y;have z:s.TypeIs (.ref it) "tuple_iterator":=⟨o,e,t⟩;refine d_ (wpAny_callSpecial?_slot z F.slot_tuple_iterator_next (wpAny_call_entry F.slot_tuple_iterator_next z F.entry_tuple_iterator_next ?_ (F.args_tuple_iterator_next_1 _)));show wpAny _ _ (field (.ref it) 0 >>= _) _ _ s;refine d_ (wpAny_field e hd rfl ?_);refine d_ (wpAny_field e hd rfl ?_);refine d_ (wpAny_seqItems l g ?_);simp only[Dn,u];refine d_ (wpAny_setField e hd (by simp) (il ⟨x,rfl,il (r _ ?_ (Heap.SameBut.update ..))⟩));exact⟨_,K_ _ e (Obj.isFreed_of_fields (Obj.data_mapFields hd _)),(Obj.cls_mapFields ..).trans t,by rw[Obj.data_mapFields hd];simp[rawInt]⟩
def k7(t:A.handled=Y)(B:SqI tp s.heap it a i)(y:SqO tp s.heap a xs)(u:xs[i]?=Y)(r:∀j e,Heap.ExtBut it s.heap j->(∃o,j.get? e=J o/\o.cls=.type "StopIteration")->E (.ref e) { s with heap:=j}):wpAny (model prog w) A (Builtin.SmallTypes.nextOf (.ref it)) Q E s:=by
 cases tp with
 |false=>exact wpAny_nextOf_list_end t (B) (y) u r
 |true =>
  obtain⟨o,e,C,hd⟩:=id B;obtain⟨H,l,_,G,g⟩:=y;have z:s.TypeIs (.ref it) "tuple_iterator":=⟨o,e,C⟩;refine d_ (wpAny_callSpecial?_slot z F.slot_tuple_iterator_next (wpAny_call_entry F.slot_tuple_iterator_next z F.entry_tuple_iterator_next ?_ (F.args_tuple_iterator_next_1 _)));show wpAny _ _ (field (.ref it) 0 >>= _) _ _ s;refine d_ (wpAny_field e hd rfl ?_);refine d_ (wpAny_field e hd rfl ?_);refine d_ (wpAny_seqItems l g ?_);simp only[Dn,u];refine d_ (wpAny_rule (d_ (wpAny_setField e hd (by simp) ?_)));refine d_ ?_;refine d_ (m:=firstArgMember _ _) (wpAny_of_eq (by first | rfl | (simp only)) ?_);refine wpAny_newObj_type ?_ (by size_fits);refine d_ (wpAny_handled ?_);rw[show A.in1.handled=Y from t];refine d_ (il (wpAny_throw ?_));exact r _ _ (((Heap.SameBut.update ..).extBut.push _).push _) ⟨_,q0 _ rfl,rfl⟩
def kh(e:SqO tp s.heap a xs)(g:Q (.ref s.heap.objs.size) { s with heap:=s.heap.push { cls:=.type (E_ tp),data:=.fields #[.ref a,.int 0 0]}}):wpAny (model prog w) A (pyIter (.ref a)) Q E s:=by
 cases tp with
 |false=>exact wpAny_pyIter_list (e) g
 |true=>exact wpAny_pyIter_tuple (e) g
end
def MF(z:A.handled=Y)(t:Bool)(g a:Addr)(r:a≠g)(xs:Array Value):
  Draws prog w A g [g,a] xs.size (λi v=>xs[i]?=J v) (λi h=>SqI t h g a i/\SqO t h a xs) where
 live:=λ_ _ st=>let⟨o,B,_⟩:=st.1;⟨o,B⟩
 frame:=λ_ _ _ st u=>⟨st.1.at' λo e=>u g (by simp) o e,st.2.at' λo e=>u a (by simp) o e⟩
 item:=λi s Q E G st y=>by
  refine jf st.1 st.2 (x:=xs[i]) (by simp) λC j l=>?_;exact y _ C s.toks (by simp) ⟨j,st.2.at' λo e=>(l.2 a r).trans e⟩ l
 done:=λs Q E st F=>k7 z st.1 st.2 (by simp) F
def Cc(i:Bool)(a:Addr)(xs:Array Value)(n:Nat)(j:Option Addr)(sl:Array (SU)):
  Meets (Builtin.«enumerate.__new__» ⟨[.type "enumerate",.ref a],[]⟩) (λ_ R s=>s.heap.get? a=J { cls:=.type (QZ i),dict:=j,data:=.seq xs n,slots:=sl} /\
   R (.ok (.ret (.ref (s.heap.push { cls:=.type (E_ i),data:=.fields #[.ref a,.int 0 0]}).objs.size)))
    { s with heap:=(s.heap.push { cls:=.type (E_ i),data:=.fields #[.ref a,.int 0 0]}).push { cls:=.type "enumerate",data:=.fields #[.none,.bool T,.ref s.heap.objs.size,rawInt 0,.none,.none]}}) :=
 .of_wp λprog w A R s h=>by
  obtain⟨r,g,d,o,os⟩:=s;obtain⟨e,h⟩:=h;have l:=sub_enumerate;have hL:SqO i (Shared.heap ⟨r,g,d,o,os⟩) a xs:=⟨_,e,rfl,n,rfl⟩
  wp_walk using AutoSeq1.wpAny_loadPart' e
  refine wpAny_stack_any λst=>il ?_;split
  .rename_i c _ _ _ _ _
   cases(c==Value.type "enumerate")
   .wp_walk using AutoSeq1.wpAny_loadPart' e,kh hL
    exact⟨_,rfl,h⟩
   .wp_walk using AutoSeq1.wpAny_loadPart' e,kh hL
    exact⟨_,rfl,h⟩
  .wp_walk using AutoSeq1.wpAny_loadPart' e,kh hL
   exact⟨_,rfl,h⟩
section
variable{prog:Program}{w:World}{A:Around}{E:SA}{s:Shared}
def AV(hL:SqO tp s.heap a xs)(h:∀e,IsEnum e (s.heap.objs.size+1) s.heap.objs.size 0 .none->SqI tp e s.heap.objs.size a 0->e.objs.size=s.heap.objs.size+2 ->
   (∀b o,s.heap.get? b=J o->e.get? b=J o)->Q (.ref (s.heap.objs.size+1)) { s with heap:=e}):
  wpAny (model prog w) A (call (.type "enumerate") [.ref a]) Q E s:=by
 obtain⟨⟨c,i,t,sl⟩,l,r,n,hd⟩:=hL;subst r hd;refine callType_new F.called_enumerate (by decide) (F.typeCall_enumerate_1 _) (F.newCall_enumerate_1 _) (λobj=>F.args_object_init_2 obj _) F.entry_enumerate_new (Cc tp a xs n i sl) ⟨l,?_⟩;have g:(s.heap.push { cls:=.type (E_ tp),data:=.fields #[.ref a,.int 0 0]}).objs.size=s.heap.objs.size+1:=DP ..;rw[g]
 have j:IsEnum ((s.heap.push { cls:=.type (E_ tp),data:=.fields #[.ref a,.int 0 0]}).push
   { cls:=.type "enumerate",data:=.fields #[.none,.bool T,.ref s.heap.objs.size,rawInt 0,.none,.none]}) (s.heap.objs.size+1) s.heap.objs.size 0 .none:=by
  have:=q0 (s.heap.push { cls:=.type (E_ tp),data:=.fields #[.ref a,.int 0 0]})
   (o:={ cls:=.type "enumerate",data:=.fields #[.none,.bool T,.ref s.heap.objs.size,rawInt 0,.none,.none]}) rfl
  rw[g]at this;exact this
 exact⟨⟨_,j,rfl⟩,h _ j ⟨_,ls _ (q0 _ rfl),rfl,rfl⟩ (by rw[DP,g]) λb o x=>ls _ (ls _ x)⟩
end
section
variable{prog:Program}{w:World}{A:Around}{E:SA}{s:Shared}{z TI TO i1 i2 l1 l2:Addr}{t1 t2:Bool}{k1 k2:Nat}{xs ys:Array Value}
def zR{x y a b:Value}{Q:SA}(D:ZipApart z TI TO i1 i2 l1 l2)(P:IsZip s.heap z TI TO .none)(ay:IsPair s.heap TI (.ref i1) (.ref i2))(ax:IsPair s.heap TO a b)(h1:SqI t1 s.heap i1 l1 k1)(h2:SqI t2 s.heap i2 l2 k2)(a2:SqO t1 s.heap l1 xs)(a3:SqO t2 s.heap l2 ys)(hx:xs[k1]?=J x)(hy:ys[k2]?=J y)(hQ:∀r,IsZip r z TI TO (rawInt s.heap.objs.size)->IsPair r TO x y->SqI t1 r i1 l1 (k1+1)->SqI t2 r i2 l2 (k2+1)->IsPair r s.heap.objs.size x y->r.objs.size=s.heap.objs.size+1 ->
   (∀c o,c≠z->c≠TO->c≠i1->c≠i2->s.heap.get? c=J o->r.get? c=J o)->Q (.ref s.heap.objs.size) { s with heap:=r}):
  wpAny (model prog w) A (Builtin.«zip.__next__» ⟨[.ref z],[]⟩) (λfin s'=>∃v,fin=.done (.ret v)/\Q v s') E s:=by
 show wpAny _ _ (field (.ref z) 2 >>= _) _ _ _;refine d_ (wpAny_field P rfl (x:=.bool T) rfl ?_);refine d_ (wpAny_field P rfl (x:=.ref TI) rfl ?_);refine d_ (wpAny_seqItems ay rfl ?_);refine d_ ?_;refine d_ (wpAny_field P rfl (x:=.none) rfl (il ?_));refine d_ (wpAny_rule ?_);refine d_ (wpAny_field P rfl (x:=.ref TO) rfl ?_);refine d_ (wpAny_setField_rec P (by simp) λha ab sa=>?_);refine d_ ?_;simp only[OE,List.zipIdx_nil,OI,List.forIn_nil];refine d_ (d_ (wpAny_onRaise ?_));show wpAny _ _ (Builtin.SmallTypes.nextOf (.ref i1) >>= _) _ _ _;refine d_ (jf (s:={ s with heap:=ha}) (h1.at' λo e=>(sa.2 _ D.i1z).trans e) (a2.at' λo e=>(sa.2 _ D.l1z).trans e) hx λhb as sb=>il ?_);replace sb:Heap.SameBut i1 ha hb:=sb;have O:IsPair hb TO a b:=(sb.2 _ D.TOi1).trans ((sa.2 _ D.TOz).trans ax);refine d_ (wpAny_seqItems O rfl ?_);refine d_ (wpAny_updateSeq_pair O λW G t=>?_);replace G:IsPair W TO x b:=G;replace t:Heap.SameBut TO hb W:=t;refine d_ (wpAny_letGo (il ?_));refine d_ (d_ (wpAny_onRaise ?_));show wpAny _ _ (Builtin.SmallTypes.nextOf (.ref i2) >>= _) _ _ _
 refine d_ (jf (s:={ s with heap:=W}) (h2.at' λo e=>(t.2 _ D.TOi2.symm).trans ((sb.2 _ D.i12.symm).trans ((sa.2 _ D.i2z).trans e)))
  (a3.at' λo e=>(t.2 _ D.l2TO).trans ((sb.2 _ D.l2i1).trans ((sa.2 _ D.l2z).trans e))) hy λhd a1 C=>il ?_)
 replace C:Heap.SameBut i2 W hd:=C;have U:IsPair hd TO x b:=(C.2 _ D.TOi2).trans G;refine d_ (wpAny_seqItems U rfl ?_);refine d_ (wpAny_updateSeq_pair U λg i u=>?_);replace i:IsPair g TO x y:=i;replace u:Heap.SameBut TO hd g:=u;refine d_ (wpAny_letGo (il (il ?_)));refine d_ (wpAny_seqItems i rfl ?_);refine d_ (wpAny_newTuple ?_);have L:g.objs.size=s.heap.objs.size:=by rw[u.1,C.1,t.1,sb.1,sa.1]
 have R:IsZip g z TI TO .ellipsis:=(u.2 _ D.TOz.symm).trans ((C.2 _ D.i2z.symm).trans ((t.2 _ D.TOz.symm).trans ((sb.2 _ D.i1z.symm).trans ab)));have an:∀c o,c≠z->c≠TO->c≠i1->c≠i2->s.heap.get? c=J o->g.get? c=J o:=λc o F X c3 c4 e =>
  (u.2 _ X).trans ((C.2 _ c4).trans ((t.2 _ X).trans ((sb.2 _ c3).trans ((sa.2 _ F).trans e))))
 have a0:SqI t1 g i1 l1 (k1+1):=as.at' λo e=>(u.2 _ D.TOi1.symm).trans ((C.2 _ D.i12).trans ((t.2 _ D.TOi1.symm).trans e));have ap:SqI t2 g i2 l2 (k2+1):=a1.at' λo e=>(u.2 _ D.TOi2.symm).trans e;have l:z<g.objs.size:=ml R;show wpAny _ _ (Builtin.SmallTypes.ownedTupleHandOut (.ref z) (.ref g.objs.size) >>= _) _ _ _;refine d_ ?_;unfold Builtin.SmallTypes.ownedTupleHandOut;have al:IsZip (g.push { cls:=.type "tuple",data:=.seq #[x,y]}) z TI TO .ellipsis:=ls _ R;refine d_ (wpAny_setField_rec al (by simp) λhg B sg=>?_);replace B:IsZip hg z TI TO (rawInt g.objs.size):=B;refine wpAny_setField_rec B (by simp) λH j sh=>?_;replace j:IsZip H z TI TO (rawInt g.objs.size):=j;have Z:∀c o,c≠z->g.get? c=J o->H.get? c=J o:=λc o F e=>(sh.2 _ F).trans ((sg.2 _ F).trans (ls _ e));have S:IsPair H g.objs.size x y:=(sh.2 _ (Dv l)).trans ((sg.2 _ (Dv l)).trans (q0 _ rfl));have M:H.objs.size=g.objs.size+1:=by rw[sh.1,sg.1,DP]
 rw[L]at j S M;refine il ⟨_,rfl,?_⟩;show Q (.ref g.objs.size) _;rw[L];exact hQ H j (Z _ _ D.TOz i) (a0.at' λo e=>Z _ o D.i1z e) (ap.at' λo e=>Z _ o D.i2z e) S M λc o F X c3 c4 e=>Z c o F (an c o F X c3 c4 e)
def Bx(hh:A.handled=Y)(D:ZipApart z TI TO i1 i2 l1 l2)(B:IsZip s.heap z TI TO .none)(S:IsPair s.heap TI (.ref i1) (.ref i2))(R:IsPair s.heap TO a b)(h1:SqI t1 s.heap i1 l1 k1)(h2:SqI t2 s.heap i2 l2 k2)(C:SqO t1 s.heap l1 xs)(Z:SqO t2 s.heap l2 ys)(H:xs[k1]?=Y\/ys[k2]?=Y)(hE:∀P e,(∀c o,c≠z->c≠TO->c≠i1->c≠i2->s.heap.get? c=J o->P.get? c=J o)->(∃o,P.get? e=J o/\o.cls=.type "StopIteration")->E (.ref e) { s with heap:=P}):
  wpAny (model prog w) A (Builtin.«zip.__next__» ⟨[.ref z],[]⟩) Q E s:=by
 show wpAny _ _ (field (.ref z) 2 >>= _) _ _ _;refine d_ (wpAny_field B rfl (x:=.bool T) rfl ?_);refine d_ (wpAny_field B rfl (x:=.ref TI) rfl ?_);refine d_ (wpAny_seqItems S rfl ?_);refine d_ ?_;refine d_ (wpAny_field B rfl (x:=.none) rfl (il ?_));refine d_ (wpAny_rule ?_);refine d_ (wpAny_field B rfl (x:=.ref TO) rfl ?_);refine d_ (wpAny_setField_rec B (by simp) λW r sa=>?_);refine d_ ?_;simp only[OE,List.zipIdx_nil,OI,List.forIn_nil];refine d_ (d_ (wpAny_onRaise ?_));show wpAny _ _ (Builtin.SmallTypes.nextOf (.ref i1) >>= _) _ _ _
 cases X:xs[k1]? with
 |none =>
  refine d_ (k7 (s:={ s with heap:=W}) hh (h1.at' λo e=>(sa.2 _ D.i1z).trans e) (C.at' λo e=>(sa.2 _ D.l1z).trans e) X λy e sb U=>?_);obtain⟨O,g,i⟩:=U;have t:IsZip y z TI TO .ellipsis:=sb _ _ D.i1z.symm r;have l:e≠z:=λq=>by subst q;rw[t]at g;cases g;simp at i
  exact wpAny_setField_rec t (by simp) λL _ j=>hE L e (λc o F _ M _ q=>(j.2 _ F).trans (sb _ _ M ((sa.2 _ F).trans q))) ⟨O,(j.2 _ l).trans g,i⟩
 |some x =>
  have hy:ys[k2]?=Y:=by
   rcases H with q|q
   .rw[X]at q;cases q
   .exact q
  refine d_ (jf (s:={ s with heap:=W}) (h1.at' λo e=>(sa.2 _ D.i1z).trans e) (C.at' λo e=>(sa.2 _ D.l1z).trans e) X λy ab sb=>il ?_);replace sb:Heap.SameBut i1 W y:=sb;have u:IsPair y TO a b:=(sb.2 _ D.TOi1).trans ((sa.2 _ D.TOz).trans R);refine d_ (wpAny_seqItems u rfl ?_);refine d_ (wpAny_updateSeq_pair u λL al j=>?_);replace j:Heap.SameBut TO y L:=j;refine d_ (wpAny_letGo (il ?_));refine d_ (d_ (wpAny_onRaise ?_));show wpAny _ _ (Builtin.SmallTypes.nextOf (.ref i2) >>= _) _ _ _
  refine d_ (k7 (s:={ s with heap:=L}) hh (h2.at' λo e=>(j.2 _ D.TOi2.symm).trans ((sb.2 _ D.i12.symm).trans ((sa.2 _ D.i2z).trans e)))
   (Z.at' λo e=>(j.2 _ D.l2TO).trans ((sb.2 _ D.l2i1).trans ((sa.2 _ D.l2z).trans e))) hy λhd e sd U=>?_)
  obtain⟨O,g,i⟩:=U;have G:IsZip hd z TI TO .ellipsis:=sd _ _ D.i2z.symm ((j.2 _ D.TOz.symm).trans ((sb.2 _ D.i1z.symm).trans r));have l:e≠z:=λq=>by subst q;rw[G]at g;cases g;simp at i
  exact wpAny_setField_rec G (by simp) λhf _ sf=>hE hf e (λc o F c2 M c4 q=>(sf.2 _ F).trans (sd _ _ c4 ((j.2 _ c2).trans ((sb.2 _ M).trans ((sa.2 _ F).trans q))))) ⟨O,(sf.2 _ l).trans g,i⟩
def CG(D:ZipApart z TI TO i1 i2 l1 l2)(t:IsZip s.heap z TI TO .none)(i:IsPair s.heap TI (.ref i1) (.ref i2))(g:IsPair s.heap TO a b)(P:SqI t1 s.heap i1 l1 k1)(R:SqI t2 s.heap i2 l2 k2)(j:SqO t1 s.heap l1 xs)(l:SqO t2 s.heap l2 ys)(S:xs[k1]?=J x)(B:ys[k2]?=J y)(u:∀e,IsZip e z TI TO (rawInt s.heap.objs.size)->IsPair e TO x y->SqI t1 e i1 l1 (k1+1)->SqI t2 e i2 l2 (k2+1)->IsPair e s.heap.objs.size x y->e.objs.size=s.heap.objs.size+1 ->
   (∀c o,c≠z->c≠TO->c≠i1->c≠i2->s.heap.get? c=J o->e.get? c=J o)->Q (J (.ref s.heap.objs.size)) { s with heap:=e}):
  wpAny (model prog w) A (pyNext (.ref z)) Q E s:=by
 have r:s.TypeIs (.ref z) "zip":=⟨_,t,rfl⟩
 exact d_ (wpAny_attempt (wpAny_callSpecial?_slot r F.slot_zip_next
  (wpAny_call_entry F.slot_zip_next r F.entry_zip_next (zR D t i g P R j l S B λe L O H M U G C=>il (u e L O H M U G C)) (F.args_zip_next_1 _))))
def Gg(C:A.handled=Y)(D:ZipApart z TI TO i1 i2 l1 l2)(y:IsZip s.heap z TI TO .none)(l:IsPair s.heap TI (.ref i1) (.ref i2))(j:IsPair s.heap TO a b)(M:SqI t1 s.heap i1 l1 k1)(O:SqI t2 s.heap i2 l2 k2)(r:SqO t1 s.heap l1 xs)(t:SqO t2 s.heap l2 ys)(g:xs[k1]?=Y\/ys[k2]?=Y)(B:∀i,(∀c o,c≠z->c≠TO->c≠i1->c≠i2->s.heap.get? c=J o->i.get? c=J o)->Q Y { s with heap:=i}):wpAny (model prog w) A (pyNext (.ref z)) Q E s:=by
 have u:s.TypeIs (.ref z) "zip":=⟨_,y,rfl⟩
 refine d_ (wpAny_attempt (wpAny_callSpecial?_slot u F.slot_zip_next
  (wpAny_call_entry F.slot_zip_next u F.entry_zip_next (Bx C D y l j M O r t g λi e P L=>?_) (F.args_zip_next_1 _))))
 obtain⟨o,H,G⟩:=L;refine d_ (wpAny_isInstance ⟨o,H,G⟩ isSubtype_stop ?_);exact il (B _ P)
end
abbrev zA(t1:Bool)(h:Heap)(l1:Addr):Heap:=h.push { cls:=.type (E_ t1),data:=.fields #[.ref l1,.int 0 0]}
abbrev zB(t1 t2:Bool)(h:Heap)(l1 l2:Addr):Heap:=(zA t1 h l1).push { cls:=.type (E_ t2),data:=.fields #[.ref l2,.int 0 0]}
abbrev zC(t1 t2:Bool)(h:Heap)(l1 l2:Addr):Heap:=(zB t1 t2 h l1 l2).push { cls:=.type "tuple",data:=.seq #[.ref h.objs.size,.ref (zA t1 h l1).objs.size]}
abbrev zD(t1 t2:Bool)(h:Heap)(l1 l2:Addr):Heap:=(zC t1 t2 h l1 l2).push { cls:=.type "tuple",data:=.seq #[.none,.none]}
abbrev zE(t1 t2:Bool)(h:Heap)(l1 l2:Addr):Heap:=(zD t1 t2 h l1 l2).push { cls:=.type "zip",data:=.fields #[.none,.bool T,.bool T,.ref (zB t1 t2 h l1 l2).objs.size,.ref (zC t1 t2 h l1 l2).objs.size]}
def Gh(i l:Bool)(a j:Addr)(xs ys:Array Value):
  Meets (Builtin.«zip.__new__» ⟨[.type "zip",.ref a,.ref j],[]⟩) (λ_ R s=>SqO i s.heap a xs/\SqO l s.heap j ys/\R (.ok (.ret (.ref (zD i l s.heap a j).objs.size))) { s with heap:=zE i l s.heap a j}) :=
 .of_wp λprog w A R s h=>by
  obtain⟨C,g,d,z,os⟩:=s;obtain⟨u,y,h⟩:=h;have B:=sub_zip;have r:SqO i (Shared.heap ⟨C,g,d,z,os⟩) a xs:=u;have t:SqO l (Shared.heap ⟨C.push { cls:=.type (E_ i),data:=.fields #[.ref a,.int 0 0]},g,d,z,os⟩) j ys:=y.at' λo e=>ls _ e
  wp_walk using kh r,kh t
  exact⟨_,rfl,h⟩
section
variable{prog:Program}{w:World}{A:Around}{E:SA}{s:Shared}
def Cv(g:SqO t1 s.heap l1 xs)(l:SqO t2 s.heap l2 ys)(h:∀a,IsZip a (s.heap.objs.size+4) (s.heap.objs.size+2) (s.heap.objs.size+3) .none->IsPair a (s.heap.objs.size+2) (.ref s.heap.objs.size) (.ref (s.heap.objs.size+1)) ->
   IsPair a (s.heap.objs.size+3) .none .none->SqI t1 a s.heap.objs.size l1 0->SqI t2 a (s.heap.objs.size+1) l2 0->a.objs.size=s.heap.objs.size+5 ->
   (∀c o,s.heap.get? c=J o->a.get? c=J o)->Q (.ref (s.heap.objs.size+4)) { s with heap:=a}):
  wpAny (model prog w) A (call (.type "zip") [.ref l1,.ref l2]) Q E s:=by
 refine callType_new F.called_zip (by decide) (F.typeCall_zip_2 _ _) (F.newCall_zip_2 _ _) (λobj=>F.args_object_init_3 obj _ _) F.entry_zip_new (Gh t1 t2 l1 l2 xs ys) ⟨g,l,?_⟩;have j:(zA t1 s.heap l1).objs.size=s.heap.objs.size+1:=DP ..;have r:(zB t1 t2 s.heap l1 l2).objs.size=s.heap.objs.size+2:=by rw[DP,j]
 have t:(zC t1 t2 s.heap l1 l2).objs.size=s.heap.objs.size+3:=by rw[DP,r]
 have i:(zD t1 t2 s.heap l1 l2).objs.size=s.heap.objs.size+4:=by rw[DP,t]
 have C:(zE t1 t2 s.heap l1 l2).objs.size=s.heap.objs.size+5:=by rw[DP,i]
 have e:(zE t1 t2 s.heap l1 l2).get? (zD t1 t2 s.heap l1 l2).objs.size=J _:=q0 _ rfl;have u:(zE t1 t2 s.heap l1 l2).get? (zC t1 t2 s.heap l1 l2).objs.size=J _:=ls _ (q0 _ rfl);have y:(zE t1 t2 s.heap l1 l2).get? (zB t1 t2 s.heap l1 l2).objs.size=J _:=ls _ (ls _ (q0 _ rfl));have z:(zE t1 t2 s.heap l1 l2).get? (zA t1 s.heap l1).objs.size=J _:=ls _ (ls _ (ls _ (q0 _ rfl)));have B:(zE t1 t2 s.heap l1 l2).get? s.heap.objs.size=J _:=ls _ (ls _ (ls _ (ls _ (q0 _ rfl))));rw[r,t,i]at e;rw[j,r]at y;rw[t]at u;rw[j]at z;rw[i]
 exact⟨⟨_,e,rfl⟩,h _ e y u ⟨_,B,rfl,rfl⟩ ⟨_,z,rfl,rfl⟩ C λc o x =>
  ls _ (ls _ (ls _ (ls _ (ls _ x))))⟩
end
end SeqT
namespace MM
open PySem.Spec PyProof.Rows L2 SeqT
def Ed(e:Bool)(K:ij)(H:Hp)(a:Addr)(ys:List V):Prop:=match e with
 |true=>SqT K H a ys
 |false=>SqL K H a ys
section
variable{X:Cx}{Kt:List (Addr × Obj)}{Z:L2.St}{H:Hp}{s:Shared}
def fT(g:Inv X Kt Z H s)(h:Ed tp X.K H a ys):∃e:SQ,aI ys e/\SqO tp s.heap a e.toArray/\ys.length<=sizeLine:=by
 cases tp with
 |true =>
  obtain⟨e,l,j,i⟩:=g.tuple h;exact⟨e,l,j,i⟩
 |false =>
  obtain⟨e,l,j,i⟩:=g.list h;exact⟨e,l,j.isList,i⟩
def qW(e:Inv X Kt Z H s)(h:Ed tp X.K H a xs)(g:Ed tp X.K H a ys):xs=ys:=by
 cases tp with
 |true=>exact e.tuple_inj h g
 |false=>exact e.list_inj h g
def k6(g:Inv X Kt Z H s){l:Heap}{t':Nat}{j:SM}(hf:∀b∈j,iL X Kt H b)(k:∀b o,b∉j->s.heap.get? b=J o->l.get? b=J o):
  Inv X Kt Z H { s with heap:=l,toks:=t'}:=by
 have i:∀b u,H b=J u->b∉j:=λb u e z=>by rw[(hf b z).1]at e;cases e
 refine g.step (g':=s.gens) (d':=s.drawn) (λb B=>?_) (λb o _ _ a e _=>k b o a e) (λb o _ _ a e _=>⟨o.slots,k b o a e⟩) (λ_ _ _ _ n=>n)
  (λb o a e=>⟨o,k b o a e⟩) (λ_ _ e=>e) (λ_ _ _ e=>e) (λb Q e=>⟨#[],by rw[e];simp⟩) (λm C=>?_) (λb u e=>?_) g.bare
 .obtain⟨O,F,P,G,y,E⟩:=hf b B;exact⟨G,F,y,E⟩
 .obtain⟨o,M,L,t,r⟩:=C;exact⟨o,M,L,k _ o (λz=>(hf _ z).2.1 rfl) t,r⟩
 .refine (g.hok b u e).stay (λc v a q=>k c v ?_ q) (λ_ q=>q) λ_ _ q=>q;rcases a with z|z
  .rw[z];exact i b u e
  .exact i c _ z
def xl(g:Inv X Kt Z H s){h':Heap}{t':Nat}{ch:SM}{ys:List V}{its:SQ}(hf:∀b∈ch,iL X Kt H b)(B:aI ys its)(C:ys.length<=sizeLine)(t:s.heap.objs.size∉ch)(E:h'.get? s.heap.objs.size=J { cls:=.type "tuple",data:=.seq its.toArray})(k:∀b o,b∉ch->s.heap.get? b=J o->h'.get? b=J o):
  Inv X Kt Z (k_ H s.heap.objs.size (.tup ys)) { s with heap:=h',toks:=t'}/\(∀b∈ch,(k_ H s.heap.objs.size (.tup ys)) b=Y)/\H s.heap.objs.size=Y:=by
 have r:=g.hok.fresh (i3 s.heap.objs.size);have l:∀b∈ch,b≠s.heap.objs.size:=λb a z=>t (by rw[<-z];exact a);have y:Inv X Kt Z (k_ H s.heap.objs.size (.tup ys)) { s with heap:=s.heap.push { cls:=.type "tuple",data:=.seq its.toArray},toks:=s.toks} :=
  g.laid (λb u q=>ls _ q) (i3 _) ⟨C,its,B,_,q0 _ rfl,rfl,⟨_,rfl⟩,rfl⟩
 have i:∀b∈ch,(k_ H s.heap.objs.size (.tup ys)) b=Y:=λb a=>by rw[aS (l b a)];exact(hf b a).1
 refine⟨?_,i,r⟩;refine k6 (t':=t') y (λb a=>⟨i b a,(hf b a).2⟩) λb o a e=>?_;by_cases z:b=s.heap.objs.size
 .have j:(s.heap.push { cls:=.type "tuple",data:=.seq its.toArray}).get? s.heap.objs.size=J { cls:=.type "tuple",data:=.seq its.toArray}:=q0 _ rfl
  grind
 .have j:=e;rw[Heap.get?_push_ne _ _ _ z]at j;exact k b o a j
end
def RK(K:ij)(e:Bool)(a:Addr):It :=
 ⟨λi H=>∃ys y,Ed e K H a ys/\ys[i]?=J y,λi H x g=>∃p y,H p=Y/\x=.ref p/\g=k_ H p (.tup [.int i,y])/\∀ys,Ed e K H a ys->ys[i]?=J y,λi H=>∃ys,Ed e K H a ys/\ys.length<=i⟩
def zX{P:Program}{w:World}{K:ij}{O:SW}{x1:Nat}{a6:Pos}(tp:Bool)(a e j:Addr)(F:e≠j)(an:a≠e)(a2:a≠j):
  El P w K (.Tuple O x1 a6) (RK K tp a) [e,j] e (λi h=>(∃old,IsEnum h e j i old)/\SqI tp h j a i) where
 mem:=by simp
 obj:=λi h st b L=>by
  obtain⟨⟨old,l⟩,t⟩:=st
  have:b=e\/b=j:=by simpa using L
  rcases this with rfl|rfl
  .exact⟨_,l,λv z=>nomatch z⟩
  .obtain⟨o,ho,U,hd⟩:=t;exact⟨o,ho,λv z=>by rw[hd]at z;cases z⟩
 keep:=λi h h' st k=>let⟨⟨old,l⟩,t⟩:=st;⟨⟨old,k e (by simp) _ l⟩,t.at' λo q=>k j (by simp) o q⟩
 item:=by
  intro X hP hw hK U i Kt s Z H E g hf st hg;subst hP hw hK;obtain⟨⟨old,l⟩,t⟩:=st;obtain⟨ys,y,W,hy⟩:=hg;obtain⟨r,rv,so,hz⟩:=fT g W;obtain⟨u,hu,ru⟩:=rv.get hy;have a3:i<r.toArray.size:=by
   have:=(mw.mp hu).1
   simpa using this
  have G:(X.A.in1).handled=Y:=by have:=g.ok.hd U;simpa using this
  refine wpAny_pyNext_enum_itemD (MF G tp j a a2 r.toArray) l ⟨t,so⟩ a3 F (by simp[F,Ne.symm an]) λx h1 S hx as al ax bm a1=>⟨_,rfl,?_⟩;have ap:x=u:=by
   have:r.toArray[i]?=J u:=by simpa using hu
   rw[this]at hx;exact(Option.some.inj hx).symm
  subst ap;refine wpAny_letOwnedTupleGo_enum (s:={ s with heap:=h1,toks:=S+1}) as λh2 a7 C=>?_;have B:e<s.heap.objs.size:=ml l;have R:j<s.heap.objs.size:=t.lt;obtain⟨I2,a4,a8⟩:=xl (t':=S+1) (h':=h2) g (ch:=[e,j]) (ys:=[.int i,y]) (its:=[.int i S,x]) hf (.cons ⟨S,rfl⟩ (.cons ru .nil)) (by rw[sizeLine_eq];show 2<=_;decide)
   (by simp only[nk,Ew,or_false,not_or];exact⟨Dv B,Dv R⟩)
   ((C.2 _ (Dv B)).trans ax)
   (λb o L q=>by
    have M:b≠e:=λz=>L (by simp[z]);have a5:b≠j:=λz=>L (by simp[z])
    exact(C.2 b M).trans (a1 b o M a5 q))
  refine⟨.ref s.heap.objs.size,_,I2,rfl,⟨_,y,a8,rfl,rfl,λzs ab=>by rw[qW g ab W];exact hy⟩,⟨⟨x,by simpa using a7⟩,?_⟩,a4⟩;exact al.1.at' λo q=>(C.2 j (Ne.symm F)).trans q
 done:=by
  intro X hP hw hK U i Kt s Z H E g hf st hg;subst hP hw hK;obtain⟨⟨old,l⟩,t⟩:=st;obtain⟨ys,W,hy⟩:=hg;obtain⟨r,rv,so,hz⟩:=fT g W;have G:(X.A.in1).handled=Y:=by have:=g.ok.hd U;simpa using this
  have bf:=rv.length;have hT:s.TypeIs (.ref e) "enumerate":=⟨_,l,rfl⟩;unfold pyNext;refine d_ (wpAny_attempt (wpAny_callSpecial?_slot (name:=Str.ofString "__next__") hT PySem.F.slot_enumerate_next (wpAny_call_entry PySem.F.slot_enumerate_next hT PySem.F.entry_enumerate_next ?_ (PySem.F.args_enumerate_next_1 _))));show wpAny _ _ (field (.ref e) 2 >>= _) _ _ _;refine d_ (wpAny_field l rfl (x:=.ref j) rfl ?_);refine d_ (k7 G t so (by simp;ext) λh1 x a9 a0=>?_);obtain⟨o,ho,ay⟩:=a0;refine d_ (wpAny_isInstance (T:="StopIteration") (b:=I) ⟨o,ho,ay⟩ isSubtype_stop ?_);refine il ⟨rfl,k6 (t':=s.toks) g hf λb o L q=>a9 b o (λz=>L (by simp[z])) q⟩
 self:=λA i s Q E st h=>let⟨⟨old,l⟩,_⟩:=st;wpAny_pyIter_enum l h
def RL(K:ij)(e g:Bool)(a b:Addr):It :=
 ⟨λi H=>∃xs ys x y,Ed e K H a xs/\Ed g K H b ys/\xs[i]?=J x/\ys[i]?=J y,
   λi H v j=>∃p x y,H p=Y/\v=.ref p/\j=k_ H p (.tup [x,y])/\(∀xs,Ed e K H a xs->xs[i]?=J x)/\∀ys,Ed g K H b ys->ys[i]?=J y,
   λi H=>∃xs ys,Ed e K H a xs/\Ed g K H b ys/\(xs.length<=i\/ys.length<=i)⟩
def B6{P:Program}{w:World}{K:ij}{ab:SW}{x1:Nat}{a8:Pos}(t1 t2:Bool)(a b z TI TO F G:Addr)(D:ZipApart z TI TO F G a b):
  El P w K (.Tuple ab x1 a8) (RL K t1 t2 a b) [z,TI,TO,F,G] z (λi h=>IsZip h z TI TO .none/\IsPair h TI (.ref F) (.ref G)/\(∃u v,IsPair h TO u v)/\SqI t1 h F a i/\SqI t2 h G b i) where
 mem:=by simp
 obj:=λi h st c l=>by
  obtain⟨B,j,⟨u,v,r⟩,⟨o1,e1,_,d1⟩,⟨o2,e2,_,d2⟩⟩:=st
  have:c=z\/c=TI\/c=TO\/c=F\/c=G:=by simpa using l
  rcases this with rfl|rfl|rfl|rfl|rfl
  .exact⟨_,B,λv z=>nomatch z⟩
  .exact⟨_,j,λv z=>nomatch z⟩
  .exact⟨_,r,λv z=>nomatch z⟩
  .exact⟨o1,e1,λv z=>by rw[d1]at z;cases z⟩
  .exact⟨o2,e2,λv z=>by rw[d2]at z;cases z⟩
 keep:=λi h h' st k=>let⟨B,j,⟨u,v,r⟩,h1,W⟩:=st
  ⟨k z (by simp) _ B,k TI (by simp) _ j,⟨u,v,k TO (by simp) _ r⟩,h1.at' λo q=>k F (by simp) o q,W.at' λo q=>k G (by simp) o q⟩
 item:=by
  intro X hP hw hK l i Kt s Z H E g hf st hg;subst hP hw hK;obtain⟨B,j,⟨u,v,r⟩,h1,W⟩:=st;obtain⟨xs,ys,x,y,C,t,hx,hy⟩:=hg;obtain⟨ax,M,S,ay⟩:=fT g C;obtain⟨al,L,R,a7⟩:=fT g t;obtain⟨u1,a2,a5⟩:=M.get hx;obtain⟨u2,a0,a4⟩:=L.get hy;refine CG D B j r h1 W S R (x:=u1) (y:=u2) (by simpa using a2) (by simpa using a0) λha a1 as bt bm a6 bv ap=>⟨_,rfl,?_⟩;refine wpAny_letOwnedTupleGo_zip (s:={ s with heap:=ha}) a1 λhb a9 sb=>?_;have l1:z<s.heap.objs.size:=ml B;have l2:TI<s.heap.objs.size:=ml j;have l3:TO<s.heap.objs.size:=ml r;have l4:F<s.heap.objs.size:=h1.lt;have l5:G<s.heap.objs.size:=W.lt;have U:∀c o,c≠z->ha.get? c=J o->hb.get? c=J o:=λc o l q=>(sb.2 c l).trans q;obtain⟨I2,a3,bf⟩:=xl (t':=s.toks) (h':=hb) g (ch:=[z,TI,TO,F,G]) (ys:=[x,y]) (its:=[u1,u2]) hf (.cons a5 (.cons a4 .nil)) (by rw[sizeLine_eq];show 2<=_;decide)
   (by simp only[nk,Ew,or_false,not_or];exact⟨Dv l1,Dv l2,Dv l3,Dv l4,Dv l5⟩)
   (U _ _ (Dv l1) a6)
   (λc o l q=>U c o (λe=>l (by simp[e])) (ap c o (λe=>l (by simp[e])) (λe=>l (by simp[e])) (λe=>l (by simp[e])) (λe=>l (by simp[e])) q))
  refine⟨.ref s.heap.objs.size,_,I2,rfl,⟨_,x,y,bf,rfl,rfl,λzs O=>by rw[qW g O C];exact hx,λzs O=>by rw[qW g O t];exact hy⟩,⟨a9,?_,⟨_,_,U _ _ D.TOz as⟩,bt.at' λo q=>U _ o D.i1z q,bm.at' λo q=>U _ o D.i2z q⟩,a3⟩;exact U _ _ D.TIz (ap _ _ D.TIz D.TITO D.TIi1 D.TIi2 j)
 done:=by
  intro X hP hw hK l i Kt s Z H E g hf st hg;subst hP hw hK;obtain⟨B,j,⟨u,v,r⟩,h1,W⟩:=st;obtain⟨xs,ys,C,t,an⟩:=hg;obtain⟨ax,M,S,ay⟩:=fT g C;obtain⟨al,L,R,a7⟩:=fT g t;have e1:=M.length;have e2:=L.length;have hT:s.TypeIs (.ref z) "zip":=⟨_,B,rfl⟩;have bx:(X.A.in1).handled=Y:=by have:=g.ok.hd l;simpa using this
  refine Gg (g.ok.hd l) D B j r h1 W S R ?_ λh' hk=>⟨rfl,k6 (t':=s.toks) g hf λc o l q=>hk c o (λe=>l (by simp[e])) (λe=>l (by simp[e])) (λe=>l (by simp[e])) (λe=>l (by simp[e])) q⟩;rcases an with q|q
  .exact .inl (by simp;ext)
  .exact .inr (by simp;ext)
 self:=λA i s Q E st h=>wpAny_pyIter_zip st.1 h
def cz(v:PV)(h:MH):Option (Bool×R4×List (Nat×R4)):=match v with
 |.loc n=>(match h[n]? with
  |some (.lst xs)=>J (T,xs,[(n,xs)])
  |_=>Y)
 |.frl xs=>J (T,xs,[])
 |.tup xs=>J (I,xs,[])
 |_=>Y
def uP{X:Cx}{U:SM}{H:Hp}{h:MH}{x:PV}{y:V}{t:Bool}{xs:R4}{gd:List (Nat×R4)}(L:RH X.K X.mg U H h)(r:RP X.K U H x y)(e:cz x h=J (t,xs,gd)):
  ∃a,y=.ref a/\(∃ys,Ed t X.K H a ys)/\∀i g j,Le U H i g->RH X.K X.mg i g j->(∀p∈gd,j[p.1]?=J (.lst p.2))->∃ys,Ed t X.K g a ys/\RPs X.K i g xs ys:=by
 cases r with
 |frl s r=>cases e;exact⟨_,rfl,⟨_,s.sq⟩,λi g j l _ _=>⟨_,(l.sqf s).sq,r.le l⟩⟩
 |tup s r=>cases e;exact⟨_,rfl,⟨_,s⟩,λi g j l _ _=>⟨_,l.sqt s,r.le l⟩⟩
 |@loc n a E =>
  obtain⟨o,G,M⟩:=L.obj E;unfold cz at e;dsimp only at e;rw[G]at e
  cases o with
  |lst O =>
   cases e;obtain⟨ys,F,P⟩:=M;refine⟨a,rfl,⟨ys,SqL.of F⟩,λi g j l B ok=>?_⟩;obtain⟨u,C,z⟩:=B.at' n a _ (l.get E) (ok (n,xs) (by simp));exact⟨u,SqL.of C,z⟩
  |_=>cases e
 |_=>cases e
def jz(xs:R4):R4:=xs.zipIdx.map λp=>.tup [.int (p.2:Int),p.1]
def jO(xs ys:R4):R4:=(xs.zip ys).map λp=>.tup [p.1,p.2]
def zM{xs:R4}{i:Nat}{x:PV}(h:xs[i]?=J x):(jz xs)[i]?=J (.tup [.int (i:Int),x]):=by delta jz;rw[yT,List.getElem?_zipIdx,h];simp
def tR(xs:R4):(jz xs).length=xs.length:=by simp[jz]
def vy(xs ys:R4):(jO xs ys).length=min xs.length ys.length:=by simp[jO]
def Cf{xs ys:R4}{i:Nat}{x y:PV}(a:xs[i]?=J x)(e:ys[i]?=J y):(jO xs ys)[i]?=J (.tup [x,y]):=by
 delta jO;rw[yT]
 have:(xs.zip ys)[i]?=J (x,y):=by rw[List.getElem?_zip_eq_some];exact⟨a,e⟩
 rw[this];rfl
def rk(m:Mx (R4)):Mx MIt:=λZ h=>(m Z h).bind λe a=>match e with
 |[x]=>(match cz x a with
  |some (_,xs,gd)=>.ok ⟨jz xs,gd⟩ a
  |none=>.bad)
 |_=>.bad
def MJ(m:Mx (R4)):Mx MIt:=λZ h=>(m Z h).bind λe a=>match e with
 |[x,y]=>(match cz x a,cz y a with
  |some (_,xs,g),J (_,ys,i)=>.ok ⟨jO xs ys,g++i⟩ a
  |_,_=>.bad)
 |_=>.bad
section
variable{X:Cx}{N W G:R5}{k:Nat}
def Gi(g:Good X N W G k){ab:SW}{x1:Nat}{tp:Pos}{a:Expr}{m:Mx (R4)}{p a0:Pos}{j:Nat}(hj:G[j]?=J "enumerate")(hm:X.mg "enumerate"=Y)(ha:MA X [a] m)(hs:starEach [a] X.env=[(T,eval a X.env)]:=by rfl):MI X (.Tuple ab x1 tp) (.Call (.Name "enumerate" p) [a] [] a0) (rk m):=by
 have d:=g.dbg _ (n4 _ (aA hj));intro Kt s Z H R ap ⟨U,as,h,rs,rh,q⟩;refine wpAny_Call_Name_kw (gT ap (g.gl _ (aA hj)) hm PyProof.Rows.Boot.«enumerate» ?_ d.2.2 d.1)
 refine PyProof.Rows.callWith_type1 (lf (ha a0 Kt s Z H (λvs o=>∃E O xs,Le U H E o/\RH X.K X.mg E o O/\RPs X.K E o xs vs/\Ful X (rB X) as E o ((match xs with
   |[x]=>(match cz x O with|some (_,xs,gd)=>.ok ⟨jz xs,gd⟩ O|none=>.bad)
   |_=>.bad:Out MIt)) R) ap ⟨U,as,h,rs,rh,Ful.bind q λE o v v' O _ l1 C rv B=>⟨E,O,v,l1,C,rv,B⟩⟩) λus t ⟨vs,o,P,r1,E,O,xs,l1,C,rv,B⟩=>?_) hs rfl
 cases rv with
 |nil=>exact B.elim
 |@cons y y' ys a6 ry t1 =>
  cases t1 with
  |cons _ _=>exact B.elim
  |nil =>
   dsimp only at B
   cases L:cz y O with
   |none=>rw[L]at B;exact B.elim
   |some z =>
    obtain⟨b,zs,gd⟩:=z;rw[L]at B;obtain⟨ad,rfl,⟨ws,a1⟩,a4⟩:=uP C ry L;obtain⟨u,rfl,rx⟩:=eN r1;cases rx;obtain⟨a8,bf,so,hz⟩:=fT P a1;refine AV so λh' he hi a9 hk=>?_;refine wpAny_pyIter_enum he ?_;have I2:Inv X Kt Z o { t with heap:=h',toks:=t.toks}:=P.kept hk;obtain⟨oa,a3,a7,_⟩:=id so;have ax:ad<t.heap.objs.size:=ml a3;have al:=P.hok.fresh (i3 t.heap.objs.size);have ay:=P.hok.fresh (HU t.heap.objs.size);refine⟨t.heap.objs.size+1,_,_,_,o,rfl,I2,zX b ad _ t.heap.objs.size (Dv (HQ _)) (qp (G5 ax)) (qp ax),⟨⟨_,he⟩,hi⟩,λc hc=>?_,?_⟩
    .have:c=t.heap.objs.size+1\/c=t.heap.objs.size:=by simpa using hc
     rcases this with rfl|rfl
     .have F:=Inv.fpOk P (H':=o) (b:=t.heap.objs.size+1) (HU _) ay;exact F
     .exact Inv.fpOk P (H':=o) (i3 _) al
    .refine B E o _ (Le.refl _ _) C ?_;intro U' H' h2 i l an ok;obtain⟨M,r,S⟩:=a4 U' H' h2 l an ok;refine⟨λe=>?_,λe=>⟨M,r,by rw[<-S.length];rw[tR]at e;exact e⟩⟩;rw[tR]at e;have hx:zs[i]?=J (zs[i]'e):=C5 e;obtain⟨w',ew,a2⟩:=S.get hx;refine⟨⟨M,w',r,ew⟩,λx' H3 ⟨pp,y2,hp,e1,e2,Q⟩=>?_⟩;subst e1;subst e2;have ey:y2=w':=by
      have:=Q M r
      rw[ew]at this;exact(Option.some.inj this).symm
     subst ey;obtain⟨a5,l3⟩:=an.tup hp [.int i,y2];exact⟨U',_,l3,a5,zM hx,.tup (SqT.of bI) (.cons (.int _) (.cons (a2.le l3) .nil))⟩
def JO(g:Good X N W G k){a7:SW}{x1:Nat}{tp:Pos}{a b:Expr}{m:Mx (R4)}{p a3:Pos}{j:Nat}(hj:G[j]?=J "zip")(hm:X.mg "zip"=Y)(ha:MA X [a,b] m)(hs:starEach [a,b] X.env=(T,eval a X.env)::starEach [b] X.env:=by rfl)(cm:(backTo a3 (starEach [b] X.env)).any (·.1)=T:=by rfl):MI X (.Tuple a7 x1 tp) (.Call (.Name "zip" p) [a,b] [] a3) (MJ m):=by
 have d:=g.dbg _ (n4 _ (aA hj));intro Kt s Z H R bm ⟨U,bx,h,rs,rh,q⟩;refine wpAny_Call_Name_kw (gT bm (g.gl _ (aA hj)) hm PyProof.Rows.Boot.«zip» ?_ d.2.2 d.1)
 refine PyProof.Rows.callWith_type1 (lf (ha a3 Kt s Z H (λvs L=>∃U1 h1 xs,Le U H U1 L/\RH X.K X.mg U1 L h1/\RPs X.K U1 L xs vs/\Ful X (rB X) bx U1 L ((match xs with
   |[x,y]=>(match cz x h1,cz y h1 with|some (_,xs,g1),J (_,ys,g2)=>.ok ⟨jO xs ys,g1++g2⟩ h1|_,_=>.bad)
   |_=>.bad:Out MIt)) R) bm ⟨U,bx,h,rs,rh,Ful.bind q λU1 L v v' h1 _ l1 Q rv E=>⟨U1,h1,v,l1,Q,rv,E⟩⟩) λus o ⟨vs,L,I1,r1,U1,h1,xs,l1,Q,rv,E⟩=>?_) hs cm
 cases rv with
 |nil=>exact E.elim
 |@cons y y' ys dn ry t1 =>
  cases t1 with
  |nil=>exact E.elim
  |@cons v v' dd c9 rv t2 =>
   cases t2 with
   |cons _ _=>exact E.elim
   |nil =>
    dsimp only at E
    cases ab:cz y h1 with
    |none=>rw[ab]at E;exact E.elim
    |some z =>
     obtain⟨b1,bf,dF⟩:=z
     cases O:cz v h1 with
     |none=>rw[ab,O]at E;exact E.elim
     |some z2 =>
      obtain⟨b2,b6,dt⟩:=z2;rw[ab,O]at E;obtain⟨u,rfl,⟨d5,bt⟩,a4⟩:=uP Q ry ab;obtain⟨C,rfl,⟨ea,b5⟩,a5⟩:=uP Q rv O
      cases r1 with
      |@cons _ u1 _ dV c3 c4 =>
       cases c4 with
       |@cons _ u2 _ d0 c2 cc =>
        cases cc;cases c3;cases c2;obtain⟨dc,c6,b4,ds⟩:=fT I1 bt;obtain⟨c7,c8,bv,d1⟩:=fT I1 b5;refine Cv b4 bv λh' hz cf cp cs c0 d2 hk=>?_;refine wpAny_pyIter_zip hz ?_;have I2:Inv X Kt Z L { o with heap:=h',toks:=o.toks}:=I1.kept hk;obtain⟨dx,a6,_,_⟩:=id b4;obtain⟨eb,a9,_,_⟩:=id bv;have S:u<o.heap.objs.size:=ml a6;have HE:C<o.heap.objs.size:=ml a9;have sN:∀(n:Nat),o.heap.objs.size<=o.heap.objs.size+n:=λn=>OD _ _;have ap:∀(c:Addr)(n:Nat),c<o.heap.objs.size->c≠o.heap.objs.size+n:=λc n hc=>qp (y_ hc (sN n));have r:∀(m n:Nat),m≠n->o.heap.objs.size+m≠o.heap.objs.size+n:=λm n cb e=>cb (Nat.add_left_cancel e);have D:ZipApart (o.heap.objs.size+4) (o.heap.objs.size+2) (o.heap.objs.size+3) o.heap.objs.size (o.heap.objs.size+1) u C :=
         ⟨r 2 4 (by decide),r 3 4 (by decide),r 0 4 (by decide),r 1 4 (by decide),r 2 3 (by decide),r 2 0 (by decide),r 2 1 (by decide),r 3 0 (by decide),r 3 1 (by decide),r 0 1 (by decide),
          ap u 4 S,ap u 3 S,ap u 0 S,ap u 1 S,ap C 4 HE,ap C 3 HE,ap C 0 HE,ap C 1 HE⟩
        refine⟨o.heap.objs.size+4,_,_,_,L,rfl,I2,B6 b1 b2 u C _ _ _ _ _ D,⟨hz,cf,⟨_,_,cp⟩,cs,c0⟩,λc hc=>?_,?_⟩
        .have F:∀n:Nat,iL X Kt L (o.heap.objs.size+n):=λn=>Inv.fpOk I1 (H':=L) (sN n) (I1.hok.fresh (sN n))
         have:c=o.heap.objs.size+4\/c=o.heap.objs.size+2\/c=o.heap.objs.size+3\/c=o.heap.objs.size\/c=o.heap.objs.size+1:=by simpa using hc
         rcases this with rfl|rfl|rfl|rfl|rfl
         .exact F 4
         .exact F 2
         .exact F 3
         .exact F 0
         .exact F 1
        .refine E U1 L _ (Le.refl _ _) Q ?_;intro U' H' h2 i l as ok;obtain⟨P,t,an⟩:=a4 U' H' h2 l as (λp hp=>ok p (C7 _ hp));obtain⟨M,B,al⟩:=a5 U' H' h2 l as (λp hp=>ok p (n4 _ hp));refine⟨λax=>?_,λax=>⟨P,M,t,B,?_⟩⟩
         .rw[vy]at ax;have a8:bf[i]?=J (bf[i]'(by ext)):=C5 (by ext);have b0:b6[i]?=J (b6[i]'(by ext)):=C5 (by ext);obtain⟨w1,b3,ch⟩:=an.get a8;obtain⟨w2,ca,cd⟩:=al.get b0;refine⟨⟨P,M,w1,w2,t,B,b3,ca⟩,λx' H3 ⟨pp,y1,y2,hp,e1,e2,a0,ay⟩=>?_⟩;subst e1;subst e2;have cn:y1=w1:=by
           have:=a0 P t
           rw[b3]at this;exact(Option.some.inj this).symm
          have c5:y2=w2:=by
           have:=ay M B
           rw[ca]at this;exact(Option.some.inj this).symm
          subst cn;subst c5;obtain⟨c1,l3⟩:=as.tup hp [y1,y2];exact⟨U',_,l3,c1,Cf a8 b0,.tup (SqT.of bI) (.cons (ch.le l3) (.cons (cd.le l3) .nil))⟩
         .rw[vy]at ax;have a1:=an.length;have a2:=al.length;ext
end
end MM
namespace MM
open PySem.Spec PyProof.Rows L2 SetT SortT
def eV:R4->Option (R6)
 |[]=>J []
 |.int i::r=>(eV r).map (i::·)
 |_=>Y
def cB(l:R6):R6:=l.mergeSort λa b=>decide (a<=b)
def d4(l:R6):(cB l).Perm l:=List.mergeSort_perm _ _
def oQ(l:R6):(cB l).Pairwise (·<=·):=by
 have:=Qz (le:=λa b:Int=>decide (a<=b)) (λa b c e g=>by
   simp only[decide_eq_true_eq]at e g ⊢;lia) (λa b=>by
   lia)
 delta cB
 simp_all
def jV{l m:R6}(e:l.Pairwise (·<=·))(g:m.Pairwise (·<=·))(p:l.Perm m):l=m :=
 List.Perm.eq_of_pairwise (λa b _ _ x y=>by lia) e g p
def rO:∀{xs:R4}{k:R6},eV xs=J k->xs=k.map .int
 |[],k,h=>by cases h;rfl
 |x::r,k,h=>by
  cases x with
  |int i =>
   unfold eV at h
   cases a:eV r with
   |none=>rw[a]at h;cases h
   |some e =>
    rw[a]at h;cases h;rw[rO a];rfl
  |_=>cases h
def mu(xs:R4)(h:MH):SX:=match xs with
 |[x]=>(match dj h x with
  |some ys=>(match eV ys with
   |some ns=>if ns.length<64 then .ok (.loc h.length) (h++[.lst ((cB ns).map .int)])else .bad
   |none=>(match iM ys with
    |some a=>if(∀k∈a,k≠[])/\a.length<=66 then .ok (.loc h.length) (h++[.lst ((cU a).map kP)])else .bad
    |none=>.bad))
  |none=>.bad)
 |_=>.bad
def oU:∀{ns:R6}{a:SQ},aI (ns.map V.int) a->IntsAre a ns
 |[],_,h=>by cases h;exact .nil
 |i::k,_,h=>by
  cases h with
  |cons r t =>
   obtain⟨e,rfl⟩:=r;exact .cons i e (oU t)
def o8:∀{ns:R6}{a:SQ},IntsAre a ns->aI (ns.map V.int) a
 |_,_,.nil=>.nil
 |_,_,.cons n t h=>.cons ⟨t,rfl⟩ (o8 h)
section
variable{X:Cx}{N W G:R5}{k:Nat}
def u3:ce X (.builtin "sorted") (λxs H Q=>∃l ns,xs=[.ref l]/\SqL X.K H l (ns.map V.int)/\ns.length<64/\∀z,H z=Y->Q (.ref z) (k_ H z (.lst ((cB ns).map V.int)))):=by
 intro Kt s Z H xs us Q g r ⟨l,ns,e,M,hz,q⟩;subst e;obtain⟨u,rfl,O⟩:=eN r;cases O;obtain⟨a,C,P,ab⟩:=g.list M;have t:=C.length;rw[tu]at t;refine sorted_ints P.isList (oU C) ⋯ λi R S U F=>?_;have e:=jV F (oQ ns) (U.trans (d4 ns).symm);subst e;have y:((s.heap.push (seqObj "list" #[] 0)).update s.heap.objs.size (Obj.mapSeq (·++a.toArray))).objs.size=s.heap.objs.size+1:=by rw[Heap.size_update,size_push']
 have B:(((s.heap.push (seqObj "list" #[] 0)).update s.heap.objs.size (Obj.mapSeq (·++a.toArray))).push (seqObj "list" a.toArray 0)).get? (s.heap.objs.size+1)=J (seqObj "list" a.toArray 0):=by rw[<-y];exact q0 _ rfl
 obtain⟨c,L⟩:=gj B i;refine⟨.ref (s.heap.objs.size+1),_,g.laid (o:=.lst ((cB ns).map V.int)) (t':=s.toks) (λb o E=>?_) (HU _) (⟨?_,i.toList,c,o8 S,?_⟩),rfl,q _ (g.hok.fresh (HU _))⟩
 .have j:=ml E;refine fE (qp (G5 j)) ?_ _;refine ls _ ?_;rw[Lc _ _ _ _ (qp j)];exact ls _ E
 .rw[tu,(d4 ns).length_eq,sizeLine_eq];lia
 .unfold sortedAll;rw[L]
def zP:di X (.builtin "sorted") mu:=by
 intro P s Z H xs O Q j r ⟨U,h,ps,t,rp,q⟩
 cases rp with
 |nil=>exact q.elim
 |@cons x y _ _ r1 t1 =>
  cases t1 with
  |cons _ _=>exact q.elim
  |nil =>
   unfold mu at q;dsimp only at q
   cases B:dj h x with
   |none=>rw[B]at q;exact q.elim
   |some M =>
    rw[B]at q;dsimp only at q;obtain⟨L,ys,rfl,e,a⟩:=rT t r1 B
    cases C:eV M with
    |some ns =>
     rw[C]at q;dsimp only at q;by_cases z:ns.length<64
     .rw[c_ z]at q;rw[rO C]at a;rw[Ec a]at e;refine u3 P s Z H _ O Q j r ⟨L,ns,rfl,e,z,λl i=>?_⟩;obtain⟨g,E⟩:=t.new i (o:=.lst ((cB ns).map .int)) ⟨_,rfl,RPs.ints _⟩;exact q _ _ _ E g (.loc (by rw[<-t.len];simp))
     .rw[f_ z]at q;exact q.elim
    |none =>
     rw[C]at q
     cases F:iM M with
     |none=>rw[F]at q;exact q.elim
     |some u =>
      rw[F]at q;dsimp only at q;by_cases z:(∀k∈u,k≠[])/\u.length<=66
      .rw[c_ z]at q;rw[sk F]at a;refine uZ P s Z H _ O Q j r ⟨L,ys,u,rfl,e,rY a,z.1,z.2,λl S i R=>?_⟩;obtain⟨g,E⟩:=t.new i (o:=.lst ((cU u).map kP)) ⟨_,rfl,rC R⟩;exact q _ _ _ E g (.loc (by rw[<-t.len];simp))
      .rw[f_ z]at q;exact q.elim
end
def Gj:n5 X b (λ_ _=>.bad):=λi s Z H D e ⟨U,a,h,j,g,q⟩=>q.elim
end MM
namespace MM
open PySem.Spec PyProof.Rows L2
def MIt.ok_app{a:MIt}{h g:MH}(o:a.ok h):a.ok (h++g):=λp e=>uE (o p e)
def pK{L:MIt}{e:MH}{gt:Mg}{mt:Mx Bool}{G:Mx PV}{E:Nat}{fr:l_}(ok:L.ok e)(p:PV->Bool)(f:PV->PV):∀(xs:R4)(s:l_)(a:R4)(j:MH),s.length=E->a.length+xs.length<=1000 ->
  (∀x∈xs,∀(s:l_)(g:MH),s.length=E->∃i:l_,i.length=E/\gt x (s++fr) (e++g)=.nx (i++fr) (e++g)/\∃o,mt (i++fr) (e++g)=.ok (p x) (e++g++o)/\(p x=I->∃u,G (i++fr) (e++g++o)=.ok (f x) (e++g++o++u))) ->
  ∃g,BK L e.length gt mt G xs (s++fr) (e++.lst a::j)=.ok () (e++.lst (a++(xs.filter p).map f)::g)
 |[],s,a,j,hv,C,l=>⟨j,by rw[xt (MIt.ok_app ok)];simp⟩
 |x::r,s,a,j,hv,C,l=>by
  obtain⟨i,z,e1,o,e2,e3⟩:=l x (by simp) s (.lst a::j) hv;have t:=λ(y:PV)(M:y∈r)=>l y (oh _ M)
  cases B:p x with
  |true =>
   obtain⟨u,e4⟩:=e3 B;rw[B]at e2;have O:(e++.lst a::j++o++u)[e.length]?=J (.lst a):=by rw[Ei,Ei,DG (i3 _)];simp
   rw[ym (MIt.ok_app ok) e1 e2 e4 O (by simp at C;lia)];have F:(e++.lst a::j++o++u).set e.length (.lst (a++[f x]))=e++.lst (a++[f x])::(j++o++u):=by rw[Ei,Ei,List.set_append_right _ _ (i3 _)];simp
   rw[F];obtain⟨H,e5⟩:=pK ok p f r i (a++[f x]) (j++o++u) z (by simp at C ⊢;lia) t;rw[e5,QA B];simp
  |false =>
   rw[B]at e2;rw[Jh (MIt.ok_app ok) e1 e2];have F:e++.lst a::j++o=e++.lst a::(j++o):=by simp
   rw[F];obtain⟨H,e5⟩:=pK ok p f r i a (j++o) z (by simp at C;lia) t;refine⟨H,?_⟩;rw[e5,QB (by simp[B])]
def AC{it:MIt}{Z:l_}{h a:MH}{mi:Mx MIt}{gt:Mg}{mt:Mx Bool}{me:Mx PV}{nv:Nat}{fm:R8}(em:mi Z h=.ok it a)(ok:it.ok a)(t:it.xs.length<=1000)(p:PV->Bool)(f:PV->PV)(l:∀x∈it.xs,∀(r:l_)(g:MH),r.length=nv->∃j:l_,j.length=nv/\gt x (r++fm.map λi=>(Z[i]?).getD Y) (a++g)=.nx (j++fm.map λi=>(Z[i]?).getD Y) (a++g) /\
   ∃o,mt (j++fm.map λi=>(Z[i]?).getD Y) (a++g)=.ok (p x) (a++g++o)/\(p x=I->∃s,me (j++fm.map λi=>(Z[i]?).getD Y) (a++g++o)=.ok (f x) (a++g++o++s))):
  ∃g,bF nv fm mi gt mt me Z h=.ok (.loc a.length) (a++.lst ((it.xs.filter p).map f)::g):=by
 obtain⟨g,e⟩:=pK ok p f it.xs (List.replicate nv Y) [] [] (by simp) (by simpa using t) l;refine⟨g,?_⟩;rw[uT,em];simp only[Out.bind_ok];delta EF;rw[e];simp
end MM
namespace MM
open PySem.Spec PyProof.Rows L2 SetT SortT
section
variable{h:MH}{i:Int}{xs:R4}{n:Nat}
def tJ(e:h[n]?=J (.lst xs)):bM h (.loc n)=J xs:=by simp[bM,e]
def v8:∀(m:Nat),jS (List.replicate m (.bl I))=J (List.replicate m I)
 |0=>rfl
 |m+1=>by
  rw[HK];unfold jS;rw[v8 m];rfl
def AI(e:h[n]?=J (.lst (List.replicate m (.bl I)))):B_ [.loc n] h=.ok (.bl I) h:=by simp[B_,tJ e,v8]
end
def itR1'(em:m Z h=.ok [.int j] h1)(z:-(2^62)<=j/\j<2^62):gi m Z h=.ok ⟨bX 0 j.toNat,[]⟩ h1:=by simp_all
def P2(em:m Z h=.ok [.int (n:Int)] h1)(a:n<=100000):gi m Z h=.ok ⟨bX 0 n,[]⟩ h1:=by
 have g:-(2^62)<=(n:Int):=Int.le_trans (by decide) (Int.natCast_nonneg n);have e:(n:Int)<2^62:=Int.lt_of_le_of_lt (Int.ofNat_le.mpr a) (by decide)
 have:=itR1' em ⟨g,e⟩
 rwa [Dn]at this
def gr:∀(k:R6),PyData.canLayAll0 (k.map .int)=I/\PyData.depthAll (k.map .int)<=1
 |[]=>⟨rfl,by simp[PyData.depthAll]⟩
 |i::k=>by
  obtain⟨a,b⟩:=gr k;constructor
  .simp[PyData.canLayAll0,PyData.canLay0,a]
  .simp only[wj,PyData.depthAll,PyData.depth];lia
def vb:∀(e:R7),PyData.canLayAll0 (e.map λk=>.tuple (k.map .int))=I/\PyData.depthAll (e.map λk=>.tuple (k.map .int))<=2
 |[]=>⟨rfl,by simp[PyData.depthAll]⟩
 |k::e=>by
  obtain⟨a,b⟩:=vb e;obtain⟨c,d⟩:=gr k;constructor
  .simp[PyData.canLayAll0,PyData.canLay0,a,c]
  .simp only[wj,PyData.depthAll,PyData.depth];lia
end MM
namespace MM
open PySem.Spec PyProof.Rows L2
def oP(h:MH):PV->Option Bool
 |.non=>J T
 |.bl b=>J b
 |.int i=>J (i != 0)
 |.str _=>Y
 |.tup xs=>J (!xs.isEmpty)
 |.frl xs=>J (!xs.isEmpty)
 |.loc n=>match h[n]? with
  |some (.lst xs)=>J (!xs.isEmpty)
  |_=>Y
def P4(m:Mx PV):Mx Bool:=λZ h=>(m Z h).bind λv a=>match oP a v with
 |some b=>.ok b a
 |none=>.bad
section
variable{X:Cx}{N W G:R5}{k:Nat}
def mF{K:ij}{U:SM}{H:Hp}{xs:R4}{ys:List V}(r:RPs K U H xs ys):(!xs.isEmpty)=!ys.isEmpty:=by cases r<;>rfl
def JP{e:Expr}{m:Mx PV}(h:ME X e m)(O:∀l,isTrue e X.env l=(do let v <-l;standAt e.pos;holding [v] (truthy v)):=by intro _;rfl):MT X e (P4 m):=by
 refine PT.imp (CK h O) λZ H Q ⟨U,y,h,L,P,q⟩=>⟨U,y,h,L,P,Ful.bind q λu t x S h1 _ l1 g F j=>?_⟩
 cases F with
 |non=>exact⟨T,rfl,j u t _ (Le.refl _ _) g rfl⟩
 |bl b=>exact⟨b,rfl,j u t _ (Le.refl _ _) g rfl⟩
 |int i=>exact⟨_,rfl,j u t _ (Le.refl _ _) g rfl⟩
 |str i=>exact j.elim
 |@tup xs a ys s r=>exact⟨_,.inr (.inl ⟨ys,s,rfl⟩),by rw[<-mF r];exact j u t _ (Le.refl _ _) g rfl⟩
 |@frl xs a ys s r=>exact⟨_,.inl ⟨ys,s.sq,rfl⟩,by rw[<-mF r];exact j u t _ (Le.refl _ _) g rfl⟩
 |@loc n a e =>
  obtain⟨o,B,R⟩:=g.obj e
  cases o with
  |lst xs =>
   obtain⟨ys,C,M⟩:=R;simp only[oP,B]at j;exact⟨_,.inl ⟨ys,.inl (.inl C),rfl⟩,by rw[<-mF M];exact j u t _ (Le.refl _ _) g rfl⟩
  |dic E=>simp only[oP,B]at j;exact j.elim
  |exc z=>simp only[oP,B]at j;exact j.elim
inductive Dh(K:ij)(mg:Dx)(cs:R5):SM->R5->Prop where
 |nil:Dh K mg cs [] []
 |cons{D:Addr}{sup:R5}{Ds:SM}{sups:R5}(h:oI K mg (.ref D) cs sup)(t:Dh K mg cs Ds sups):Dh K mg cs (D::Ds) (sup++sups)
def RM(a:SM):TA:=λZ H Q=>Q (a.map V.ref) H
def N9(X:Cx)(i:R5)(g:SW)(a:R5):Prop:=∃e,Dh X.K X.mg i e a/\PA X g (RM e)/\e.length=g.length
def Gk:N9 X cs [] []:=⟨[],.nil,PA.imp d7 λZ H Q q=>q,rfl⟩
def dE(g:Good X N W G k){c:Str}{l e a:R5}{j:Nat}{q:Pos}{i:SW}(o:G[j]?=J c)(s:∃D,X.mg c=J (.ref D)/\oI X.K X.mg (.ref D) l e)(t:N9 X l i a)(B:starEach (.Name c q::i) X.env=(T,eval (.Name c q) X.env)::starEach i X.env:=by rfl):N9 X l (.Name c q::i) (e++a):=by
 obtain⟨D,z,y⟩:=s;obtain⟨r,C,E,u⟩:=t;have d:=g.dbg c (n4 _ (aA o));exact⟨D::r,.cons y C,PA.imp (bS (w6 (v:=.ref D) (g.gl c (aA o)) z rfl d.1) E B) λZ H Q q=>q,congrArg (·+1) u⟩
def wA{K:ij}{mg:Dx}{g:R5}{e:SM}{a:R5}(h:Dh K mg g e a){t:String}(i:t∈["NoneType","bool","int","str","tuple","list","dict"]):PySem.W.kitAny K (.type t) (e.map Value.ref)=J T:=by
 induction h with
 |nil=>rfl
 |cons j _ l=>rw[wj];unfold PySem.W.kitAny;rw[j.ty t i];exact l
def zr{K:ij}{mg:Dx}{j:R5}{i:SM}{a:R5}(h:Dh K mg j i a){x:Str}(s:x∈j){C:Addr}(o:mg x=J (.ref C)):PySem.W.kitAny K (.ref C) (i.map Value.ref)=J (a.contains x):=by
 induction h with
 |nil=>rfl
 |@cons D e i a l _ t =>
  rw[wj];unfold PySem.W.kitAny;obtain⟨u,g,_,_,r⟩:=l.ex x s;rw[o]at g;cases g;rw[r]
  cases z:e.contains x with
  |true =>
   have:(e++a).contains x=I:=by rw[List.contains_iff_mem]at z ⊢;exact C7 _ z
   rw[this]
  |false =>
   simp_all
def Bg{e:SM}:∀{a:SQ},aI (e.map V.ref) a->a=e.map Value.ref:=by
 induction e with
 |nil=>intro a r;cases r;rfl
 |cons D e j =>
  intro a r
  cases r with
  |cons i g=>rw[j g];cases i;rfl
def BA(g:Good X N W G k){a:Expr}{m:Mx PV}{y:SW}{E l:R5}{i:Nat}{p an pt:Pos}{kt}(hi:G[i]?=J "isinstance")(hm:X.mg "isinstance"=Y)(IC:N9 X E y l){c0:Str}{P:R5}(a0:∃D,X.mg c0=J (.ref D)/\oI X.K X.mg (.ref D) E P)(hl:y.length<=100)(ha:ME X a m)(he:starEach [a,.Tuple y kt pt] X.env=(T,eval a X.env)::starEach [.Tuple y kt pt] X.env:=by rfl)(a9:starEach [.Tuple y kt pt] X.env=[(T,eval (.Tuple y kt pt) X.env)]:=by rfl)(as:(backTo an (starEach [.Tuple y kt pt] X.env)).any (·.1)=T:=by rfl):
  ME X (.Call (.Name "isinstance" p) [a,.Tuple y kt pt] [] an) (wx (bi E l) m):=by
 obtain⟨Ds,u,bf,ab⟩:=IC;obtain⟨D0,_,a5⟩:=a0;have d1:=g.dbg _ (n4 _ (aA hi));have F:ce X (.builtin "isinstance") (λxs H Q=>∃R O,xs=[R,.ref O]/\SqT X.K H O (Ds.map V.ref)/\uJ X (bi E l) R H Q):=by
  intro Kt s Z H xs us Q j r ⟨R,O,e,a3,U,h,x,L,rx,q⟩;subst e
  cases r with
  |cons r1 t1=>cases t1 with
   |cons r2 t2 =>
    cases t2;cases r2;obtain⟨bt,rv,ht,_⟩:=j.tuple a3;have ei:=Bg rv;subst ei;obtain⟨⟨oc,od,bv,bm⟩,ho,a2,nn,a4⟩:=ht;subst a2;subst a4;have plain:∀t,DJ h x=J t->bi E l x h=.ok (.bl T) h->wpAny (model X.prog X.w) X.A (call (.builtin "isinstance") [_,_]) (EP X Kt Z Q) X.xe s:=λt et ef=>by
     rw[ef]at q;obtain⟨a7,ax,Hq,Za,hz⟩:=nI j L rx r1 et;exact PySem.W.kia_tup Za j.kIn hz ho (wA u a7) ax λtk=>⟨.bl _,H,j.tok _,rfl,q U H _ (Le.refl _ _) L (.bl _)⟩
    cases x with
    |non=>exact plain _ rfl rfl
    |bl b=>exact plain _ rfl rfl
    |int i=>exact plain _ rfl rfl
    |str i=>exact plain _ rfl rfl
    |tup i=>exact plain _ rfl rfl
    |frl i=>exact plain _ rfl rfl
    |loc n =>
     cases B:h[n]? with
     |none=>simp only[bi,B]at q;exact q.elim
     |some o =>
      cases o with
      |lst xs=>exact plain "list" (by simp[DJ,B]) (by simp[bi,B])
      |dic xs=>exact plain "dict" (by simp[DJ,B]) (by simp[bi,B])
      |exc ex =>
       simp only[bi,B]at q;by_cases hc:E.contains ex.cls=I
       .rw[c_ hc]at q
        cases rx with
        |@loc n a e =>
         cases r1;obtain⟨o',al,ro⟩:=L.obj e;rw[B]at al;cases al;obtain⟨_,C,M,hH⟩:=ro;have hx:ex.cls∈E:=by simpa using hc
         obtain⟨C',S,EQ,ay,_⟩:=a5.ex ex.cls hx;rw[M]at S;cases S;obtain⟨hz,_,_⟩:=(show ObjOk X.prog X.w H s.heap a (.ext (jq a C))from j.hok a _ hH);exact PySem.W.kia_tup (wz EQ ay) j.kIn hz ho (zr u hx M) (λz=>nomatch z) λtk=>⟨.bl _,H,j.tok _,rfl,q U H _ (Le.refl _ _) L (.bl _)⟩
       .rw[f_ hc]at q;exact q.elim
 refine PE.imp (eG F (g.gl _ (aA hi)) hm PyProof.Rows.Boot.«isinstance» (bS ha (bS (uM bf) d7 a9) he) d1.2.2 d1.1 he as) λZ H Q ⟨U,a1,h,rs,L,q⟩=>?_;refine⟨U,a1,h,rs,L,Ful.bind q λU1 H1 x R h1 _ l1 a8 rx q1=>?_⟩;refine⟨by rw[tu,ab];exact tx hl (by decide),λO a6=>?_⟩;obtain⟨ap,l2⟩:=a8.tup a6 (Ds.map V.ref);exact⟨R,O,rfl,SqT.of bI,U1,h1,x,ap,rx.le l2,(Ful.le l2 q1).zero⟩
end
end MM
namespace MM
open PySem.Spec PyProof.Rows L2 PySem.W
def iY(k:Int):R6->SG
 |[]=>Y
 |x::r=>if x=k then J 0 else(iY k r).map (·+1)
def Bh:isInt k (.int a t)=decide (a=k):=by simp[isInt,QE]
def Hr:∀{ns:R6}{e:SQ},aI (ns.map V.int) e->kf_ints e=I/\kf_at k e=iY k ns
 |[],_,r=>by cases r;exact⟨rfl,rfl⟩
 |n::ns,_,r=>by
  cases r with
  |cons i g =>
   obtain⟨t,rfl⟩:=i;obtain⟨a,b⟩:=Hr g;refine⟨a,?_⟩;unfold kf_at iY;rw[Bh,b];by_cases z:n=k
   .simp[z]
   .simp only[z];cases iY k ns<;>rfl
def gM(n:Nat)(a:R4)(h:MH):SX:=match a with
 |[.int k]=>(match h[n]? with
  |some (.lst xs)=>(match eV xs with
   |some ns=>(match iY k ns with
    |some j=>.ok (.int j) h
    |none=>.bad)
   |none=>.bad)
  |_=>.bad)
 |_=>.bad
def vz:∀{xs:R4}{ns:R6},eV xs=J ns->xs=ns.map .int
 |[],ns,e=>by cases e;rfl
 |x::xs,ns,e=>by
  cases x with
  |int i =>
   rw[eV,y9]at e;obtain⟨a,e1,rfl⟩:=e;rw[vz e1];rfl
  |_=>cases e
def ot{K:ij}{U:SM}{H:Hp}:∀{ns:R6}{ys:List V},RPs K U H (ns.map .int) ys->ys=ns.map V.int
 |[],_,r=>by cases r;rfl
 |n::ns,_,r=>by cases r with|cons e a=>cases e;rw[ot a];rfl
section
variable{X:Cx}
def kI:Hc X "list.index" (KQ X gM):=by
 intro Kt s Z H x vs v us Q g rx rv ⟨U,h,n,a,ps,e,en,R,rp,q⟩;subst e;obtain⟨o,eo,ro⟩:=R.obj en;unfold gM at q
 cases rp with
 |nil=>exact q.elim
 |cons M t1 =>
  cases t1 with
  |cons _ _=>cases M<;>exact q.elim
  |nil =>
   cases M with
   |int k =>
    rw[eo]at q
    cases o with
    |lst xs =>
     dsimp only at q
     cases F:eV xs with
     |none=>rw[F]at q;exact q.elim
     |some ns =>
      rw[F]at q;dsimp only at q
      cases u:iY k ns with
      |none=>rw[u]at q;exact q.elim
      |some j =>
       rw[u]at q;obtain⟨ys,ey,O⟩:=ro;rw[vz F]at O
       have:=ot O
       subst this;cases rx
       cases rv with
       |cons B G =>
        cases G;obtain⟨t,rfl⟩:=B;obtain⟨z,l,nn,r,P,e⟩:=g.lstM ey;obtain⟨k1,S⟩:=Hr r;rw[u]at S;obtain⟨hj,L,C⟩:=kf_at_spec S;have hs:=sizeLine_eq;refine call_meets PySem.F.slot_list_index ⟨_,e,rfl⟩ PySem.F.entry_list_index (PySem.F.args_list_index_2 _ _)
         (MeetsSeq.list_index a l.toArray nn (.int k t) (isInt k) (λy W=>kf_eq k1 y (by simpa using W)) j (by simpa using hj) ⋯ (by simpa using L) (λi hi E=>by simpa using C i (by simpa using hi) E)) ⟨e,?_⟩
        exact⟨.int j,H,g.tok _,⟨_,rfl⟩,q U H _ (Le.refl _ _) R (.int _)⟩
    |_=>exact q.elim
   |_=>exact q.elim
end
end MM
namespace MM
open PySem.Spec PyProof.Rows L2
section
variable{X:Cx}
def jo:R4->Option (R5)
 |[]=>J []
 |.str x::r=>(jo r).map (x::·)
 |_=>Y
def Aq{K:ij}{U:SM}{H:Hp}:∀{xs:R4}{ys:List V}{a:SQ}{g:R5},RPs K U H xs ys->aI ys a->jo xs=J g->∃l:List (Str×Tok),a=strValues l/\l.map (·.1)=g:=by
 intro xs
 induction xs with
 |nil =>
  intro ys a g r v e;cases r;cases v;cases e;exact⟨[],rfl,rfl⟩
 |cons x xs o =>
  intro ys a g r v e
  cases r with
  |cons j u =>
   cases v with
   |cons s y =>
    cases j with
    |str z =>
     unfold jo at e;rw[y9]at e;obtain⟨i,e1,rfl⟩:=e;obtain⟨l,e2,e3⟩:=o u y e1;obtain⟨t,rfl⟩:=s;exact⟨(z,t)::l,by rw[e2];rfl,by rw[<-e3];rfl⟩
    |_=>cases e
def jM(z:Str)(xs:R4)(h:MH):SX:=match xs with
 |[.loc n]=>(match h[n]? with
  |some (.lst ys)=>(match jo ys with
   |some a=>if JoinOk z a=I then .ok (.str (Txt.join z a)) h else .bad
   |none=>.bad)
  |_=>.bad)
 |_=>.bad
def MK(f:Str->R4->MH->SX)(m:Mx PV)(i:Mx (R4)):Mx PV:=λZ h=>(m Z h).bind λo e=>match o with
 |.str x=>(i Z e).bind λa g=>(f x a g).ne
 |_=>.bad
def Q0(X:Cx)(f:Str->R4->MH->SX):V->List V->Hp->VK->Prop:=λe a H Q=>∃U h z xs,e=.str z/\RH X.K X.mg U H h/\RPs X.K U H xs a/\iN X (RV' X) U H (f z xs h) Q
def Gm:Hc X "str.join" (Q0 X jM):=by
 intro Kt s Z H x vs v us Q g L F ⟨U,h,z,ps,e,y,rp,q⟩;subst e;obtain⟨t,rfl⟩:=L
 cases rp with
 |nil=>exact q.elim
 |cons j C =>
  cases C with
  |cons _ _=>cases j<;>exact q.elim
  |nil =>
   cases j with
   |@loc n a W =>
    dsimp only[jM]at q;obtain⟨o,P,S⟩:=y.obj W;rw[P]at q
    cases o with
    |lst xs =>
     obtain⟨ys,E,O⟩:=S;obtain⟨u,rfl,M⟩:=F.one;cases M;obtain⟨_,B,n',r,hl,e⟩:=g.lstM E;dsimp only at q
     cases i:jo xs with
     |none=>rw[i]at q;exact q.elim
     |some ts =>
      rw[i]at q;dsimp only at q
      split at q
      .rename_i G
       obtain⟨l,rfl,R⟩:=Aq O r i;exact SC.join ⟨_,e,rfl,_,rfl⟩ R G λt' k=>⟨.str _,H,g.tok k,⟨t',rfl⟩,q U H _ (Le.refl _ _) y (.str _)⟩
      .exact q.elim
    |_=>exact q.elim
   |_=>exact q.elim
variable{o e:Expr}{es:SW}{name:Str}{apos cpos:Pos}{id:String}{f:Str->R4->MH->SX}{m:Mx PV}{ma:Mx (R4)}
def ML(slot:Slot "str" name id)(r:typeOf (.builtin id)=pure (.type "method_descriptor"))(O:Hc X id (Q0 X f))(G:ME X o m)(R:MA X (e::es) ma)(g:attributeBase o name X.env (eval o X.env)=eval o X.env:=by rfl)(l:((backTo cpos (starEach (e::es) X.env)).all (λx=>!x.1)&&(backToKw cpos (keywordEach [] X.env)).all (λx=>x.1.isSome)
   && decide ((e::es).length+([]:List Keyword).length+(if([]:List Keyword).isEmpty then 0 else 1)<30))=I:=by rfl)(i:(apos.endLine==cpos.line)=I:=by rfl)(L:starEach (e::es) X.env=(T,eval e X.env)::starEach es X.env:=by rfl)(a:(backTo cpos (starEach es X.env)).any (·.1)=T:=by rfl):
  ME X (.Call (.Attribute o name apos) (e::es) [] cpos) (MK f m ma) :=
 PE.imp (Hd PySem.F.plainAttrs_str slot r O G R g l i L a) λZ H Q tm=>by
  obtain⟨U,j,h,B,rh,q⟩:=tm;refine⟨U,j,h,B,rh,?_⟩;refine Ful.bind q λC H1 x x' W _ l1 t M y=>?_
  cases M with
  |str z =>
   refine⟨rfl,C,j,W,B.le l1,t,?_⟩;exact Ful.bind y λF H2 S E h2 _ l2 s u P=>⟨F,h2,z,S,rfl,s,u,P.zero⟩
  |_=>exact y.elim
@[simp]theorem P5:MK f m ma Z h=(m Z h).bind λo h1=>match o with
 |.str x=>(ma Z h1).bind λvs h2=>(f x vs h2).ne
 |_=>.bad:=rfl
end
end MM
namespace L2
open PySem.Spec PyProof.Rows
section
variable{X:Cx}{e st:Expr}{te:TE}{hi:Option Expr}{th ts:TO}{pos p2:Pos}
end
end L2
namespace MM
open PySem.Spec PyProof.Rows L2
section
variable{X:Cx}{pos p2:Pos}
end
section
variable{X:Cx}{k:Nat}
end
end MM
namespace MM
open PySem.Spec PyProof.Rows L2 SetT SortT
section
variable{X:Cx}{N W G:R5}{k:Nat}
end
end MM
namespace L2
open PySem.Spec PyProof.Rows
section
variable{X:Cx}{a:Expr}{ta:TE}{pos:Pos}
end
end L2
namespace MM
open PySem.Spec PyProof.Rows L2
section
variable{X:Cx}{pos:Pos}
end
section
variable{X:Cx}
end
section
variable{X:Cx}{k:Nat}
end
end MM
namespace HT
open PyProof.Rows
section
open PySem.SeqAt
open PySem.AutoSeq1 (wpAny_loadPart')
open PySem.MeetsSeq PySem.MeetsSeq2 PySem.MeetsSeq3
end
section
variable{prog:Program}{w:World}{A:Around}{E:SA}{s:Shared}
end
end HT
namespace L2
open PySem.Spec PyProof.Rows
section
variable{X:Cx}{e st:Expr}{te:TE}{ts:TO}{pos p2:Pos}
end
end L2
namespace MM
open PySem.Spec PyProof.Rows L2
section
variable{X:Cx}{k:Nat}{pos:Pos}
end
end MM
namespace L2
open PySem.Spec PyProof.Rows
section
variable{X:Cx}{a b c d:Expr}{ta tb tc td:TE}{r r' r2:R2}{op op' op2:CmpOp}{pos:Pos}
end
end L2
namespace MM
open PySem.Spec PyProof.Rows L2
section
variable{X:Cx}{a b c d:Expr}{ma mb mc md:Mx PV}{f g' g2:PV->PV->MH->SX}{op op' op2:CmpOp}{pos:Pos}{k:Nat}
def vK:Expr->Bool
 |.Starred _ _=>T
 |_=>I
def uf(h:vK e=I):starEach (e::es) env=(T,eval e env)::starEach es env:=by cases e<;>first | rfl | cases h
def JQ(j:ME X e m)(g:MA X es ms)(i:vK e=I:=by rfl):MA X (e::es) (ae m ms):=ag j g (uf i)
structure w_(X:Cx)(e:Expr)(m:Mx PV):Prop where
 h:ME X e m
structure MN(X:Cx)(es:SW)(ms:Mx (R4)):Prop where
 h:MA X es ms
structure MP(X:Cx)(st:Stmt)(m:kl):Prop where
 h:MS X st m
structure kx(X:Cx)(st:List Stmt)(m:kl):Prop where
 h:n5 X st m
section
variable{e:Expr}{es:SW}{m ma mb:Mx PV}{ms:Mx (R4)}{st:Stmt}{rest:List Stmt}{u v:kl}{f:PV->PV->MH->SX}{N W G:R5}{x:Str}
def aN:MN X [] b_:=⟨ah⟩
def ao(j:w_ X e m)(g:MN X es ms)(i:vK e=I:=by rfl):MN X (e::es) (ae m ms):=⟨JQ j.h g.h i⟩
def g_(h:ME X e m):w_ X e m:=⟨h⟩
def Dq(h:MN X es ms):w_ X (.List es pos) (aR ms):=⟨dk h.h⟩
def Di(h:MN X es ms):w_ X (.Tuple es j pos) (br ms):=⟨v3 h.h⟩
def JR{op:Operator}{a b:Expr}(g:BR X (binaryOp op) f)(j:w_ X a ma)(i:w_ X b mb):w_ X (.BinOp a op b pos) (ai f ma mb):=⟨aK g j.h i.h⟩
def N_(j:w_ X a ma)(g:w_ X b mb)(i:nM b:=by exact λ_ _=>rfl):w_ X (.Subscript a b pos) (ai aL ma mb):=⟨Hi j.h g.h i⟩
def li(h:MS X st u):MP X st u:=⟨h⟩
def o0(g:Good X N W G k)(i:Nat){j:Pos}(r:w_ X e m)(s:N[i]?=J x:=by rfl)(o:W[i]?=J x:=by rfl)(l:swapsWith e (J (.Name x j)) pos.line X.env=pure T:=by rfl):
  MP X (.Assign [.Name x j] e pos) (aO i m):=⟨IR g i s o r.h l⟩
def px(g:w_ X e m):MP X (.Return (J e) pos) (aQ m):=⟨IQ g.h⟩
def k4(h:MP X st u):kx X [st] u:=⟨FH h.h⟩
def ka(g:MP X st u)(i:kx X rest v):kx X (st::rest) (aC u v):=⟨Bz g.h i.h⟩
end
end
end MM
namespace PU
open MM
def ys{α:Type}{a b:α}(h:a=b):a=b:=h
inductive D where
 |non | bl (b:Bool) | int (i:Int) | str (x:Str) | tup (xs:List D) | lst (xs:List D) | dic | exc (c:Str) | pen
abbrev _root_.R9:=List D
abbrev _root_.SF:=Option D
abbrev h8:=Int×Int×Int
abbrev aE:=List (SF)
def cS(h:MH)(p:Nat)(s:h8):Prop:=h[p]?=J (.lst [.int s.1,.int s.2.1,.int s.2.2])
inductive P6(P:R4->Prop)(v:PV):Prop
 |mk(xs:R4)(e:v=.tup xs)(r:P xs):P6 P v
inductive Q1(h:MH)(O:R8)(P:R4->Prop)(v:PV):Prop
 |mk(n:Nat)(xs:R4)(e:v=.loc n)(no:n∉O)(g:h[n]?=J (.lst xs))(r:P xs):Q1 h O P v
inductive P7(h:MH)(O:R8)(o:MO)(v:PV):Prop
 |mk(n:Nat)(e:v=.loc n)(no:n∉O)(g:h[n]?=J o):P7 h O o v
inductive P8(P:PV->Prop)(Q:R4->Prop)(vs:R4):Prop
 |mk(x:PV)(r:R4)(e:vs=x::r)(a:P x)(b:Q r):P8 P Q vs
mutual
def Rp(p:Nat)(h:MH)(O:R8):D->PV->Prop
 |.non,v=>v=.non
 |.bl b,v=>v=.bl b
 |.int i,v=>v=.int i
 |.str x,v=>v=.str x
 |.tup a,v=>P6 (Rps p h O a) v
 |.lst a,v=>Q1 h O (Rps p h O a) v
 |.dic,v=>P7 h O (.dic []) v
 |.exc c,v=>P7 h O (.exc ⟨c,[]⟩) v
 |.pen,v=>v=.loc p
def Rps(p:Nat)(h:MH)(O:R8):R9->R4->Prop
 |[],a=>a=[]
 |d::e,a=>P8 (Rp p h O d) (Rps p h O e) a
end
def bo{h:MH}{n:Nat}{o:MO}(e:h[n]?=J o):n<h.length:=(mw.mp e).1
structure Mv(O:R8)(h:MH)(O':R8)(h':MH):Prop where
 keep:∀n:Nat,n<h.length->n∉O->h'[n]?=h[n]?
 new:∀o∈O',o∈O\/h.length<=o
def Mv.get{O a:R8}{h g:MH}(s:Mv O h a g){n:Nat}{o:MO}(e:h[n]?=J o)(no:n∉O):n∉a/\g[n]?=J o:=by
 have i:=bo e;refine⟨λz=>?_,(s.keep n i no).trans e⟩;rcases s.new n z with q|q
 .exact no q
 .lia
section
variable{p:Nat}{O O':R8}{h h':MH}
def Rp.mv(s:Mv O h O' h')(r:Rp p h O d v):Rp p h' O' d v:=by
 refine D.rec (motive_2:=λl=>∀o,Rps p h O l o->Rps p h' O' l o)
  (λ_ r=>r) (λ_ _ r=>r) (λ_ _ r=>r) (λ_ _ r=>r) (λl i _ r=>?_) (λl i _ r=>?_) (λ_ r=>?_) (λ_ _ r=>?_) (λ_ r=>r) (λ_ r=>r) (λ_ _ i j _ r=>?_) d v r
 .obtain⟨xs,e,r⟩:=r;exact⟨xs,e,i _ r⟩
 .obtain⟨n,xs,e,no,g,r⟩:=r;exact⟨n,xs,e,(s.get g no).1,(s.get g no).2,i _ r⟩
 .obtain⟨n,e,no,g⟩:=r;exact⟨n,e,(s.get g no).1,(s.get g no).2⟩
 .obtain⟨n,e,no,g⟩:=r;exact⟨n,e,(s.get g no).1,(s.get g no).2⟩
 .obtain⟨x,t,e,a,b⟩:=r;exact⟨x,t,e,i _ a,j _ b⟩
def Rps.mv(s:Mv O h O' h')(r:Rps p h O g vs):Rps p h' O' g vs:=by
 induction g generalizing vs with
 |nil=>exact r
 |cons d g i=>obtain⟨x,t,e,a,b⟩:=r;exact⟨x,t,e,a.mv s,i b⟩
def Rps.length(r:Rps p h O g vs):vs.length=g.length:=by
 induction g generalizing vs with
 |nil=>rw[show vs=[]from r];rfl
 |cons d g i=>obtain⟨x,t,e,a,b⟩:=r;rw[e,C1,C1,i b]
def Rps.get{j:R9}{l:R4}{i:Nat}{d:D}(r:Rps p h O j l)(g:j[i]?=J d):∃v,l[i]?=J v/\Rp p h O d v:=by
 induction j generalizing l i with
 |nil=>cases g
 |cons d j o =>
  obtain⟨x,t,e,a,b⟩:=r;subst e
  cases i with
  |zero=>cases g;exact⟨x,rfl,a⟩
  |succ i=>have z:=@o t i b g;exact z
def Rps.app(r:Rps p h O g vs)(s:Rps p h O es ws):Rps p h O (g++es) (vs++ws):=by
 induction g generalizing vs with
 |nil=>rw[show vs=[]from r];exact s
 |cons d g i=>obtain⟨x,t,e,a,b⟩:=r;subst e;exact⟨x,t++_,rfl,a,i b⟩
def Rps.take(n:Nat)(r:Rps p h O g vs):Rps p h O (g.take n) (vs.take n):=by
 induction g generalizing vs n with
 |nil=>rw[show vs=[]from r];cases n<;>rfl
 |cons d g i =>
  obtain⟨x,t,e,a,b⟩:=r;subst e
  cases n with
  |zero=>rfl
  |succ n=>exact⟨x,t.take n,rfl,a,i n b⟩
def Rps.drop(n:Nat)(r:Rps p h O g vs):Rps p h O (g.drop n) (vs.drop n):=by
 induction g generalizing vs n with
 |nil=>rw[show vs=[]from r];cases n<;>rfl
 |cons d g i =>
  cases n with
  |zero=>exact r
  |succ n=>obtain⟨x,t,e,a,b⟩:=r;subst e;exact i n b
def Rps.set(i:Nat)(r:Rps p h O g vs)(q:Rp p h O d v):Rps p h O (g.set i d) (vs.set i v):=by
 induction g generalizing vs i with
 |nil=>rw[show vs=[]from r];rfl
 |cons l g j =>
  obtain⟨x,t,e,a,b⟩:=r;subst e
  cases i with
  |zero=>exact⟨v,t,rfl,q,b⟩
  |succ i=>exact⟨x,t.set i v,rfl,a,j i b⟩
end
inductive Q2(p:Nat)(h:MH)(L:Nat)(O:R8)(d:D)(v:PV):Prop
 |mk(n:Nat)(xs:R4)(ds:R9)(e:d=.lst ds)(e':v=.loc n)(o:n∈O)(l:L<=n)(g:h[n]?=J (.lst xs))(r:Rps p h O ds xs):Q2 p h L O d v
def Vw(p:Nat)(h:MH)(L:Nat)(O:R8)(d:D)(v:PV):Prop:=Rp p h O d v\/Q2 p h L O d v
def Vws(p:Nat)(h:MH)(L:Nat)(O:R8):R9->R4->Prop
 |[],a=>a=[]
 |d::e,a=>P8 (Vw p h L O d) (Vws p h L O e) a
inductive MQ(p:Nat)(L:Nat)(O:R8)(h:MH)(ds:R9)(v:PV):Prop
 |mk(n:Nat)(xs:R4)(e:v=.loc n)(l:L<=n)(g:h[n]?=J (.lst xs))(r:Rps p h (n::O) ds xs):MQ p L O h ds v
def Frs(p:Nat)(L:Nat)(O:R8)(h:MH)(d:D)(v:PV):Prop:=∀a,d=.lst a->MQ p L O h a v
structure KB(p:Nat)(h h':MH):Prop where
 len:h.length<=h'.length
 keep:∀n:Nat,n<h.length->n≠p->h'[n]?=h[n]?
def KB.refl(p:Nat)(h:MH):KB p h h:=⟨i3 _,λ_ _ _=>rfl⟩
def KB.trans(a:KB p h h1)(b:KB p h1 h2):KB p h h2 :=
 ⟨tx a.len b.len,λn g e=>(b.keep n (y_ g a.len) e).trans (a.keep n g e)⟩
def KB.app(p:Nat)(h g:MH):KB p h (h++g):=⟨by simp,λn a _=>yS a⟩
def KB.mv(k:KB p h h')(a:p∈O):Mv O h O h' :=
 ⟨λn e no=>k.keep n e λz=>no (z▸a),λo g=>.inl g⟩
def cS.app{p:Nat}{h g:MH}{s:h8}(e:cS h p s):cS (h++g) p s:=by unfold cS at *;rw[yS (bo e)];exact e
def Vw.kb{p L:Nat}{h a:MH}{O:R8}{d:D}{v:PV}(k:KB p h a)(e:p∈O)(hL:p<L)(w:Vw p h L O d v):Vw p a L O d v:=by
 rcases w with r|⟨n,xs,i,e1,e2,j,l,g,r⟩
 .exact .inl (r.mv (k.mv e))
 .exact .inr ⟨n,xs,i,e1,e2,j,l,(k.keep n (bo g) ⋯).trans g,r.mv (k.mv e)⟩
inductive PR(α:Type) where
 |ok(a:α)(s:h8)
 |exc(c:Str)(s:h8)
 |bad
def PR.bind{α β:Type}(r:PR α)(f:α->h8->PR β):PR β:=match r with
 |.ok a s=>f a s
 |.exc c s=>.exc c s
 |.bad=>.bad
@[simp]theorem Pb(a:α)(s:h8)(f:α->h8->PR β):(PR.ok a s).bind f=f a s:=rfl
@[simp]theorem Pe(c:Str)(s:h8)(f:α->h8->PR β):(PR.exc c s).bind f=.exc c s:=rfl
@[simp]theorem Pd(f:α->h8->PR β):(PR.bad:PR α).bind f=.bad:=rfl
def PR.of{α:Type}(o:Option α)(s:h8):PR α:=match o with
 |some a=>.ok a s
 |none=>.bad
@[simp]theorem Pf(a:α)(s:h8):PR.of (J a) s=.ok a s:=rfl
@[simp]theorem Pn(s:h8):PR.of (Y:Option α) s=.bad:=rfl
inductive Q3{α β:Type}(p:Nat)(h:MH)(o:Out β)(a:α)(s:h8)(R:MH->α->β->Prop):Prop
 |mk(b:β)(h':MH)(e:o=.ok b h')(k:KB p h h')(n:cS h' p s)(r:R h' a b):Q3 p h o a s R
inductive Q4{β:Type}(p:Nat)(h:MH)(o:Out β)(c:Str)(s:h8):Prop
 |mk(h':MH)(e:o=.exc ⟨c,[]⟩ h')(k:KB p h h')(n:cS h' p s):Q4 p h o c s
def Ok{α β:Type}(p:Nat)(h:MH)(o:Out β)(r:PR α)(R:MH->α->β->Prop):Prop:=match r with
 |.ok a s=>Q3 p h o a s R
 |.exc c s=>Q4 p h o c s
 |.bad=>True
def Ok.bind{α β γ δ:Type}{p:Nat}{h:MH}{o:Out β}{r:PR α}{R:MH->α->β->Prop}{f:β->MH->Out δ}{g:α->h8->PR γ}{S:MH->γ->δ->Prop}(q:Ok p h o r R)(k:∀a b i s,KB p h i->cS i p s->R i a b->Ok p i (f b i) (g a s) S):Ok p h (o.bind f) (r.bind g) S:=by
 cases r with
 |ok a s =>
  obtain⟨b,i,rfl,kb,pn,u⟩:=q
  have:=k a b i s kb pn u
  rw[Pb]
  cases e:g a s with
  |ok c y =>
   rw[e]at this;obtain⟨d,t,e2,j,l,z⟩:=this;exact⟨d,t,e2,kb.trans j,l,z⟩
  |exc c y =>
   rw[e]at this;obtain⟨t,e2,j,l⟩:=this;exact⟨t,e2,kb.trans j,l⟩
  |bad=>trivial
 |exc c s =>
  obtain⟨i,rfl,kb,pn⟩:=q;exact⟨i,rfl,kb,pn⟩
 |bad=>trivial
def Ok.imp{α β:Type}{p:Nat}{h:MH}{o:Out β}{r:PR α}{R S:MH->α->β->Prop}(q:Ok p h o r R)(k:∀g a b,KB p h g->R g a b->S g a b):Ok p h o r S:=by
 cases r with
 |ok a s=>obtain⟨b,j,e,kb,pn,i⟩:=q;exact⟨b,j,e,kb,pn,k _ _ _ kb i⟩
 |exc c s=>exact q
 |bad=>trivial
structure SR(p:Nat)(h:MH)(L:Nat)(O:R8)(ws:R8)(Z:l_)(env:aE):Prop where
 len:Z.length=env.length
 fz:∀i d,env[i]?=J (J d)->i∉ws->∃v,Z[i]?=J (J v)/\Rp p h O d v
 ow:∀i d,env[i]?=J (J d)->i∈ws->∃n xs ds,d=.lst ds/\Z[i]?=J (J (.loc n))/\n∈O/\L<=n/\h[n]?=J (.lst xs)/\Rps p h O ds xs
structure Cx(p:Nat)(h:MH)(L:Nat)(B O:R8)(ws:R8)(Z:l_)(env:aE)(s:h8):Prop where
 bd:∀o∈O,o<h.length
 sub:∀o∈B,o∈O
 bb:∀o∈B,o<L
 pb:p∈B
 hL:L<=h.length
 pen:cS h p s
 sr:SR p h L O ws Z env
section
variable{p L:Nat}{h h':MH}{B O ws:R8}{Z:l_}{env:aE}{s s':h8}
def Cx.pO(c:Cx p h L B O ws Z env s):p∈O:=c.sub p c.pb
def Cx.pL(c:Cx p h L B O ws Z env s):p<L:=c.bb p c.pb
def SR.mv{l:R8}(m:Mv O h l h')(y:∀o∈O,o∈l)(u:∀n:Nat,n<h.length->L<=n->n∈O->h'[n]?=h[n]?)(r:SR p h L O ws Z env):SR p h' L l ws Z env :=
 ⟨r.len,λi d e j=>let⟨v,e1,q⟩:=r.fz i d e j;⟨v,e1,q.mv m⟩,λi d e j=>let⟨n,xs,t,e1,e2,a,b,g,q⟩:=r.ow i d e j;⟨n,xs,t,e1,e2,y n a,b,(u n (bo g) b a).trans g,q.mv m⟩⟩
def Cx.kb(c:Cx p h L B O ws Z env s)(k:KB p h h')(pn:cS h' p s'):Cx p h' L B O ws Z env s' :=
 ⟨λo e=>y_ (c.bd o e) k.len,c.sub,c.bb,c.pb,tx c.hL k.len,pn,c.sr.mv (k.mv c.pO) (λ_ h=>h) λn a g _=>k.keep n a (by have:=c.pL;lia)⟩
def Vw.base(w:Vw p h L O d v)(sub:∀o∈B,o∈O)(bb:∀o∈B,o<L):Rp p h B d v:=by
 have m:Mv O h B h:=⟨λ_ _ _=>rfl,λo a=>.inl (sub o a)⟩;rcases w with r|⟨n,xs,i,rfl,rfl,_,e,g,r⟩
 .exact r.mv m
 .exact⟨n,xs,rfl,λz=>by have:=bb n z;lia,g,r.mv m⟩
def Vws.base(sub:∀o∈B,o∈O)(bb:∀o∈B,o<L):∀{i:R9}{g:R4},Vws p h L O i g->Rps p h B i g
 |[],_,r=>r
 |_::_,_,⟨x,t,e,a,b⟩=>⟨x,t,e,a.base sub bb,Vws.base sub bb b⟩
def Frs.rp(f:Frs p L' O h d v)(bd:∀o∈O,o<L')(e:d=.lst ds):Rp p h O d v:=by obtain⟨n,xs,e1,i,g,r⟩:=f ds e;subst e;exact⟨n,xs,e1,λz=>by have:=bd n z;lia,g,r.mv ⟨λ_ _ _=>rfl,λo a=>.inl (oh _ a)⟩⟩
def Frs.le(f:Frs p L2 O h d v)(j:L1<=L2):Frs p L1 O h d v:=λi e =>
 let⟨n,xs,e1,a,g,r⟩:=f i e;⟨n,xs,e1,tx j a,g,r⟩
end
abbrev Bd(h:MH)(O:R8):Prop:=∀o∈O,o<h.length
inductive Gv(p:Nat)(h:MH)(O:R8)(fr:Bool)(o:SX)(d:D):Prop
 |mk(v:PV)(g:MH)(e:o=.ok v (h++g))(r:Rp p (h++g) O d v)(f:fr=I->Frs p h.length O (h++g) d v):Gv p h O fr o d
structure Oa where
 m:PV->MH->SX
 p:D->SF
 fr:Bool
 ok:∀{q h L O a x d},Bd h O->Vw q h L O a x->p a=J d->Gv q h O fr (m x h) d
structure Ee where
 m:PV->PV->MH->SX
 p:D->D->SF
 fr:Bool
 ok:∀{q h L O a x b y d},Bd h O->Vw q h L O a x->Vw q h L O b y->p a b=J d->Gv q h O fr (m x y h) d
structure DX where
 k:R4->MH->SX
 p:R9->SF
 fr:Bool
 ok:∀{q h L O as xs d},Bd h O->Vws q h L O as xs->p as=J d->Gv q h O fr (k xs h) d
structure Fn where
 m:R4->MH->SX
 p:R9->h8->PR D
 fr:Bool
 ok:∀{q h O vs ds s},Bd h O->q∈O->cS h q s->Rps q h O ds vs->Ok q h (m vs h) (p ds s) (λh' d v=>Rp q h' O d v/\(fr=I->Frs q h.length O h' d v))
mutual
def flat:D->Bool
 |.lst _ | .dic | .exc _ | .pen=>T
 |.tup a=>r_ a
 |_=>I
def r_:R9->Bool
 |[]=>I
 |d::a=>flat d&&r_ a
end
section
variable{p:Nat}{h h':MH}{O O':R8}
mutual
def Rp.flat:∀{d:D}{v:PV},PU.flat d=I->Rp p h O d v->Rp p h' O' d v
 |.non,_,_,r=>r
 |.bl _,_,_,r=>r
 |.int _,_,_,r=>r
 |.str _,_,_,r=>r
 |.tup a,_,f,⟨xs,e,r⟩=>⟨xs,e,Rps.flat (by simpa [PU.flat]using f) r⟩
 |.lst a,_,f,_=>by simp[PU.flat]at f
 |.dic,_,f,_=>by simp[PU.flat]at f
 |.exc _,_,f,_=>by simp[PU.flat]at f
 |.pen,_,f,_=>by simp[PU.flat]at f
def Rps.flat:∀{g:R9}{i:R4},PU.r_ g=I->Rps p h O g i->Rps p h' O' g i
 |[],_,_,r=>r
 |_::_,_,f,⟨x,t,e,a,b⟩=>⟨x,t,e,Rp.flat (by simp[PU.r_]at f;exact f.1) a,Rps.flat (by simp[PU.r_]at f;exact f.2) b⟩
end
end
structure Xe(ws:R8) where
 m:Mx PV
 p:aE->h8->PR D
 fz:Bool
 fr:Bool
 ok:∀{q h L B O Z env s},Cx q h L B O ws Z env s->Ok q h (m Z h) (p env s) (λh' d v=>Vw q h' L O d v/\(fz=I->Rp q h' O d v)/\(fr=I->Frs q h.length O h' d v))
structure Xs(ws:R8) where
 m:Mx (R4)
 p:aE->h8->PR (R9)
 fz:Bool
 ok:∀{q h L B O Z env s},Cx q h L B O ws Z env s->Ok q h (m Z h) (p env s) (λh' ds vs=>Vws q h' L O ds vs/\(fz=I->Rps q h' O ds vs))
structure Xt(ws:R8) where
 m:Mx Bool
 p:aE->h8->PR Bool
 ok:∀{q h L B O Z env s},Cx q h L B O ws Z env s->Ok q h (m Z h) (p env s) (λ_ a b=>a=b)
noncomputable section
variable{ws:R8}
def DY{q L:Nat}{h a:MH}{O:R8}{o:SX}{d:D}{s:h8}{fr:Bool}(le:h.length<=a.length)(pn:cS a q s)(g:Gv q a O fr o d):
  Ok q a o (.ok d s) (λi d v=>Vw q i L O d v/\(I=I->Rp q i O d v)/\(fr=I->Frs q h.length O i d v)):=by
 obtain⟨v,g,e,r,f⟩:=g;exact⟨v,a++g,e,KB.app _ _ _,pn.app,.inl r,λ_=>r,λz=>(f z).le le⟩
def ac(i:Nat):Xe ws where
 m:=af i
 p:=λenv s=>match env[i]? with
  |some (J d)=>.ok d s
  |_=>.bad
 fz:=!ws.contains i
 fr:=T
 ok {q h L B O Z env s} c:=by
  show Ok q h _ (match env[i]? with|some (J d)=>PR.ok d s|_=>.bad) _
  cases e:env[i]? with
  |none=>trivial
  |some o =>
   cases o with
   |none=>trivial
   |some d =>
    by_cases z:i∈ws
    .obtain⟨n,xs,j,e1,e2,a,b,g,r⟩:=c.sr.ow i d e z;exact⟨.loc n,h,by simp[af,e2],KB.refl _ _,c.pen,.inr ⟨n,xs,j,e1,rfl,a,b,g,r⟩,λf=>by simp[z]at f,λf=>by simp at f⟩
    .obtain⟨v,e1,r⟩:=c.sr.fz i d e z;exact⟨v,h,by simp[af,e1],KB.refl _ _,c.pen,.inl r,λ_=>r,λf=>by simp at f⟩
inductive Cn where
 |non | bl (b:Bool) | int (i:Int) | str (x:Str)
def Cn.v:Cn->PV
 |.non=>.non
 |.bl b=>.bl b
 |.int i=>.int i
 |.str x=>.str x
def Cn.d:Cn->D
 |.non=>.non
 |.bl b=>.bl b
 |.int i=>.int i
 |.str x=>.str x
def Cn.rp(c:Cn){q:Nat}{h:MH}{O:R8}:Rp q h O c.d c.v:=by cases c<;>rfl
def xC(k:Cn):Xe ws where
 m:=mC k.v
 p:=λ_ s=>.ok k.d s
 fz:=I
 fr:=I
 ok {q h L B O Z env s} c:=⟨k.v,h,rfl,KB.refl _ _,c.pen,.inl k.rp,λ_=>k.rp,λ_ a e=>by cases k<;>cases e⟩
def ak(o:Ee)(a b:Xe ws):Xe ws where
 m:=ai o.m a.m b.m
 p:=λenv s=>(a.p env s).bind λx t=>(b.p env t).bind λy z=>.of (o.p x y) z
 fz:=I
 fr:=o.fr
 ok {q h L B O Z env s} c:=by
  refine(a.ok c).bind λx v H t i l ⟨E,_,_⟩=>?_;refine(b.ok (c.kb i l)).bind λy w M z j C ⟨G,_,_⟩=>?_
  cases e:o.p x y with
  |none=>trivial
  |some d =>
   have F:=(c.kb i l).kb j C;obtain⟨u,g,e1,r,f⟩:=o.ok F.bd (E.kb j c.pO c.pL) G e;exact DY (tx i.len j.len) C ⟨u,g,by rw[e1];rfl,r,f⟩
def C8(o:Oa)(a:Xe ws):Xe ws where
 m:=wx o.m a.m
 p:=λenv s=>(a.p env s).bind λx l=>.of (o.p x) l
 fz:=I
 fr:=o.fr
 ok {q h L B O Z env s} c:=by
  refine(a.ok c).bind λx v y l i j ⟨t,_,_⟩=>?_
  cases e:o.p x with
  |none=>trivial
  |some d =>
   obtain⟨u,g,e1,r,f⟩:=o.ok (c.kb i j).bd t e;exact DY i.len j ⟨u,g,by rw[e1];rfl,r,f⟩
def a_:Xs ws where
 m:=b_
 p:=λ_ s=>.ok [] s
 fz:=I
 ok {q h L B O Z env s} c:=⟨[],h,rfl,KB.refl _ _,c.pen,rfl,λ_=>rfl⟩
def aa(a:Xe ws)(r:Xs ws):Xs ws where
 m:=ae a.m r.m
 p:=λenv s=>(a.p env s).bind λx e=>(r.p env e).bind λy g=>.ok (x::y) g
 fz:=a.fz&&r.fz
 ok {q h L B O Z env s} c:=by refine(a.ok c).bind λx v F e l o ⟨j,C,_⟩=>?_;refine(r.ok (c.kb l o)).bind λy w z g i t ⟨u,E⟩=>?_;refine⟨v::w,z,rfl,KB.refl _ _,t,⟨v,w,rfl,j.kb i c.pO c.pL,u⟩,λf=>?_⟩;rw[G8]at f;exact⟨v,w,rfl,(C f.1).mv (i.mv c.pO),E f.2⟩
def o_(o:DX)(a:Xs ws):Xe ws where
 m:=λZ h=>(a.m Z h).bind o.k
 p:=λenv s=>(a.p env s).bind λx j=>.of (o.p x) j
 fz:=I
 fr:=o.fr
 ok {q h L B O Z env s} c:=by
  refine(a.ok c).bind λx v r j g i ⟨l,_⟩=>?_
  cases e:o.p x with
  |none=>trivial
  |some d=>exact DY g.len i (o.ok (c.kb g i).bd l e)
def aB(f:Fn)(a:Xs ws)(j:a.fz=I:=by exact ys rfl):Xe ws where
 m:=aF f.m a.m
 p:=λenv s=>(a.p env s).bind f.p
 fz:=I
 fr:=f.fr
 ok {q h L B O Z env s} c:=by refine(a.ok c).bind λx v t o e g ⟨_,z⟩=>?_;have i:=c.kb e g;refine(f.ok i.bd i.pO g (z j)).imp λl d v kb ⟨r,fr⟩=>⟨.inl r,λ_=>r,λz=>(fr z).le e.len⟩
def Eo(d:D):Bool:=match d with
 |.lst a=>r_ a
 |d=>flat d
def zd(f:Fn)(a:Xs ws)(hf:f.fr=I:=by exact ys rfl):Xe ws where
 m:=aF f.m a.m
 p:=λenv s=>((a.p env s).bind f.p).bind λd s=>if Eo d=I then .ok d s else .bad
 fz:=I
 fr:=I
 ok {q h L B O Z env s} c:=by
  have key:Ok q h ((a.m Z h).bind f.m) ((a.p env s).bind f.p) (λg d v=>Rp q g B d v/\Frs q h.length B g d v):=by refine(a.ok c).bind λx v R C t y ⟨w,_⟩=>?_;have j:=c.kb t y;refine(f.ok (λo M=>y_ (j.bb o M) j.hL) j.pb y (w.base j.sub j.bb)).imp λg d v kb ⟨r,fr⟩=>⟨r,(fr hf).le t.len⟩
  show Ok q h ((a.m Z h).bind f.m) _ _
  cases e:(a.p env s).bind f.p with
  |bad=>trivial
  |exc x C=>rw[e]at key;exact key
  |ok d C =>
   rw[e]at key;obtain⟨v,g,e1,kb,pn,r,fr⟩:=key;rw[Pb];by_cases z:Eo d=I
   .rw[c_ z];have l:Frs q h.length O g d v:=λu E=>by
     obtain⟨n,xs,P,G,H,Q⟩:=fr u E;subst E;exact⟨n,xs,P,G,H,Rps.flat z Q⟩
    have F:Rp q g O d v:=by
     cases d with
     |lst u=>exact l.rp c.bd rfl
     |non=>exact r
     |bl b=>exact r
     |int i=>exact r
     |str i=>exact r
     |tup i=>exact Rp.flat z r
     |dic=>cases z
     |exc _=>cases z
     |pen=>cases z
    exact⟨v,g,e1,kb,pn,.inl F,λ_=>F,λ_=>l⟩
   .rw[f_ z];trivial
def eK:100000<=sizeLine:=by decide
def nE(bd:Bd h O)(r:Rps q h O ds xs)(t:ds.length<=100000):Gv q h O I (p_ xs h) (.lst ds):=by
 have s:=r.length;have m:Mv O h O (h++[MO.lst xs]):=⟨λn a _=>yS a,λo i=>.inl i⟩
 have l:Mv O h (h.length::O) (h++[MO.lst xs]):=⟨λn a _=>yS a,λo i=>by
  rcases nk.mp i with z|z
  .exact .inr ⋯
  .exact .inl z⟩
 have g:(h++[MO.lst xs])[h.length]?=J (.lst xs):=by simp
 refine⟨.loc h.length,[.lst xs],?_,⟨_,_,rfl,λz=>by have:=bd _ z;lia,g,r.mv m⟩,λ_ j e=>?_⟩
 .delta p_;have:=eK;lia
 .cases e;exact⟨_,_,rfl,i3 _,g,r.mv l⟩
def w8(r:Rps q h O ds xs)(i:ds.length<=100000):Gv q h O I (wy xs h) (.tup ds):=by
 have g:=r.length;refine⟨.tup xs,[],?_,?_,λ_ a e=>by cases e⟩
 .delta wy;rw[c_ (by have:=eK;lia)];simp
 .simpa using⟨xs,rfl,r⟩
def bC(a:Xs ws)(l:a.fz=I:=by exact ys rfl):Xe ws where
 m:=aR a.m
 p:=λenv s=>(a.p env s).bind λx j=>if x.length<=100000 then .ok (.lst x) j else .bad
 fz:=I
 fr:=I
 ok {q h L B O Z env s} c:=by
  refine(a.ok c).bind λx v o j g i ⟨_,z⟩=>?_;by_cases e:x.length<=100000
  .rw[c_ e];exact DY g.len i (nE (c.kb g i).bd (z l) e)
  .rw[f_ e];trivial
def be(a:Xs ws)(i:a.fz=I:=by exact ys rfl):Xe ws where
 m:=br a.m
 p:=λenv s=>(a.p env s).bind λx g=>if x.length<=100000 then .ok (.tup x) g else .bad
 fz:=I
 fr:=I
 ok {q h L B O Z env s} c:=by
  refine(a.ok c).bind λx v o g j l ⟨_,z⟩=>?_;by_cases e:x.length<=100000
  .rw[c_ e];exact DY j.len l (w8 (z i) e)
  .rw[f_ e];trivial
def EU:Xe ws where
 m:=EN
 p:=λ_ s=>.ok .dic s
 fz:=I
 fr:=I
 ok {q h L B O Z env s} c:=by have r:Rp q (h++[MO.dic []]) O .dic (.loc h.length):=⟨_,rfl,λz=>by have:=c.bd _ z;lia,by simp⟩;exact⟨.loc h.length,h++[.dic []],rfl,KB.app _ _ _,c.pen.app,.inl r,λ_=>r,λ_ a e=>by cases e⟩
def Vw.bl(w:Vw q h L O (.bl b) v):v=.bl b:=by
 rcases w with r|⟨n,xs,a,e,_⟩
 .exact r
 .cases e
def PR.bl(r:PR D):PR Bool:=r.bind λd s=>match d with
 |.bl b=>.ok b s
 |_=>.bad
@[simp]theorem Pl:(PR.ok (D.bl b) s).bl=.ok b s:=rfl
def xB(a:Xe ws):Xt ws where
 m:=mB a.m
 p:=λenv s=>(a.p env s).bl
 ok {q h L B O Z env s} c:=by
  refine(a.ok c).bind λx v e j i g ⟨w,_,_⟩=>?_
  cases x with
  |bl b=>rw[w.bl];exact⟨b,e,rfl,KB.refl _ _,g,rfl⟩
  |_=>trivial
def hJ(a:Xt ws):Xt ws where
 m:=gp a.m
 p:=λenv s=>(a.p env s).bind λb s=>.ok (!b) s
 ok {q h L B O Z env s} c:=(a.ok c).bind λx v g l j i e=>⟨!v,g,rfl,KB.refl _ _,i,by rw[e]⟩
def Fa(a b:Xt ws):Xt ws where
 m:=EB a.m b.m
 p:=λenv s=>(a.p env s).bind λx s=>if x=I then .ok I s else b.p env s
 ok {q h L B O Z env s} c:=(a.ok c).bind λx v i l j g e=>by
  subst e
  cases x with
  |false=>simpa using b.ok (c.kb j g)
  |true=>exact⟨I,i,rfl,KB.refl _ _,g,rfl⟩
def mh:Xt ws where
 m:=oy
 p:=λ_ s=>.ok I s
 ok {q h L B O Z env s} c:=⟨I,h,rfl,KB.refl _ _,c.pen,rfl⟩
def Ok.after{α β:Type}{p:Nat}{h j:MH}{o:Out β}{r:PR α}{R:MH->α->β->Prop}(k:KB p h j)(q:Ok p j o r R):Ok p h o r R:=by
 cases r with
 |bad=>trivial
 |exc y l=>obtain⟨i,g,a,e⟩:=q;exact⟨i,g,k.trans a,e⟩
 |ok u l=>obtain⟨t,i,g,a,e,s⟩:=q;exact⟨t,i,g,k.trans a,e,s⟩
def zn(pn:cS h q s):Ok q h (.ok (.bl b) h) (.ok (.bl b) s) (λa d v=>Vw q a L O d v/\(I=I->Rp q a O d v)/\(I=I->Frs q l O a d v)) :=
 ⟨.bl b,h,rfl,KB.refl _ _,pn,.inl rfl,λ_=>rfl,λ_ g e=>by cases e⟩
def A1(k:Ok q h o r (λa d v=>Vw q a L O d v/\(fz=I->Rp q a O d v)/\(fr=I->Frs q l' O a d v))):
  Ok q h o (r.bl.bind λb s=>.ok (.bl b) s) (λa d v=>Vw q a L O d v/\(I=I->Rp q a O d v)/\(I=I->Frs q l O a d v)):=by
 cases r with
 |bad=>trivial
 |exc c s=>exact k
 |ok d s =>
  obtain⟨v,a,e,kb,pn,w,_,_⟩:=k
  cases d with
  |bl b=>exact⟨v,a,e,kb,pn,w,λ_=>by rw[w.bl];rfl,λ_ g e=>by cases e⟩
  |_=>trivial
def nW(a b:Xe ws):Xe ws where
 m:=jF a.m b.m
 p:=λenv s=>(a.p env s).bl.bind λx s=>if x=I then(b.p env s).bl.bind λy s=>.ok (.bl y) s else .ok (.bl T) s
 fz:=I
 fr:=I
 ok {q h L B O Z env s} c:=by
  have k:=a.ok c;show Ok q h ((a.m Z h).bind _) _ _
  cases e:a.p env s with
  |bad=>trivial
  |exc x u =>
   rw[e]at k;obtain⟨j,e1,g,i⟩:=k;rw[e1];exact⟨j,rfl,g,i⟩
  |ok d u =>
   rw[e]at k;obtain⟨v,j,e1,g,i,w,_,_⟩:=k
   cases d with
   |bl x =>
    rw[w.bl]at e1;rw[e1]
    cases x with
    |true =>
     exact Ok.after g (A1 (l:=h.length) (b.ok (c.kb g i)))
    |false =>
     obtain⟨E,C,t,o,r,z⟩:=zn (L:=L) (l:=h.length) (O:=O) (b:=T) i;exact⟨E,C,t,g.trans o,r,z⟩
   |_=>trivial
def JS(a b:Xe ws):Xe ws where
 m:=FF a.m b.m
 p:=λenv s=>(a.p env s).bl.bind λx s=>if x=I then .ok (.bl I) s else(b.p env s).bl.bind λy s=>.ok (.bl y) s
 fz:=I
 fr:=I
 ok {q h L B O Z env s} c:=by
  have k:=a.ok c;show Ok q h ((a.m Z h).bind _) _ _
  cases e:a.p env s with
  |bad=>trivial
  |exc x u =>
   rw[e]at k;obtain⟨j,e1,g,i⟩:=k;rw[e1];exact⟨j,rfl,g,i⟩
  |ok d u =>
   rw[e]at k;obtain⟨v,j,e1,g,i,w,_,_⟩:=k
   cases d with
   |bl x =>
    rw[w.bl]at e1;rw[e1]
    cases x with
    |false =>
     exact Ok.after g (A1 (l:=h.length) (b.ok (c.kb g i)))
    |true =>
     obtain⟨E,C,t,o,r,z⟩:=zn (L:=L) (l:=h.length) (O:=O) (b:=I) i;exact⟨E,C,t,g.trans o,r,z⟩
   |_=>trivial
def zm(a:Xe ws):Xe ws where
 m:=qL a.m
 p:=λenv s=>(a.p env s).bl.bind λx s=>.ok (.bl (!x)) s
 fz:=I
 fr:=I
 ok {q h L B O Z env s} c:=by
  have k:=a.ok c;show Ok q h ((a.m Z h).bind _) _ _
  cases e:a.p env s with
  |bad=>trivial
  |exc x u =>
   rw[e]at k;obtain⟨j,e1,g,i⟩:=k;rw[e1];exact⟨j,rfl,g,i⟩
  |ok d u =>
   rw[e]at k;obtain⟨v,j,e1,g,i,w,_,_⟩:=k
   cases d with
   |bl x =>
    rw[w.bl]at e1;rw[e1];obtain⟨C,z,t,o,r,y⟩:=zn (L:=L) (l:=h.length) (O:=O) (b:=!x) i;exact⟨C,z,t,g.trans o,r,y⟩
   |_=>trivial
def Gn(t:Xt ws)(a b:Xe ws)(fz:Bool)(hf:fz=(a.fz&&b.fz):=by exact ys rfl):Xe ws where
 m:=FG t.m a.m b.m
 p:=λenv s=>(t.p env s).bind λx s=>if x=I then a.p env s else b.p env s
 fz:=fz
 fr:=T
 ok {q h L B O Z env s} c:=(t.ok c).bind λx v o l g i e=>by
  subst e
  cases x with
  |true=>exact(a.ok (c.kb g i)).imp λj d v kb r=>⟨r.1,λf=>r.2.1 (by rw[hf,G8]at f;exact f.1),λf=>by simp at f⟩
  |false=>exact(b.ok (c.kb g i)).imp λj d v kb r=>⟨r.1,λf=>r.2.1 (by rw[hf,G8]at f;exact f.2),λf=>by simp at f⟩
def A9(f g:Ee)(a b e:Xe ws):Xe ws where
 m:=mM f.m g.m a.m b.m e.m
 p:=λenv s=>(a.p env s).bind λx M=>(b.p env M).bind λy o=>match f.p x y with
  |some (.bl t)=>if t=I then(e.p env o).bind λz U=>.of (g.p y z) U else .ok (.bl T) o
  |_=>.bad
 fz:=I
 fr:=T
 ok {q h L B O Z env s} c:=by
  refine(a.ok c).bind λx v h1 M G H ⟨w1,_,_⟩=>?_;refine(b.ok (c.kb G H)).bind λy w l o W C ⟨R,_,_⟩=>?_;have P:=(c.kb G H).kb W C
  cases e1:f.p x y with
  |none=>trivial
  |some d =>
   cases d with
   |bl t =>
    obtain⟨u,i,e2,r,_⟩:=f.ok P.bd (w1.kb W c.pO c.pL) R e1;have hu:u=.bl t:=r;subst hu;rw[e2];have j:=KB.app q l i;have E:=P.kb j C.app
    cases t with
    |true =>
     refine Ok.after j ?_;show Ok q (l++i) ((e.m Z (l++i)).bind _) _ _;refine(e.ok E).bind λz u h3 U Q F ⟨w3,_,_⟩=>?_
     cases e4:g.p y z with
     |none=>trivial
     |some d =>
      obtain⟨X,g2,e5,S,_⟩:=g.ok (E.kb Q F).bd ((R.kb j c.pO c.pL).kb Q c.pO c.pL) w3 e4;refine⟨X,h3++g2,by rw[e5];rfl,KB.app _ _ _,F.app,.inl S,λ_=>S,λf=>by simp at f⟩
    |false=>exact⟨.bl T,l++i,rfl,j,C.app,.inl rfl,λ_=>rfl,λf=>by simp at f⟩
   |_=>trivial
end
structure Xi(ws:R8) where
 m:Mx MIt
 p:aE->h8->PR (R9)
 fz:Bool
 ok:∀{q h L B O Z env s},Cx q h L B O ws Z env s->Ok q h (m Z h) (p env s) (λh' ds it=>Rps q h' O ds it.xs/\(∀g∈it.gd,h'[g.1]?=J (.lst g.2)/\g.1≠q)/\(fz=I->∀g∈it.gd,g.1∉O))
inductive GI(q:Nat)(h:MH)(O:R8)(ds as:R9)(xs:R4)(o:Out MIt):Prop
 |mk(it:MIt)(e:o=.ok it h)(r:Rps q h O ds it.xs)(g:∀g∈it.gd,h[g.1]?=J (.lst g.2)/\g.1≠q)(z:Rps q h O as xs->∀g∈it.gd,g.1∉O):GI q h O ds as xs o
structure MU where
 k:R4->MH->Out MIt
 p:R9->Option (R9)
 ok:∀{q h L O as xs ds},q<L->q∈O->Bd h O->Vws q h L O as xs->p as=J ds->GI q h O ds as xs (k xs h)
def D.items:D->Option (R9)
 |.lst a=>J a
 |.tup a=>J a
 |_=>Y
@[simp]theorem gU:(D.lst ds).items=J ds:=rfl
@[simp]theorem KY:(D.tup ds).items=J ds:=rfl
noncomputable section
variable{ws:R8}
def eU(o:MU)(a:Xs ws):Xi ws where
 m:=λZ h=>(a.m Z h).bind o.k
 p:=λenv s=>(a.p env s).bind λx i=>.of (o.p x) i
 fz:=a.fz
 ok {q h L B O Z env s} c:=by
  refine(a.ok c).bind λx v y i t g ⟨w,z⟩=>?_
  cases e:o.p x with
  |none=>trivial
  |some C =>
   obtain⟨j,e1,r,u,l⟩:=o.ok c.pL c.pO (c.kb t g).bd w e;exact⟨j,y,e1,KB.refl _ _,g,r,u,λf=>l (z f)⟩
def Vw.seq(B:q<L)(s:q∈O)(w:Vw q h L O d v)(e:d.items=J ds):∃xs gd,rb v h=.ok ⟨xs,gd⟩ h/\Rps q h O ds xs/\(∀g∈gd,h[g.1]?=J (.lst g.2)/\g.1≠q)/\(Rp q h O d v->∀g∈gd,g.1∉O):=by
 have one:∀n xs,h[n]?=J (MO.lst xs)->n≠q->(∀g∈[(n,xs)],h[g.1]?=J (MO.lst g.2)/\g.1≠q):=λn xs g o y a=>by
  have:y=(n,xs):=by simpa using a
  subst this;exact⟨g,o⟩
 cases d with
 |lst l =>
  have:l=ds:=by simpa using e
  subst this;rcases w with⟨n,xs,e1,no,g,r⟩|⟨n,xs,j,i,e1,_,o,g,r⟩
  .subst e1;refine⟨xs,[(n,xs)],by simp only[rb,g],r,one n xs g (λz=>no (z▸s)),λ_ y a=>?_⟩
   have:y=(n,xs):=by simpa using a
   subst this;exact no
  .cases i;subst e1;refine⟨xs,[(n,xs)],by simp only[rb,g],r,one n xs g ⋯,λ⟨u,t,e1,no,_,_⟩ y a=>?_⟩
   grind
 |tup l =>
  have:l=ds:=by simpa using e
  subst this;rcases w with⟨xs,e1,r⟩|⟨n,xs,j,i,_⟩
  .subst e1;exact⟨xs,[],rfl,r,(λ_ a=>nomatch a),λ_ _ a=>nomatch a⟩
  .cases i
 |_=>simp[D.items]at e
def ba(a:Xe ws):Xi ws where
 m:=b8 a.m
 p:=λenv s=>(a.p env s).bind λx g=>.of x.items g
 fz:=a.fz
 ok {q h L B O Z env s} c:=by
  refine(a.ok c).bind λx v o g u j ⟨w,z,_⟩=>?_
  cases e:x.items with
  |none=>trivial
  |some t =>
   obtain⟨xs,gd,e1,r,l,i⟩:=w.seq c.pL c.pO e;exact⟨⟨xs,gd⟩,o,e1,KB.refl _ _,j,r,l,λf=>i (z f)⟩
structure Xg(ws:R8) where
 m:Mg
 p:D->aE->Option aE
 ok:∀{q h L O Z env d v env'},SR q h L O ws Z env->Rp q h O d v->p d env=J env'->∃Z',m v Z h=.nx Z' h/\SR q h L O ws Z' env'/\∀i∈ws,Z'[i]?=Z[i]?/\env'[i]?=env[i]?
structure MV(ws:R8) where
 m:He
 p:R9->aE->Option aE
 ok:∀{q h L O Z env ds vs env'},SR q h L O ws Z env->Rps q h O ds vs->p ds env=J env'->∃Z',m vs Z h=.nx Z' h/\SR q h L O ws Z' env'/\∀i∈ws,Z'[i]?=Z[i]?/\env'[i]?=env[i]?
def SR.set(r:SR q h L O ws Z env)(s:i∉ws)(w:Rp q h O d v):SR q h L O ws (Z.set i (J v)) (env.set i (J d))/\∀j∈ws,(Z.set i (J v))[j]?=Z[j]?/\(env.set i (J d))[j]?=env[j]?:=by
 have ne:∀j∈ws,i≠j:=λj a z=>s (z▸a);refine⟨⟨by simp[r.len],λj e a g=>?_,λj e a g=>?_⟩,λj a=>⟨pq (ne j a),pq (ne j a)⟩⟩
 .by_cases z:i=j
  .subst z;have o:i<env.length:=by
    have:=(mw.mp a).1;simpa using this
   rw[BO o]at a;cases a;exact⟨v,BO (by rw[r.len];exact o),w⟩
  .rw[pq z]at a;obtain⟨u,e1,y⟩:=r.fz j e a g
   simp_all
 .rw[pq (ne j g)]at a;obtain⟨n,xs,t,e1,e2,l⟩:=r.ow j e a g;exact⟨n,xs,t,e1,by rw[pq (ne j g)];exact e2,l⟩
def i_(i:Nat)(j:ws.contains i=T:=by exact ys rfl):Xg ws where
 m:=m_ i
 p:=λd env=>J (env.set i (J d))
 ok {q h L O Z env d v env'} r w e:=by
  cases e;have g:i∉ws:=λz=>by simp[z]at j
  obtain⟨a,b⟩:=r.set g w;exact⟨_,rfl,a,b⟩
def C9:MV ws where
 m:=DT
 p:=λa env=>match a with
  |[]=>J env
  |_=>Y
 ok {q h L O Z env a vs env'} r w e:=by
  cases a with
  |nil =>
   cases e
   have:vs=[]:=w
   subst this;exact⟨Z,rfl,r,λ_ _=>⟨rfl,rfl⟩⟩
  |cons _ _=>cases e
def pa(a:Xg ws)(t:MV ws):MV ws where
 m:=yK a.m t.m
 p:=λj env=>match j with
  |d::j=>(a.p d env).bind λg=>t.p j g
  |[]=>Y
 ok {q h L O Z env j vs env'} r w e:=by
  cases j with
  |nil=>cases e
  |cons d j =>
   obtain⟨x,y,rfl,z,F⟩:=w;dsimp only at e
   cases e1:a.p d env with
   |none=>rw[e1]at e;cases e
   |some g =>
    rw[e1]at e;obtain⟨H,G,C,o⟩:=a.ok r z e1;obtain⟨u,B,E,s⟩:=t.ok C F e;exact⟨u,by show(a.m x Z h).then (t.m y)=_;rw[G];exact B,E,λi l=>⟨(s i l).1.trans (o i l).1,(s i l).2.trans (o i l).2⟩⟩
def C_(t:MV ws)(n:Nat):Xg ws where
 m:=DI t.m n
 p:=λd env=>match d with
  |.tup g=>if g.length=n then t.p g env else Y
  |_=>Y
 ok {q h L O Z env d v env'} r w e:=by
  cases d with
  |tup g =>
   obtain⟨xs,rfl,w⟩:=w;dsimp only at e;by_cases z:g.length=n
   .rw[c_ z]at e;obtain⟨i,a,b⟩:=t.ok r w e;exact⟨i,by show(if xs.length=n then t.m xs Z h else .bad)=_;rw[c_ (by rw[w.length];exact z)];exact a,b⟩
   .rw[f_ z]at e;cases e
  |_=>cases e
def Fb(a:Nat)(fm ws:R8):R8:=((List.range fm.length).filter λj=>ws.contains (fm.getD j 0)).map (a+·)
def BB(a:Nat)(fm:R8)(env:aE):aE:=List.replicate a Y++fm.map λi=>(env[i]?).getD Y
def PR.ne{α:Type}(r:PR α):PR α:=match r with
 |.exc _ _=>.bad
 |r=>r
@[simp]theorem PR.ne_ok(a:α)(s:h8):(PR.ok a s).ne=.ok a s:=rfl
def fb(g:D->aE->Option aE)(t:aE->h8->PR Bool)(e:aE->h8->PR D):R9->aE->h8->PR (R9)
 |[],_,s=>.ok [] s
 |d::i,env,s=>match g d env with
  |none=>.bad
  |some a=>(t a s).bind λb j=>if b=I then(e a j).bind λx l=>(fb g t e i a l).bind λr o=>.ok (x::r) o else fb g t e i a j
def MX{a:Nat}{fm:R8}{α:Type}{env:List (Option α)}{i:Nat}{d:α}(e:(List.replicate a Y++fm.map λi=>(env[i]?).getD Y)[i]?=J (J d)):∃j k,i=a+j/\fm[j]?=J k/\env[k]?=J (J d):=by
 by_cases z:i<a
 .rw[yS (by simpa using z)]at e;simp[z]at e
 .rw[DG (by simp;lia)]at e;simp only[K9,yT]at e
  cases g:fm[i-a]? with
  |none=>rw[g]at e;cases e
  |some k =>
   rw[g]at e;simp only[Lh]at e;refine⟨i-a,k,⋯,g,?_⟩
   cases l:env[k]? with
   |none=>rw[l]at e;cases e
   |some o=>rw[l]at e;simp at e;rw[e]
def MY{a:Nat}{fm:R8}{α:Type}{Z:List (Option α)}{j k:Nat}{v:α}(e1:fm[j]?=J k)(e2:Z[k]?=J (J v)):(List.replicate a Y++fm.map λi=>(Z[i]?).getD Y)[a+j]?=J (J v):=by rw[DG (by simp)];simp[e1,e2]
def xc(e:fm[j]?=J k):nv+j∈Fb nv fm ws↔k∈ws:=by
 have a:=(mw.mp e).1;delta Fb
 simp_all
def SR.comp{q:Nat}{h:MH}{L:Nat}{O:R8}{Z:l_}{env:aE}(a:Nat)(fm:R8)(r:SR q h L O ws Z env):SR q h L O (Fb a fm ws) (EF a fm Z) (BB a fm env):=by
 refine⟨by simp[EF,BB],λi d e g=>?_,λi d e g=>?_⟩
 .obtain⟨j,k,rfl,e1,e2⟩:=MX e;obtain⟨v,e3,w⟩:=r.fz k d e2 λz=>g ((xc e1).mpr z);exact⟨v,MY e1 e3,w⟩
 .obtain⟨j,k,rfl,e1,e2⟩:=MX e;obtain⟨n,xs,o,l,e3,w⟩:=r.ow k d e2 ((xc e1).mp g);exact⟨n,xs,o,l,MY e1 e3,w⟩
def JT(gt:Xg C)(t:Xt C)(e:Xe C)(hz:e.fz=I)(hq:q<h1.length)(gd:∀g∈it.gd,h1[g.1]?=J (.lst g.2)/\g.1≠q):
  ∀(S:R9)(xs:R4)(env:aE)(Z:l_)(h:MH)(l:R9)(j:R4)(s:h8)(r:R9)(X:h8),(∀i∈C,∀d,env[i]?=J (J d)->∀n,Z[i]?=J (J (.loc n))->n<h1.length)->KB q h1 h->Cx q h L B (h1.length::O) C Z env s->Rps q h (h1.length::O) S xs->h[h1.length]?=J (.lst j)->Rps q h (h1.length::O) l j->l.length+S.length<=100000 ->
  fb gt.p t.p e.p S env s=.ok r X->∃G W,BK it h1.length gt.m t.m e.m xs Z h=.ok () G/\KB q h1 G/\cS G q X/\G[h1.length]?=J (.lst W)/\Rps q G (h1.length::O) (l++r) W:=by
 intro S
 induction S with
 |nil =>
  intro xs env Z h l j s r X on kb c rx ga ra hl a
  have:xs=[]:=rx
  subst this;cases a;have ok:it.ok h:=λg U=>(kb.keep _ (bo (gd g U).1) (gd g U).2).trans (gd g U).1;exact⟨h,j,by rw[BK,c_ ok],kb,c.pen,ga,by simpa using ra⟩
 |cons d S ih =>
  intro xs env Z h l j s r X on kb c rx ga ra hl a;obtain⟨x,xr,rfl,r1,r2⟩:=rx;have ok:it.ok h:=λg U=>(kb.keep _ (bo (gd g U).1) (gd g U).2).trans (gd g U).1;rw[fb]at a
  cases eg:gt.p d env with
  |none=>rw[eg]at a;cases a
  |some u =>
   rw[eg]at a;dsimp only at a;obtain⟨Z1,f1,ap,k1⟩:=gt.ok c.sr r1 eg;have R:∀i∈C,∀d,u[i]?=J (J d)->∀n,Z1[i]?=J (J (.loc n))->n<h1.length:=λi M d e n z=>on i M d ((k1 i M).2▸e) n ((k1 i M).1▸z);have c1:Cx q h L B (h1.length::O) C Z1 u s:=⟨c.bd,c.sub,c.bb,c.pb,c.hL,c.pen,ap⟩;have kt:=t.ok c1
   cases et:t.p u s with
   |bad=>rw[et]at a;cases a
   |exc _ _=>rw[et]at a;cases a
   |ok b s1 =>
    rw[et]at a kt;obtain⟨b',h2,f2,k2,p2,eb⟩:=kt;subst eb;have c2:=c1.kb k2 p2;have E:Mv (h1.length::O) h (h1.length::O) h2:=k2.mv c.pO;have hn:h1.length<h.length:=bo ga;have Q:h2[h1.length]?=J (.lst j):=(k2.keep _ hn ⋯).trans ga;rw[Pb]at a
    cases b with
    |false =>
     rw[f_ (by simp)]at a;obtain⟨G,W,a1,a2⟩:=ih xr u Z1 h2 l j s1 r X R (kb.trans k2) c2 (r2.mv E) Q (ra.mv E) (by simp at hl;lia) a;refine⟨G,W,?_,a2⟩;rw[BK,c_ ok,f1];simp only[f2,Out.ne_ok,Out.bind_ok,pu,if_false];exact a1
    |true =>
     rw[c_ rfl]at a;have ke:=e.ok c2
     cases ee:e.p u s1 with
     |bad=>rw[ee]at a;cases a
     |exc _ _=>rw[ee]at a;cases a
     |ok y s2 =>
      rw[ee]at a ke;obtain⟨v,H,f3,k3,p3,_,rv,_⟩:=ke;have rv:=rv hz;have P:=c2.kb k3 p3;have ab:Mv (h1.length::O) h2 (h1.length::O) H:=k3.mv c.pO;have al:H[h1.length]?=J (.lst j):=(k3.keep _ (bo Q) ⋯).trans Q;have F:Mv (h1.length::O) H (h1.length::O) (H.set h1.length (.lst (j++[v]))) :=
       ⟨λn hn no=>pq (λz=>no (by simp[z])),λo ho=>.inl ho⟩
      have as:Rps q H (h1.length::O) (l++[y]) (j++[v]):=((ra.mv E).mv ab).app ⟨v,[],rfl,rv,rfl⟩;rw[Pb]at a
      cases er:fb gt.p t.p e.p S u s2 with
      |bad=>rw[er]at a;cases a
      |exc _ _=>rw[er]at a;cases a
      |ok r' s3 =>
       rw[er]at a;cases a;have an:KB q h1 H:=(kb.trans k2).trans k3;have c4:Cx q (H.set h1.length (.lst (j++[v]))) L B (h1.length::O) C Z1 u s2:=by
        refine⟨λo ho=>by simpa using P.bd o ho,P.sub,P.bb,P.pb,by simpa using P.hL,?_,?_⟩
        .delta cS;rw[pq ⋯];exact p3
        .refine⟨P.sr.len,λi d e M=>let⟨v,e1,q1⟩:=P.sr.fz i d e M;⟨v,e1,q1.mv F⟩,λi d e M=>?_⟩;obtain⟨n,ys,es,b1,b2,b3,b4,b5,b6⟩:=P.sr.ow i d e M;have z:=R i M d e n b2;exact⟨n,ys,es,b1,b2,b3,b4,by rw[pq ⋯];exact b5,b6.mv F⟩
       obtain⟨G,W,a1,a2,a3,a4,a5⟩:=ih xr u Z1 (H.set h1.length (.lst (j++[v]))) (l++[y]) (j++[v]) s2 r' _ R ⟨by simpa using an.len,λn hn hp=>by rw[pq ⋯];exact an.keep n hn hp⟩ c4 (((r2.mv E).mv ab).mv F) (BO (bo al)) (as.mv F) (by simp at hl ⊢;lia) er;refine⟨G,W,?_,a2,a3,a4,by simpa using a5⟩;rw[BK,c_ ok,f1];simp only[f2,Out.ne_ok,Out.bind_ok,if_true,f3,al];rw[c_ (by have:=eK;have:=ra.length;simp at hl;lia)];exact a1
def bz(a:Nat)(fm:R8)(i:Xi ws){ws':R8}(g:Xg ws')(t:Xt ws')(e:Xe ws')(hw:Fb a fm ws=ws':=by exact ys rfl)(hz:e.fz=I:=by exact ys rfl):Xe ws where
 m:=bF a fm i.m g.m t.m e.m
 p:=λenv s=>(i.p env s).bind λl y=>if l.length<=100000 then (match fb g.p t.p e.p l (BB a fm env) y with
  |.ok r G=>.ok (.lst r) G
  |_=>.bad)else .bad
 fz:=I
 fr:=I
 ok {q h L B O Z env s} c:=by
  subst hw;refine(i.ok c).bind λl S j y M F ⟨rx,gd,_⟩=>?_;have C:=c.kb M F;by_cases E:l.length<=100000
  .rw[c_ E]
   cases er:fb g.p t.p e.p l (BB a fm env) y with
   |bad=>trivial
   |exc _ _=>trivial
   |ok r G =>
    have mv:Mv O j (j.length::O) (j++[MO.lst []]):=⟨λn H _=>yS H,λo u=>by
     rcases nk.mp u with z|z
     .exact .inr ⋯
     .exact .inl z⟩
    have sr:=(C.sr.comp a fm).mv mv (λo u=>oh _ u) λn H _ _=>yS H;have c2:Cx q (j++[MO.lst []]) L B (j.length::O) (Fb a fm ws) (EF a fm Z) (BB a fm env) y:=by
     refine⟨λo u=>?_,λo u=>oh _ (c.sub o u),c.bb,c.pb,by have:=C.hL;simp;lia,F.app,sr⟩;rcases nk.mp u with z|z
     .subst z;simp
     .have:=C.bd o z;simp;lia
    have W:q<j.length:=bo F
    obtain⟨Q,zs,a1,U,a3,a4,a5⟩:=JT g t e hz (L:=L) (B:=B) (O:=O) W gd l S.xs (BB a fm env) (EF a fm Z) (j++[MO.lst []]) [] [] y r G (λi X d ed n R=>by
     obtain⟨n',_,_,_,b2,_,_,b5,_⟩:=(C.sr.comp a fm).ow i d ed X;rw[b2]at R;cases R
     exact bo b5) (KB.app _ _ _) c2 (rx.mv mv) (by simp) rfl (by simpa using E) er
    have f:Frs q h.length O Q (.lst r) (.loc j.length):=λl e=>by
     cases e;exact⟨_,zs,rfl,M.len,a4,by simpa using a5⟩
    have P:=f.rp c.bd rfl;exact⟨.loc j.length,Q,by show(BK _ _ _ _ _ _ _ _).bind _=_;rw[a1];rfl,U,a3,.inl P,λ_=>P,λ_=>f⟩
  .rw[f_ E];trivial
end
inductive PS where
 |nx(e:aE)(s:h8)
 |rt(d:D)(s:h8)
 |bk(e:aE)(s:h8)
 |ct(e:aE)(s:h8)
 |exc(c:Str)(e:aE)(s:h8)
 |rse(c:Str)(e:aE)(s:h8)
 |bad
structure Stp(q L:Nat)(h:MH)(O:R8)(h':MH)(O':R8):Prop where
 len:h.length<=h'.length
 mv:Mv O h O' h'
 sub:∀o∈O,o∈O'
 base:∀n:Nat,n<L->n≠q->h'[n]?=h[n]?
def Stp.refl(q L:Nat)(h:MH)(O:R8):Stp q L h O h O:=⟨i3 _,⟨λ_ _ _=>rfl,λ_ h=>.inl h⟩,λ_ h=>h,λ_ _ _=>rfl⟩
def Stp.trans(a:Stp q L h O h1 O1)(b:Stp q L h1 O1 h2 O2):Stp q L h O h2 O2:=by
 refine⟨tx a.len b.len,⟨λn e no=>?_,λo g=>?_⟩,λo g=>b.sub o (a.sub o g),λn e i=>(b.base n e i).trans (a.base n e i)⟩
 .have j:n∉O1:=λz=>by
   rcases a.mv.new n z with q|q
   .exact no q
   .lia
  exact(b.mv.keep n (y_ e a.len) j).trans (a.mv.keep n e no)
 .rcases b.mv.new o g with z|z
  .exact a.mv.new o z
  .exact .inr (tx a.len z)
def Dis(a:R8)(Z:l_)(env:aE):Prop:=∀i j,i∈a->j∈a->i≠j->∀d e n,env[i]?=J (J d)->env[j]?=J (J e)->Z[i]?=J (J (.loc n))->Z[j]?≠J (J (.loc n))
inductive Nxt(q L:Nat)(h:MH)(B O ws:R8)(Z':l_)(h':MH)(env:aE)(s:h8):Prop
 |mk(O':R8)(a:Stp q L h O h' O')(c:Cx q h' L B O' ws Z' env s)(d:Dis ws Z' env):Nxt q L h B O ws Z' h' env s
inductive KZ(q L:Nat)(h:MH)(B O ws:R8)(f:l_->MH->SOut)(o:SOut)(env:aE)(s:h8):Prop
 |mk(Z':l_)(h':MH)(e:o=f Z' h')(n:Nxt q L h B O ws Z' h' env s):KZ q L h B O ws f o env s
inductive Q5(q L:Nat)(h:MH)(B:R8)(fr:Bool)(o:SOut)(d:D)(s:h8):Prop
 |mk(v:PV)(h':MH)(e:o=.rt v h')(l:h.length<=h'.length)(b:∀n:Nat,n<L->n≠q->h'[n]?=h[n]?)(p:cS h' q s)(r:Rp q h' B d v)(f:fr=I->Frs q L B h' d v):Q5 q L h B fr o d s
def SOk(q L:Nat)(h:MH)(B O a:R8)(fr:Bool)(o:SOut)(r:PS):Prop:=match r with
 |.nx env s=>KZ q L h B O a .nx o env s
 |.bk env s=>KZ q L h B O a .bk o env s
 |.ct env s=>KZ q L h B O a .ct o env s
 |.exc c env s=>KZ q L h B O a (.exc ⟨c,[]⟩) o env s
 |.rse c env s=>KZ q L h B O a (.rse ⟨c,[]⟩) o env s
 |.rt d s=>Q5 q L h B fr o d s
 |.bad=>True
structure Xd(ws:R8) where
 m:kl
 p:aE->h8->PS
 fr:Bool
 ok:∀{q h L B O Z env s},Cx q h L B O ws Z env s->Dis ws Z env->SOk q L h B O ws fr (m Z h) (p env s)
def Nxt.after(a:Stp q L h O h1 O1)(n:Nxt q L h1 B O1 ws Z' h' env s):Nxt q L h B O ws Z' h' env s :=
 let⟨e,b,c,d⟩:=n;⟨e,a.trans b,c,d⟩
def SOk.after(a:Stp q L h O h1 O1)(k:SOk q L h1 B O1 ws fr o r):SOk q L h B O ws fr o r:=by
 cases r with
 |nx env s=>obtain⟨i,g,e,n⟩:=k;exact⟨i,g,e,n.after a⟩
 |bk env s=>obtain⟨i,g,e,n⟩:=k;exact⟨i,g,e,n.after a⟩
 |ct env s=>obtain⟨i,g,e,n⟩:=k;exact⟨i,g,e,n.after a⟩
 |exc c env s=>obtain⟨i,g,e,n⟩:=k;exact⟨i,g,e,n.after a⟩
 |rse c env s=>obtain⟨i,g,e,n⟩:=k;exact⟨i,g,e,n.after a⟩
 |rt d s=>obtain⟨v,g,e,l,b,u,z,y⟩:=k;exact⟨v,g,e,tx a.len l,λn t j=>(b n t j).trans (a.base n t j),u,z,y⟩
 |bad=>trivial
def SOk.fr(hf:f'=I->f=I)(k:SOk q L h B O ws f o r):SOk q L h B O ws f' o r:=by
 cases r with
 |rt d s=>obtain⟨v,a,e,l,b,p,r,z⟩:=k;exact⟨v,a,e,l,b,p,r,λy=>z (hf y)⟩
 |nx env s=>exact k
 |bk env s=>exact k
 |ct env s=>exact k
 |exc c env s=>exact k
 |rse c env s=>exact k
 |bad=>trivial
def KB.stp(c:Cx q h L B O ws Z env s)(k:KB q h h'):Stp q L h O h' O :=
 ⟨k.len,k.mv c.pO,λ_ h=>h,λn a e=>k.keep n (y_ a c.hL) e⟩
def PR.go{α:Type}(r:PR α)(env:aE)(k:α->aE->h8->PS):PS:=match r with
 |.ok a s=>k a env s
 |.exc c s=>.exc c env s
 |.bad=>.bad
@[simp]theorem Pg(a:α)(s:h8)(env:aE)(k:α->aE->h8->PS):(PR.ok a s).go env k=k a env s:=rfl
@[simp]theorem PR.go_exc(c:Str)(s:h8)(env:aE)(k:α->aE->h8->PS):(PR.exc c s:PR α).go env k=.exc c env s:=rfl
@[simp]theorem PR.go_bad(env:aE)(k:α->aE->h8->PS):(PR.bad:PR α).go env k=.bad:=rfl
theorem SOk.ex{α β:Type}{q L:Nat}{h:MH}{B O j:R8}{fr:Bool}{Z:l_}{env:aE}{s:h8}{o:Out β}{r:PR α}{R:MH->α->β->Prop}{f:β->kl}{g:α->aE->h8->PS}(c:Cx q h L B O j Z env s)(d:Dis j Z env)(k:Ok q h o r R)(n:∀a b e i,KB q h e->Cx q e L B O j Z env i->R e a b->SOk q L e B O j fr (f b Z e) (g a env i)):
  SOk q L h B O j fr (o.go Z f) (r.go env g):=by
 cases r with
 |ok a i =>
  obtain⟨b,e,rfl,kb,pn,l⟩:=k;exact(n a b e i kb (c.kb kb pn) l).after (kb.stp c)
 |exc x i =>
  obtain⟨e,rfl,kb,pn⟩:=k;exact⟨Z,e,rfl,O,kb.stp c,c.kb kb pn,d⟩
 |bad=>trivial
noncomputable section
variable{ws:R8}
def PS.then(r:PS)(k:aE->h8->PS):PS:=match r with
 |.nx env s=>k env s
 |r=>r
@[simp]theorem aq:(PS.nx env s).then k=k env s:=rfl
@[simp]theorem wW:(PS.rt d s).then k=.rt d s:=rfl
@[simp]theorem then_bk:(PS.bk env s).then k=.bk env s:=rfl
@[simp]theorem then_ct:(PS.ct env s).then k=.ct env s:=rfl
@[simp]theorem BF:(PS.exc c env s).then k=.exc c env s:=rfl
@[simp]theorem Ca:(PS.rse c env s).then k=.rse c env s:=rfl
@[simp]theorem By:PS.bad.then k=.bad:=rfl
def aG(a b:Xd ws):Xd ws where
 m:=aC a.m b.m
 p:=λenv s=>(a.p env s).then b.p
 fr:=a.fr&&b.fr
 ok {q h L B O Z env s} c d:=by
  have k:=a.ok c d;show SOk q L h B O ws _ ((a.m Z h).then b.m) _
  cases e:a.p env s with
  |nx g l =>
   rw[e]at k;obtain⟨H,G,e1,F,st,E,z⟩:=k;rw[e1];exact((b.ok E z).fr (by simp)).after st
  |rt x l=>rw[e]at k;obtain⟨v,i,e1,t,C,u,o,y⟩:=k;rw[e1];exact SOk.fr (f:=a.fr) (by simp;exact λh _=>h) (show SOk q L h B O ws a.fr (.rt v i) (.rt x l) from⟨v,i,rfl,t,C,u,o,y⟩)
  |bk g l=>rw[e]at k;obtain⟨j,i,e1,r⟩:=k;rw[e1];exact⟨j,i,rfl,r⟩
  |ct g l=>rw[e]at k;obtain⟨j,i,e1,r⟩:=k;rw[e1];exact⟨j,i,rfl,r⟩
  |exc x g l=>rw[e]at k;obtain⟨j,i,e1,r⟩:=k;rw[e1];exact⟨j,i,rfl,r⟩
  |rse x g l=>rw[e]at k;obtain⟨j,i,e1,r⟩:=k;rw[e1];exact⟨j,i,rfl,r⟩
  |bad=>trivial
def ky:Xd ws where
 m:=iv
 p:=.nx
 fr:=I
 ok {q h L B O Z env s} c d:=⟨Z,h,rfl,O,Stp.refl _ _ _ _,c,d⟩
def JU{m:Mx PV}{Z:l_}{h:MH}:aQ m Z h=(m Z h).go Z λv _ a=>.rt v a:=by delta aQ;cases m Z h<;>rfl
def bG(e:Xe ws):Xd ws where
 m:=aQ e.m
 p:=λenv s=>(e.p env s).go env λd _ s=>.rt d s
 fr:=e.fr
 ok {q h L B O Z env s} c d:=by
  rw[JU];refine SOk.ex (f:=λv _ t=>.rt v t) (g:=λd _ s=>.rt d s) c d (e.ok c) λx v E G kb a ⟨w,z,f⟩=>?_;refine⟨v,E,rfl,i3 _,λ_ _ _=>rfl,a.pen,w.base a.sub a.bb,λy=>?_⟩;intro j u;obtain⟨n,xs,l,F,i,C⟩:=f y j u
  have:=c.hL
  exact⟨n,xs,l,⋯,i,C.mv ⟨λ_ _ _=>rfl,λo r=>.inl (by
   rcases nk.mp r with z|z
   .subst z;simp
   .exact oh _ (c.sub o z))⟩⟩
def nK(i:Nat)(t:ws.contains i=I:=by exact ys rfl):Xd ws where
 m:=aQ (af i)
 p:=λenv s=>match env[i]? with
  |some (J d)=>.rt d s
  |_=>.bad
 fr:=I
 ok {q h L B O Z env s} c d:=by
  show SOk q L h B O ws _ _ (match env[i]? with|some (J d)=>PS.rt d s|_=>.bad)
  cases e:env[i]? with
  |none=>trivial
  |some o =>
   cases o with
   |none=>trivial
   |some x =>
    obtain⟨n,xs,u,e1,e2,a,b,g,r⟩:=c.sr.ow i x e (by simpa using t);subst e1
    have l:Mv O h (n::B) h:=⟨λ_ _ _=>rfl,λo y=>.inl (by
     rcases nk.mp y with z|z
     .subst z;exact a
     .exact c.sub o z)⟩
    have f:Frs q L B h (.lst u) (.loc n):=λj e=>by cases e;exact⟨n,xs,rfl,b,g,r.mv l⟩
    refine⟨.loc n,h,by simp[aQ,af,e2],i3 _,λ_ _ _=>rfl,c.pen,f.rp c.bb rfl,λ_=>f⟩
def cT(e:Xe ws):Xd ws where
 m:=bJ e.m
 p:=λenv s=>(e.p env s).go env λ_=>.nx
 fr:=I
 ok {q h L B O Z env s} c d:=SOk.ex (f:=λ_=>iv) (g:=λ_=>.nx) c d (e.ok c) λx v a j kb i _=>⟨Z,a,rfl,O,Stp.refl _ _ _ _,i,d⟩
def Cs(t:Xt ws)(a b:Xd ws):Xd ws where
 m:=vu t.m a.m b.m
 p:=λenv s=>(t.p env s).go env λx env s=>if x=I then a.p env s else b.p env s
 fr:=a.fr&&b.fr
 ok {q h L B O Z env s} c d:=SOk.ex (f:=λx=>if x=I then a.m else b.m) (g:=λx env s=>if x=I then a.p env s else b.p env s) c d (t.ok c) λx v j l kb i e=>by
  subst e
  cases x with
  |true=>exact(a.ok i d).fr (by simp;exact λh _=>h)
  |false=>exact(b.ok i d).fr (by simp)
def Dis.keep(d:Dis ws Z env)(k:∀i∈ws,Z'[i]?=Z[i]?/\env'[i]?=env[i]?):Dis ws Z' env':=λi j l g ne x y n a b e=>by
 rw[(k i l).1]at e;rw[(k i l).2]at a;rw[(k j g).2]at b;rw[(k j g).1];exact d i j l g ne x y n a b e
def bu(i:Nat)(e:Xe ws)(l:ws.contains i=T:=by exact ys rfl)(o:e.fz=I:=by exact ys rfl):Xd ws where
 m:=aO i e.m
 p:=λenv s=>(e.p env s).go env λd env s=>.nx (env.set i (J d)) s
 fr:=I
 ok {q h L B O Z env s} c d:=by refine SOk.ex (f:=λv Z h=>.nx (Z.set i (J v)) h) (g:=λd env s=>.nx (env.set i (J d)) s) c d (e.ok c) λx v r t kb j ⟨_,z,_⟩=>?_;obtain⟨a,b⟩:=j.sr.set (i:=i) (λz=>by simp[z]at l) (z o);exact⟨_,r,rfl,O,Stp.refl _ _ _ _,⟨j.bd,j.sub,j.bb,j.pb,j.hL,j.pen,a⟩,d.keep b⟩
def dZ(i:Nat)(e:Xe ws)(hi:ws.contains i=I:=by exact ys rfl)(hz:e.fr=I:=by exact ys rfl):Xd ws where
 m:=aO i e.m
 p:=λenv s=>(e.p env s).go env λd env s=>match d with
  |.lst F=>.nx (env.set i (J (.lst F))) s
  |_=>.bad
 fr:=I
 ok {q h L B O Z env s} c d:=by
  show SOk q L h B O ws _ _ _;have k:=e.ok c;show SOk q L h B O ws _ ((e.m Z h).go Z λv Z h=>.nx (Z.set i (J v)) h) _
  cases U:e.p env s with
  |bad=>trivial
  |exc x s1 =>
   rw[U]at k;obtain⟨H,e1,kb,pn⟩:=k;rw[e1];exact⟨Z,H,rfl,O,kb.stp c,c.kb kb pn,d⟩
  |ok x s1 =>
   rw[U]at k;obtain⟨v,H,e1,kb,pn,_,_,f⟩:=k;rw[e1]
   cases x with
   |lst F =>
    obtain⟨n,xs,rfl,hn,g,r⟩:=f hz F rfl;have c1:=c.kb kb pn;have P:i∈ws:=by simpa using hi
    have mv:Mv O h (n::O) H:=⟨λm G no=>kb.keep m G λz=>no (z▸c.pO),λo t=>by
     rcases nk.mp t with z|z
     .exact .inr ⋯
     .exact .inl z⟩
    have Q:n∉O:=λz=>by have:=c.bd n z;lia
    refine⟨Z.set i (J (.loc n)),H,rfl,n::O,⟨kb.len,mv,λo t=>oh _ t,λm G hq=>kb.keep m (y_ G c.hL) hq⟩,⟨λo t=>?_,λo t=>oh _ (c.sub o t),c.bb,c.pb,c1.hL,pn,?_⟩,?_⟩
    .rcases nk.mp t with z|z
     .subst z;exact bo g
     .exact c1.bd o z
    .have sr:=c.sr.mv mv (λo t=>oh _ t) λm G u _=>kb.keep m G (by have:=c.pL;lia);refine⟨by simp[sr.len],λj x l C=>?_,λj x l C=>?_⟩
     .have ne:i≠j:=λz=>C (z▸P);rw[pq ne]at l;rw[pq ne];exact sr.fz j x l C
     .by_cases z:i=j
      .subst z;have u:i<env.length:=by have:=(mw.mp l).1;simpa using this
       rw[BO u]at l;cases l;exact⟨n,xs,F,rfl,BO (by rw[sr.len];exact u),by simp,by have:=c.hL;lia,g,r⟩
      .rw[pq z]at l;rw[pq z];exact sr.ow j x l C
    .have old:∀j d,j∈ws->i≠j->(env.set i (J (.lst F)))[j]?=J (J d)->(Z.set i (J (.loc n)))[j]?≠J (J (.loc n)):=λj d C ne l z=>by
      rw[pq ne]at l z;obtain⟨n',_,_,_,X,b3,_⟩:=c.sr.ow j d l C;rw[z]at X;cases X;exact Q b3
     intro a b ha W ne x y m R M E;by_cases S:i=a
     .subst S;have u:i<Z.length:=by have:=(mw.mp E).1;simpa using this
      rw[BO u]at E;cases E;exact old b y W ne M
     .by_cases z2:i=b
      .subst z2;intro z;have u:i<Z.length:=by have:=(mw.mp z).1;simpa using this
       rw[BO u]at z;cases z;exact old a x ha S R E
      .rw[pq S]at R E;rw[pq z2]at M ⊢;exact d a b ha W ne x y m R M E
   |_=>trivial
def wm(x:Str)(a:Xs ws):Xd ws where
 m:=kg x a.m
 p:=λenv s=>(a.p env s).go env λi env s=>if i.length<=100000 then .rse x env s else .bad
 fr:=I
 ok {q h L B O Z env s} c d:=by
  refine SOk.ex (f:=λ(j:R4) Z h=>if j.length<=sizeLine then .rse ⟨x,[]⟩ Z h else .bad) (g:=λ(i:R9) env s=>if i.length<=100000 then .rse x env s else .bad) c d (a.ok c) λi j l y kb u ⟨w,_⟩=>?_;have o:∀{i:R9}{j:R4},Vws q l L O i j->j.length=i.length:=by
   intro i
   induction i with
   |nil=>intro j w;rw[show j=[]from w];rfl
   |cons d i t=>intro j w;obtain⟨x,r,e,_,b⟩:=w;rw[e,C1,C1,t b]
  by_cases z:i.length<=100000
  .rw[c_ z,c_ (by have:=eK;rw[o w];lia)];exact⟨Z,l,rfl,O,Stp.refl _ _ _ _,u,d⟩
  .rw[f_ z];trivial
def MZ(F:R5)(t a:Nat)(b:Xd ws)(H:ws.contains t=T:=by exact ys rfl)(h2:ws.contains a=T:=by exact ys rfl):Xd ws where
 m:=oS F t a b.m
 p:=λenv s=>match b.p env s with
  |.exc c e s=>if c∈F then .nx (((e.set a (J (.exc c))).set t (J (.exc c))).set a Y) s else .bad
  |.rse _ _ _=>.bad
  |r=>r
 fr:=b.fr
 ok {q h L B O Z env s} c d:=by
  have k:=b.ok c d
  show SOk q L h B O ws _ (match b.m Z h with
   |.exc x Z1 H=>if x.fs=[]/\x.cls∈F then .nx (((Z1.set a (J (.loc H.length))).set t (J (.loc H.length))).set a Y) (H++[.exc x])else .bad
   |.rse _ _ _=>.bad
   |o=>o) (match b.p env s with
   |.exc c e s=>if c∈F then PS.nx (((e.set a (J (.exc c))).set t (J (.exc c))).set a Y) s else .bad
   |.rse _ _ _=>.bad
   |r=>r)
  cases e:b.p env s with
  |nx g G=>rw[e]at k;obtain⟨C,i,e1,r⟩:=k;rw[e1];exact⟨C,i,rfl,r⟩
  |rt x G=>rw[e]at k;obtain⟨v,i,e1,r1,r2,r3,X,r5⟩:=k;rw[e1];exact⟨v,i,rfl,r1,r2,r3,X,r5⟩
  |bk g G=>rw[e]at k;obtain⟨C,i,e1,r⟩:=k;rw[e1];exact⟨C,i,rfl,r⟩
  |ct g G=>rw[e]at k;obtain⟨C,i,e1,r⟩:=k;rw[e1];exact⟨C,i,rfl,r⟩
  |rse x g G=>trivial
  |bad=>trivial
  |exc x g G =>
   rw[e]at k;obtain⟨C,i,e1,Q,st,M,d'⟩:=k;rw[e1];dsimp only;by_cases z:x∈F
   .rw[c_ z,c_ ⟨rfl,z⟩];have kb:=KB.app q i [MO.exc ⟨x,[]⟩];have E:=M.kb kb M.pen.app;have r:Rp q (i++[MO.exc ⟨x,[]⟩]) Q (.exc x) (.loc i.length):=⟨_,rfl,λz=>by have:=M.bd _ z;lia,by simp⟩;have S:a∉ws:=λz=>by simp[z]at h2
    have n2:t∉ws:=λz=>by simp[z]at H
    obtain⟨a1,R⟩:=E.sr.set S r;obtain⟨P,U⟩:=a1.set n2 r;have ne:∀j∈ws,a≠j:=λj l z=>S (z▸l);have a3:SR q (i++[MO.exc ⟨x,[]⟩]) L Q ws (((C.set a (J (.loc i.length))).set t (J (.loc i.length))).set a Y) (((g.set a (J (.exc x))).set t (J (.exc x))).set a Y):=by
     refine⟨by simp[P.len],λj y u l=>?_,λj y u l=>?_⟩
     .by_cases z:a=j
      .subst z;have hl:a<((g.set a (J (D.exc x))).set t (J (D.exc x))).length:=by have:=(mw.mp u).1;simpa using this
       rw[BO hl]at u;cases u
      .rw[pq z]at u;rw[pq z];exact P.fz j y u l
     .rw[pq (ne j l)]at u;rw[pq (ne j l)];exact P.ow j y u l
    refine⟨_,_,rfl,Q,st.trans (kb.stp M),⟨E.bd,E.sub,E.bb,E.pb,E.hL,E.pen,a3⟩,d'.keep λj l=>?_⟩;have W:a≠j:=ne j l;refine⟨?_,?_⟩
    .rw[pq W,(U j l).1,(R j l).1]
    .rw[pq W,(U j l).2,(R j l).2]
   .rw[f_ z];trivial
end
end PU
namespace PU
open MM
open L2 (yU)
noncomputable section
variable{ws:R8}
def PS.turn(r:PS)(k:aE->h8->PS):PS:=match r with
 |.nx e s=>k e s
 |.ct e s=>k e s
 |.bk e s=>.nx e s
 |r=>r
@[simp]theorem fN:(PS.nx e s).turn k=k e s:=rfl
@[simp]theorem Ob:(PS.ct e s).turn k=k e s:=rfl
@[simp]theorem Oc:(PS.bk e s).turn k=.nx e s:=rfl
@[simp]theorem Od:(PS.rt d s).turn k=.rt d s:=rfl
@[simp]theorem CN:(PS.exc c e s).turn k=.exc c e s:=rfl
@[simp]theorem Ck:(PS.rse c e s).turn k=.rse c e s:=rfl
@[simp]theorem M0:PS.bad.turn k=.bad:=rfl
def xv(g:D->aE->Option aE)(b:aE->h8->PS):R9->aE->h8->PS
 |[],env,s=>.nx env s
 |d::e,env,s=>match g d env with
  |none=>.bad
  |some a=>(b a s).turn (xv g b e)
def JV(g:Xg ws)(b:Xd ws):∀(C:R9)(xs:R4)(env:aE)(Z:l_)(h:MH)(O:R8)(s:h8),Cx q h L B O ws Z env s->Dis ws Z env->Rps q h O C xs->(∀y∈it.gd,h[y.1]?=J (.lst y.2)/\y.1∉O) ->
  SOk q L h B O ws b.fr (Dp it g.m b.m xs Z h) (xv g.p b.p C env s):=by
 intro C
 induction C with
 |nil =>
  intro xs env Z h O s c d r gd
  have:=r
  subst this;have ok:it.ok h:=λy u=>(gd y u).1;refine⟨Z,h,by rw[Dp];dsimp only;rw[c_ ok],O,Stp.refl _ _ _ _,c,d⟩
 |cons x C Q =>
  intro xs env Z h O s c d r gd;obtain⟨v,F,rfl,M,G⟩:=r;have ok:it.ok h:=λy u=>(gd y u).1;rw[xv]
  cases S:g.p x env with
  |none=>trivial
  |some l =>
   obtain⟨R,f1,sr,k⟩:=g.ok c.sr M S;have c1:Cx q h L B O ws R l s:=⟨c.bd,c.sub,c.bb,c.pb,c.hL,c.pen,sr⟩;have kb:=b.ok c1 (d.keep k)
   have em:Dp it g.m b.m (v::F) Z h=(match b.m R h with
    |.nx j i=>Dp it g.m b.m F j i
    |.ct j i=>Dp it g.m b.m F j i
    |.bk j i=>.nx j i
    |.rt v i=>.rt v i
    |.exc e j i=>.exc e j i
    |.rse e j i=>.rse e j i
    |.bad=>.bad):=by rw[Dp];dsimp only;(rw[c_ ok,f1])<;>rfl
   rw[em];have E:∀{i:MH}{z:R8},Stp q L h O i z->∀y∈it.gd,i[y.1]?=J (.lst y.2)/\y.1∉z:=λst y u=>by
    obtain⟨a,b⟩:=st.mv.get (gd y u).1 (gd y u).2;exact⟨b,a⟩
   dsimp only
   cases t:b.p l s with
   |bad=>trivial
   |nx e2 o =>
    rw[t]at kb;obtain⟨j,i,e1,z,st,P,H⟩:=kb;rw[e1];exact(Q F e2 j i z o P H (G.mv st.mv) (E st)).after st
   |ct e2 o =>
    rw[t]at kb;obtain⟨j,i,e1,z,st,P,H⟩:=kb;rw[e1];exact(Q F e2 j i z o P H (G.mv st.mv) (E st)).after st
   |bk e2 o=>rw[t]at kb;obtain⟨j,i,e1,r⟩:=kb;rw[e1];exact⟨j,i,rfl,r⟩
   |exc x e2 o=>rw[t]at kb;obtain⟨j,i,e1,r⟩:=kb;rw[e1];exact⟨j,i,rfl,r⟩
   |rse x e2 o=>rw[t]at kb;obtain⟨j,i,e1,r⟩:=kb;rw[e1];exact⟨j,i,rfl,r⟩
   |rt x o=>rw[t]at kb;obtain⟨v,i,e1,M,G,W,U,X⟩:=kb;rw[e1];exact⟨v,i,rfl,M,G,W,U,X⟩
def dU(i:Xi ws)(g:Xg ws)(b:Xd ws)(o:i.fz=I:=by exact ys rfl):Xd ws where
 m:=eE i.m g.m b.m
 p:=λenv s=>(i.p env s).go env λa env s=>xv g.p b.p a env s
 fr:=b.fr
 ok {q h L B O Z env s} c d:=SOk.ex (f:=λe=>Dp e g.m b.m e.xs) (g:=λa env s=>xv g.p b.p a env s) c d (i.ok c) λa e l u kb t r =>
  JV g b a e.xs env Z l O u t d r.1 λy j=>⟨(r.2.1 y j).1,r.2.2 o y j⟩
def eD(t:aE->h8->PR Bool)(b:aE->h8->PS):Nat->aE->h8->PS
 |0,_,_=>.bad
 |n+1,env,s=>(t env s).go env λx env s=>if x=I then(b env s).turn (eD t b n)else .nx env s
def r9(t:Xt ws)(b:Xd ws):∀(n:Nat)(env:aE)(Z:l_)(h:MH)(O:R8)(s:h8),Cx q h L B O ws Z env s->Dis ws Z env->SOk q L h B O ws b.fr (cE t.m b.m n Z h) (eD t.p b.p n env s)
 |0,env,Z,h,O,s,c,d=>trivial
 |n+1,env,Z,h,O,s,c,d=>by
  refine SOk.ex c d (t.ok c) λx v H F kb y e=>?_;subst e
  cases x with
  |false=>exact⟨Z,H,rfl,O,Stp.refl _ _ _ _,y,d⟩
  |true =>
   have k:=b.ok y d;rw[c_ rfl]
   cases j:b.p env F with
   |bad=>trivial
   |nx e2 i =>
    rw[j]at k;obtain⟨g,a,e1,o,st,u,l⟩:=k;rw[e1];exact(r9 t b n e2 g a o i u l).after st
   |ct e2 i =>
    rw[j]at k;obtain⟨g,a,e1,o,st,u,l⟩:=k;rw[e1];exact(r9 t b n e2 g a o i u l).after st
   |bk e2 i=>rw[j]at k;obtain⟨g,a,e1,r⟩:=k;rw[e1];exact⟨g,a,rfl,r⟩
   |exc x e2 i=>rw[j]at k;obtain⟨g,a,e1,r⟩:=k;rw[e1];exact⟨g,a,rfl,r⟩
   |rse x e2 i=>rw[j]at k;obtain⟨g,a,e1,r⟩:=k;rw[e1];exact⟨g,a,rfl,r⟩
   |rt x i=>rw[j]at k;obtain⟨v,a,e1,C,M,E,z,G⟩:=k;rw[e1];exact⟨v,a,rfl,C,M,E,z,G⟩
def M1(N:Nat)(t:Xt ws)(b:Xd ws)(g:∀{Z h n},cE t.m b.m n Z h≠.bad->E6 t.m b.m Z h=cE t.m b.m n Z h):Xd ws where
 m:=E6 t.m b.m
 p:=eD t.p b.p N
 fr:=b.fr
 ok {q h L B O Z env s} c d:=by
  have k:=r9 t b N env Z h O s c d;by_cases z:cE t.m b.m N Z h=.bad
  .rw[z]at k
   cases e:eD t.p b.p N env s with
   |bad=>trivial
   |nx e2 a=>rw[e]at k;obtain⟨_,_,e1,_⟩:=k;cases e1
   |ct e2 a=>rw[e]at k;obtain⟨_,_,e1,_⟩:=k;cases e1
   |bk e2 a=>rw[e]at k;obtain⟨_,_,e1,_⟩:=k;cases e1
   |exc x e2 a=>rw[e]at k;obtain⟨_,_,e1,_⟩:=k;cases e1
   |rse x e2 a=>rw[e]at k;obtain⟨_,_,e1,_⟩:=k;cases e1
   |rt x a=>rw[e]at k;obtain⟨_,_,e1,_⟩:=k;cases e1
  .rw[g z];exact k
structure K0 where
 m:Nat->R4->MH->SX
 p:R9->R9->Option (D×R9)
 ok:∀{q:Nat}{h:MH}{O:R8}{n:Nat}{xs:R4}{ds as:R9}{vs:R4}{d:D}{ds':R9},h[n]?=J (.lst xs)->Rps q h O ds xs->Rps q h O as vs->p ds as=J (d,ds')->∃v xs',m n vs h=.ok v (h.set n (.lst xs'))/\Rps q h O ds' xs'/\Rp q h O d v
def wP{q h L B O Z env s n xs' ds' i ds}(c:Cx q h L B O ws Z env s)(d:Dis ws Z env)(C:i∈ws)(e:env[i]?=J (J (D.lst ds)))(M:Z[i]?=J (J (.loc n)))(r:Rps q h O ds' xs'):
  Nxt q L h B O ws Z (h.set n (.lst xs')) (env.set i (J (.lst ds'))) s:=by
 obtain⟨n',xs,X,e0,e2,a,b,g,r0⟩:=c.sr.ow i _ e C;rw[M]at e2;cases e2;have mv:Mv O h O (h.set n (.lst xs')):=⟨λm U no=>pq (λ(z:n=m)=>no (z▸a)),λo E=>.inl E⟩;have hp:=c.pL;have S:=(mw.mp e).1;refine⟨O,⟨by simp,mv,λ_ h=>h,λm U _=>pq ⋯⟩,⟨λo E=>by simpa using c.bd o E,c.sub,c.bb,c.pb,by simpa using c.hL,?_,⟨by simp[c.sr.len],λj x l t=>?_,λj x l t=>?_⟩⟩,?_⟩
 .delta cS;rw[pq ⋯];exact c.pen
 .have ne:i≠j:=λz=>t (z▸C);rw[pq ne]at l;obtain⟨v,e1,w⟩:=c.sr.fz j x l t;exact⟨v,e1,w.mv mv⟩
 .by_cases z:i=j
  .subst z;rw[BO S]at l;cases l;exact⟨n,xs',ds',rfl,M,a,b,BO (bo g),r.mv mv⟩
  .rw[pq z]at l;obtain⟨m,ys,H,e1,e3,R,b4,b5,b6⟩:=c.sr.ow j x l t
   have:n≠m:=λy=>d i j C t z _ _ n e l M (y▸e3)
   exact⟨m,ys,H,e1,e3,R,b4,by rw[pq this];exact b5,b6.mv mv⟩
 .intro j k t hk ne x y m l W e1;have P:∀j x,(env.set i (J (D.lst ds')))[j]?=J (J x)->∃F,env[j]?=J (J F):=λj x l=>by
   by_cases z:i=j
   .subst z;exact⟨_,e⟩
   .rw[pq z]at l;exact⟨x,l⟩
  obtain⟨F,u⟩:=P j x l;obtain⟨Q,G⟩:=P k y W;exact d j k t hk ne F Q m u G e1
def M2(o:K0)(i:Nat)(a:Xs ws)(y:i∈ws)(C:a.fz=I){q h L B O Z env s}(c:Cx q h L B O ws Z env s)(d:Dis ws Z env)(Q:a.p env s=.ok as s1)(E:env[i]?=J (J (.lst ds)))(R:o.p ds as=J (r,ds')):∃v j n e,KB q h j/\Cx q j L B O ws Z env s1/\Z[i]?=J (J (.loc n))/\De o.m (af i) a.m Z h=.ok v (j.set n (.lst e))/\Rps q j O ds' e/\Rp q j O r v:=by
 obtain⟨n,xs,H,t,e2,S,U,g,G⟩:=c.sr.ow i _ E y;cases t;have l:=a.ok c;rw[Q]at l;obtain⟨W,j,e3,kb,pn,_,z⟩:=l;have P:=c.kb kb pn;have F:=(kb.keep n (bo g) (by have:=c.pL;lia)).trans g;obtain⟨v,e,e4,u,M⟩:=o.ok F (G.mv (kb.mv c.pO)) (z C) R;refine⟨v,j,n,e,kb,P,e2,?_,u,M⟩;have em:af i Z h=.ok (.loc n) h:=by simp[af,e2]
 simp_all
def EG(o:K0)(i:Nat)(a:aE->h8->PR (R9))(env:aE)(s:h8)(k:D->aE->h8->PS):PS:=match a env s with
 |.ok j l=>(match env[i]? with
  |some (J (.lst g))=>(match o.p g j with
   |some (r,e)=>k r (env.set i (J (.lst e))) l
   |none=>.bad)
  |_=>.bad)
 |_=>.bad
def A4(e1:a env s=.ok as s1)(e2:env[i]?=J (J (.lst ds)))(e3:o.p ds as=J (r,ds')):EG o i a env s k=k r (env.set i (J (.lst ds'))) s1:=by simp only[EG,e1,e2,e3]
def Go:EG o i a env s k=.bad\/∃j l e r g,a env s=.ok j l/\env[i]?=J (J (.lst e))/\o.p e j=J (r,g)/\EG o i a env s k=k r (env.set i (J (.lst g))) l:=by
 cases e1:a env s with
 |bad=>left;simp only[EG,e1]
 |exc _ _=>left;simp only[EG,e1]
 |ok j l =>
  cases e2:env[i]? with
  |none=>left;simp only[EG,e1,e2]
  |some x =>
   cases x with
   |none=>left;simp only[EG,e1,e2]
   |some d =>
    cases d with
    |lst e =>
     cases e3:o.p e j with
     |none=>left;simp only[EG,e1,e2,e3]
     |some y=>exact .inr ⟨j,l,e,y.1,y.2,rfl,rfl,e3,A4 e1 e2 e3⟩
    |_=>left;simp only[EG,e1,e2]
def Db(o:K0)(i:Nat)(a:Xs ws)(t:ws.contains i=I:=by exact ys rfl)(u:a.fz=I:=by exact ys rfl):Xd ws where
 m:=bJ (De o.m (af i) a.m)
 p:=λenv s=>EG o i a.p env s λ_=>.nx
 fr:=I
 ok {q h L B O Z env s} c d:=by
  rcases Go (o:=o) (i:=i) (a:=a.p) (env:=env) (s:=s) (k:=λ_=>.nx)with z|⟨H,G,F,r,j,e1,e2,e3,z⟩
  .rw[z];trivial
  .rw[z];have e:i∈ws:=by simpa using t
   obtain⟨v,y,n,g,kb,C,E,em,l,M⟩:=M2 o i a e u c d e1 e2 e3;refine⟨Z,y.set n (.lst g),?_,(wP C d e e2 E l).after (kb.stp c)⟩;delta bJ Dw;rw[em];rfl
def fH(i:Nat)(e l:aE->h8->PR D)(env:aE)(s:h8):PS:=match e env s with
 |.ok v o=>(match l env o with
  |.ok (.int j) g=>(match env[i]? with
   |some (J (.lst a))=>(match yU a.length j with
    |some n=>.nx (env.set i (J (.lst (a.set n v)))) g
    |none=>.bad)
   |_=>.bad)
  |_=>.bad)
 |_=>.bad
def rL(e1:e env s=.ok v s1)(e2:ix env s1=.ok (.int j) s2)(e3:env[i]?=J (J (.lst ds)))(e4:yU ds.length j=J n):fH i e ix env s=.nx (env.set i (J (.lst (ds.set n v)))) s2:=by simp only[fH,e1,e2,e3,e4]
def Cq:fH i e ix env s=.bad\/∃v g j l a n,e env s=.ok v g/\ix env g=.ok (.int j) l/\env[i]?=J (J (.lst a))/\yU a.length j=J n/\fH i e ix env s=.nx (env.set i (J (.lst (a.set n v)))) l:=by
 cases e1:e env s with
 |bad=>left;simp only[fH,e1]
 |exc _ _=>left;simp only[fH,e1]
 |ok v g =>
  cases e2:ix env g with
  |bad=>left;simp only[fH,e1,e2]
  |exc _ _=>left;simp only[fH,e1,e2]
  |ok k l =>
   cases k with
   |int j =>
    cases e3:env[i]? with
    |none=>left;simp only[fH,e1,e2,e3]
    |some x =>
     cases x with
     |none=>left;simp only[fH,e1,e2,e3]
     |some d =>
      cases d with
      |lst a =>
       cases e4:yU a.length j with
       |none=>left;simp only[fH,e1,e2,e3,e4]
       |some n=>exact .inr ⟨v,g,j,l,a,n,rfl,e2,rfl,e4,rL e1 e2 e3 e4⟩
      |_=>left;simp only[fH,e1,e2,e3]
   |_=>left;simp only[fH,e1,e2]
def Vw.int(w:Vw q h L O (.int b) v):v=.int b:=by
 rcases w with r|⟨n,xs,a,e,_⟩
 .exact r
 .cases e
def uN(i:Nat)(e o:Xe ws)(X:ws.contains i=I:=by exact ys rfl)(hz:e.fz=I:=by exact ys rfl):Xd ws where
 m:=lP e.m (E5 (af i) o.m)
 p:=fH i e.p o.p
 fr:=I
 ok {q h L B O Z env s} c d:=by
  rcases Cq (i:=i) (e:=e.p) (ix:=o.p) (env:=env) (s:=s)with z|⟨v,s1,j,s2,ds,n,e1,e2,e3,e4,z⟩
  .rw[z];trivial
  .rw[z];have r:i∈ws:=by simpa using X
   have Q:=e.ok c;rw[e1]at Q;obtain⟨x,E,f1,l,F,_,rx,_⟩:=Q;have P:=c.kb l F;have M:=o.ok P;rw[e2]at M;obtain⟨y,u,f2,a,C,w,_,_⟩:=M;have H:=P.kb a C;obtain⟨t,xs,ab,U,R,b1,b2,g,G⟩:=H.sr.ow i _ e3 r;cases U;have S:=w.int;subst S;have em:af i Z E=.ok (.loc t) E:=by simp[af,R]
   have nx:=wP H d r e3 R (xs':=xs.set n x) (ds':=ds.set n v) (G.set n ((rx hz).mv (a.mv c.pO)));refine⟨Z,u.set t (.lst (xs.set n x)),?_,nx.after ((l.trans a).stp c)⟩;have e5:pd (.loc t) (.int j) x u=J (u.set t (.lst (xs.set n x))):=by simp only[pd,g];rw[G.length,e4];rfl
   have W:E5 (af i) o.m x Z E=.nx Z (u.set t (.lst (xs.set n x))):=by simp only[E5,Dw,em,f2,e5]
   delta lP Dw;rw[f1];dsimp only;rw[W]
def PS.fin(r:PS):PR D:=match r with
 |.nx _ s=>.ok .non s
 |.rt d s=>.ok d s
 |.exc c _ s=>.exc c s
 |.rse c _ s=>.exc c s
 |_=>.bad
@[simp]theorem fin_nx:(PS.nx e s).fin=.ok .non s:=rfl
@[simp]theorem dA:(PS.rt d s).fin=.ok d s:=rfl
@[simp]theorem fin_exc:(PS.exc c e s).fin=.exc c s:=rfl
@[simp]theorem fin_rse:(PS.rse c e s).fin=.exc c s:=rfl
@[simp]theorem Oe:PS.bad.fin=.bad:=rfl
def ki(n:Nat)(a:R9):aE:=a.map J++List.replicate (n-a.length) Y
def ck(n o:Nat)(b:Xd ws)(M:ws.all (λi=>decide (o<=i))=I:=by exact ys rfl):Fn where
 m:=bc n o b.m
 p:=λg s=>if g.length=o then(b.p (ki n g) s).fin else .bad
 fr:=b.fr
 ok {q h O vs g s} bd E pn r:=by
  by_cases F:g.length=o
  .rw[c_ F];have hv:vs.length=o:=by rw[r.length];exact F
   have low:∀i d,(ki n g)[i]?=J (J d)->i<o/\g[i]?=J d:=λi d e=>by
    by_cases z:i<g.length
    .refine⟨⋯,?_⟩;unfold ki at e;rw[yS (by simpa using z)]at e;simp at e;simpa using e
    .unfold ki at e;rw[DG (by simpa using z)]at e;by_cases y:i-(g.map J).length<n-g.length
     .simp[Kz,y]at e
     .simp at y e;exact absurd e (by simp[Kz])
   have G:∀i d,(ki n g)[i]?=J (J d)->i∉ws:=λi d e t=>by
    have:=(low i d e).1
    rw[HR]at M
    have:=M i t
    simp at this;lia
   have c:Cx q h h.length O O ws (bA n vs) (ki n g) s:=by refine⟨bd,λ_ h=>h,bd,E,i3 _,pn,⟨by simp[bA,ki,r.length],λi d e _=>?_,λi d e t=>absurd t (G i d e)⟩⟩;obtain⟨v,H,Q⟩:=r.get (low i d e).2;refine⟨v,?_,Q⟩;delta bA;rw[yS (by simpa using(mw.mp H).1)];simp[H]
   have k:=b.ok c λi j t _ _ d _ _ e=>absurd t (G i d e)
   have em:bc n o b.m vs h=(match b.m (bA n vs) h with
    |.nx _ a=>.ok .non a
    |.rt v a=>.ok v a
    |.exc x _ a=>.exc x a
    |.rse x _ a=>.exc x a
    |_=>.bad):=by delta bc;(rw[c_ hv])<;>(cases b.m (bA n vs) h<;>rfl)
   rw[em];have kb:∀{a C},Stp q h.length h O a C->KB q h a:=λst=>⟨st.len,λm R E=>st.base m R E⟩
   cases e:b.p (ki n g) s with
   |nx e1 B=>rw[e]at k;obtain⟨L,a,f,C,st,u,_⟩:=k;rw[f];exact⟨.non,a,rfl,kb st,u.pen,rfl,λ_ g e=>by cases e⟩
   |exc x e1 B=>rw[e]at k;obtain⟨L,a,f,C,st,u,_⟩:=k;rw[f];exact⟨a,rfl,kb st,u.pen⟩
   |rse x e1 B=>rw[e]at k;obtain⟨L,a,f,C,st,u,_⟩:=k;rw[f];exact⟨a,rfl,kb st,u.pen⟩
   |rt x B=>rw[e]at k;obtain⟨v,a,f,l,b,p,P,S⟩:=k;rw[f];exact⟨v,a,rfl,⟨l,b⟩,p,P,S⟩
   |bk e1 B=>trivial
   |ct e1 B=>trivial
   |bad=>trivial
  .rw[f_ F];trivial
def M3(m:R4->MH->SX):Fn where
 m:=m
 p:=λ_ _=>.bad
 fr:=I
 ok _ _ _ _:=trivial
end
end PU
namespace PU
open MM SetT SortT
open L2 (yU nw fG)
noncomputable section
section
variable{q:Nat}{h:MH}{L:Nat}{O:R8}{v:PV}
def Vw.non(w:Vw q h L O .non v):v=.non:=by
 rcases w with r|⟨n,xs,a,e,_⟩
 .exact r
 .cases e
def Vw.str(w:Vw q h L O (.str x) v):v=.str x:=by
 rcases w with r|⟨n,xs,a,e,_⟩
 .exact r
 .cases e
inductive Q6(h:MH)(P:R4->Prop)(v:PV):Prop
 |mk(n:Nat)(xs:R4)(e:v=.loc n)(g:h[n]?=J (.lst xs))(r:P xs):Q6 h P v
def Vw.lst(w:Vw q h L O (.lst ds) v):Q6 h (Rps q h O ds) v:=by
 rcases w with⟨n,xs,e,_,g,r⟩|⟨n,xs,a,e,e1,_,_,g,r⟩
 .exact⟨n,xs,e,g,r⟩
 .cases e;exact⟨n,xs,e1,g,r⟩
def Vw.tup(w:Vw q h L O (.tup ds) v):P6 (Rps q h O ds) v:=by
 rcases w with r|⟨n,xs,a,e,_⟩
 .exact r
 .cases e
def JW(r:Rp q h O d v)(hf:fr=I->∀a,d≠.lst a):Gv q h O fr (.ok v h) d :=
 ⟨v,[],by simp,by simpa using r,λz a e=>absurd e (hf z a)⟩
def EH:Gv q h O fr (.ok (.int i) h) (.int i):=JW rfl λ_ _ e=>by cases e
def vv:Gv q h O fr (.ok (.bl i) h) (.bl i):=JW rfl λ_ _ e=>by cases e
def dX(w:Vws q h L O [d] vs):∃x,vs=[x]/\Vw q h L O d x:=by
 obtain⟨x,r,e,a,b⟩:=w
 have:r=[]:=b
 subst this;exact⟨x,e,a⟩
def Gp(w:Vws q h L O [d,d'] vs):∃x y,vs=[x,y]/\Vw q h L O d x/\Vw q h L O d' y:=by obtain⟨x,r,e,a,b⟩:=w;obtain⟨y,rfl,c⟩:=dX b;exact⟨x,y,e,a,c⟩
end
def JX(m:PV->PV->MH->SX)(f:Int->Int->D)(g:Int->Int->PV)(l:∀i j h,m (.int i) (.int j) h=.ok (g i j) h)(o:∀i j q h O fr,Gv q h O fr (.ok (g i j) h) (f i j)):Ee where
 m:=m
 p:=λa b=>match a,b with
  |.int i,.int j=>J (f i j)
  |_,_=>Y
 fr:=I
 ok {q h L O a x b y d} bd wa wb e:=by
  cases a with
  |int i =>
   cases b with
   |int j=>cases e;rw[wa.int,wb.int,l];exact o i j q h O I
   |_=>cases e
  |_=>cases e
def JY:Ee:=JX Dy (λi j=>.bl (decide (i<j))) (λi j=>.bl (decide (i<j))) (λ_ _ _=>rfl) λ_ _ _ _ _ _=>vv
def Q7:Ee:=JX FK (λi j=>.bl (decide (i<=j))) (λi j=>.bl (decide (i<=j))) (λ_ _ _=>rfl) λ_ _ _ _ _ _=>vv
def Q8:Ee:=JX Em (λi j=>.bl (decide (j<i))) (λi j=>.bl (decide (j<i))) (λ_ _ _=>rfl) λ_ _ _ _ _ _=>vv
def bE:Ee where
 m:=ik
 p:=λa b=>match a,b with
  |.int i,.int j=>J (.int (i+j))
  |.lst x,.lst y=>if x.length+y.length<=100000 then J (.lst (x++y))else Y
  |.tup (a::x),.tup y=>if x.length+1+y.length<=100000 then J (.tup (a::x++y))else Y
  |_,_=>Y
 fr:=I
 ok {q h L O a x b y d} bd wa wb e:=by
  cases a with
  |int i =>
   cases b with
   |int j=>cases e;rw[wa.int,wb.int];exact EH
   |_=>cases e
  |lst x =>
   cases b with
   |lst y =>
    dsimp only at e;by_cases z:x.length+y.length<=100000
    .rw[c_ z]at e;cases e;obtain⟨n,xs,rfl,g,r⟩:=wa.lst;obtain⟨o,ys,rfl,s,l⟩:=wb.lst;show Gv q h O I (match h[n]?,h[o]? with|some (.lst xs),J (.lst ys)=>p_ (xs++ys) h|_,_=>.bad) _;rw[g,s];exact nE bd (r.app l) (by simpa using z)
    .rw[f_ z]at e;cases e
   |_=>cases e
  |tup x =>
   cases x with
   |nil=>cases b<;>cases e
   |cons a x =>
    cases b with
    |tup y =>
     dsimp only at e;by_cases z:x.length+1+y.length<=100000
     .rw[c_ z]at e;cases e;obtain⟨xs,rfl,r⟩:=wa.tup;obtain⟨ys,rfl,l⟩:=wb.tup;have ne:xs≠[]:=λz=>by have:=r.length;simp[z]at this
      show Gv q h O I (if xs≠[]then wy (xs++ys) h else .bad) _;rw[c_ ne];exact w8 (r.app l) (by simp;lia)
     .rw[f_ z]at e;cases e
    |_=>cases e
  |_=>cases e
def Rps.rep(r:Rps q h O ds xs):∀n,Rps q h O (List.replicate n ds).flatten (List.replicate n xs).flatten
 |0=>rfl
 |n+1=>by
  exact r.app (Rps.rep r n)
def Gq:Ee where
 m:=j3
 p:=λa b=>match a,b with
  |.int i,.int j=>if IntMulOk i j then J (.int (i*j))else Y
  |.lst x,.int j=>if(0<=j/\j<=1000)/\((List.replicate j.toNat x).flatten).length<=100000 then J (.lst (List.replicate j.toNat x).flatten)else Y
  |_,_=>Y
 fr:=I
 ok {q h L O a x b y d} bd wa wb e:=by
  cases a with
  |int i =>
   cases b with
   |int j =>
    dsimp only at e;by_cases z:IntMulOk i j
    .rw[c_ z]at e;cases e;rw[wa.int,wb.int];show Gv q h O I (if IntMulOk i j then .ok (.int (i*j)) h else .bad) _;rw[c_ z];exact EH
    .rw[f_ z]at e;cases e
   |_=>cases e
  |lst x =>
   cases b with
   |int j =>
    dsimp only at e;by_cases z:(0<=j/\j<=1000)/\((List.replicate j.toNat x).flatten).length<=100000
    .rw[c_ z]at e;cases e;obtain⟨n,xs,rfl,g,r⟩:=wa.lst;rw[wb.int];show Gv q h O I (match h[n]? with|some (.lst xs)=>if -(2^63)<=j/\j<2^63 then p_ (List.flatten (List.replicate j.toNat xs)) h else .bad|_=>.bad) _;rw[g];dsimp only;rw[c_ ⋯];exact nE bd (r.rep _) z.2
    .rw[f_ z]at e;cases e
   |_=>cases e
  |_=>cases e
def JZ:Ee where
 m:=ov
 p:=λa b=>match a,b with
  |.int i,.int j=>if fG i j then J (.int (i^j.toNat))else Y
  |_,_=>Y
 fr:=I
 ok {q h L O a x b y d} bd wa wb e:=by
  cases a with
  |int i =>
   cases b with
   |int j =>
    dsimp only at e;by_cases z:fG i j
    .rw[c_ z]at e;cases e;rw[wa.int,wb.int];show Gv q h O I (if fG i j then .ok (.int (i^j.toNat)) h else .bad) _;rw[c_ z];exact EH
    .rw[f_ z]at e;cases e
   |_=>cases e
  |_=>cases e
def mf:Ee where
 m:=aL
 p:=λa b=>match a,b with
  |.lst x,.int j=>nw x j
  |.tup x,.int j=>nw x j
  |_,_=>Y
 fr:=T
 ok {q h L O a x b y d} bd wa wb e:=by
  have at':∀{i:R9}{xs:R4}{j:Int},Rps q h O i xs->nw i j=J d->∃v,nw xs j=J v/\Rp q h O d v:=λ{i xs j} r e=>by
   unfold nw at e ⊢;rw[r.length]
   cases e1:yU i.length j with
   |none=>rw[e1]at e;cases e
   |some k=>rw[e1]at e;exact r.get e
  cases b with
  |int j =>
   rw[wb.int]
   cases a with
   |lst i =>
    obtain⟨n,xs,rfl,g,r⟩:=wa.lst;obtain⟨v,e1,l⟩:=at' r e;show Gv q h O T (match h[n]? with|some (.lst xs)=>(match nw xs j with|some v=>.ok v h|none=>.bad)|_=>.bad) _;rw[g];dsimp only;rw[e1];exact JW l λz=>by cases z
   |tup i =>
    obtain⟨xs,rfl,r⟩:=wa.tup;obtain⟨v,e1,l⟩:=at' r e;show Gv q h O T (match nw xs j with|some v=>.ok v h|none=>.bad) _;rw[e1];exact JW l λz=>by cases z
   |_=>cases e
  |_=>cases a<;>cases e
def DZ(g:Bool):Ee where
 m:=i7 g
 p:=λa b=>match b with
  |.non=>(match a with
   |.non=>J (.bl (!g))
   |_=>J (.bl g))
  |.bl b=>(match a with
   |.bl c=>J (.bl (if g then !(c==b)else c==b))
   |.non=>J (.bl g)
   |.int _=>J (.bl g)
   |.str _=>J (.bl g)
   |.tup _=>J (.bl g)
   |_=>Y)
  |_=>Y
 fr:=I
 ok {q h L O a x b y d} bd wa wb e:=by
  have loc:∀{a:D}{x:PV},Vw q h L O a x->(∃i,a=.lst i)\/a=.dic\/(∃c,a=.exc c)\/a=.pen->∃n,x=.loc n:=λ{a x} w z=>by
   rcases w with r|⟨n,xs,i,e,e1,_⟩
   .rcases z with⟨i,rfl⟩|rfl|⟨c,rfl⟩|rfl
    .obtain⟨n,_,e,_⟩:=r;exact⟨n,e⟩
    .obtain⟨n,e,_⟩:=r;exact⟨n,e⟩
    .obtain⟨n,e,_⟩:=r;exact⟨n,e⟩
    .exact⟨q,r⟩
   .exact⟨n,e1⟩
  cases b with
  |non =>
   rw[wb.non]
   cases a with
   |non=>cases e;rw[wa.non];exact vv
   |bl c=>cases e;rw[wa.bl];exact vv
   |int c=>cases e;rw[wa.int];exact vv
   |str c=>cases e;rw[wa.str];exact vv
   |tup c=>cases e;obtain⟨xs,rfl,_⟩:=wa.tup;exact vv
   |lst c=>cases e;obtain⟨n,rfl⟩:=loc wa (.inl ⟨_,rfl⟩);exact vv
   |dic=>cases e;obtain⟨n,rfl⟩:=loc wa (.inr (.inl rfl));exact vv
   |exc c=>cases e;obtain⟨n,rfl⟩:=loc wa (.inr (.inr (.inl ⟨_,rfl⟩)));exact vv
   |pen=>cases e;obtain⟨n,rfl⟩:=loc wa (.inr (.inr (.inr rfl)));exact vv
  |bl b =>
   rw[wb.bl]
   cases a with
   |non=>cases e;rw[wa.non];exact vv
   |bl c=>cases e;rw[wa.bl];exact vv
   |int c=>cases e;rw[wa.int];exact vv
   |str c=>cases e;rw[wa.str];exact vv
   |tup c=>cases e;obtain⟨xs,rfl,_⟩:=wa.tup;exact vv
   |_=>cases e
  |_=>cases e
mutual
def py:D->Option PyData
 |.non=>J .none
 |.bl b=>J (.bool b)
 |.int i=>J (.int i)
 |.str x=>J (.str x)
 |.tup a=>(D_ a).map .tuple
 |.lst a=>(D_ a).map .list
 |_=>Y
def D_:R9->Option (List PyData)
 |[]=>J []
 |d::a=>match py d,D_ a with
  |some x,J xs=>J (x::xs)
  |_,_=>Y
end
mutual
def Ct:D->Nat
 |.tup a=>1+t3 a
 |.lst a=>1+t3 a
 |_=>0
def t3:R9->Nat
 |[]=>0
 |d::a=>max (Ct d) (t3 a)
end
def xX(d:D):(∀(v:PV)(e:PyData)(n:Nat),Rp q h O d v->py d=J e->Ct d<=n->rd n h v=J e):=by
 refine D.rec (motive_1:=λd=>∀(v:PV)(e:PyData)(n:Nat),Rp q h O d v->py d=J e->Ct d<=n->rd n h v=J e)
  (motive_2:=λi=>∀(l:R4)(j:List PyData)(n:Nat),Rps q h O i l->D_ i=J j->t3 i<=n->cR (rd n h) l=J j)
  (λv _ n r e _=>?_) (λb v _ n r e _=>?_) (λb v _ n r e _=>?_) (λb v _ n r e _=>?_) (λi s v e n r o hd=>?_) (λi s v e n r o hd=>?_) (λ_ _ _ _ e _=>?_) (λ_ _ _ _ _ e _=>?_) (λ_ _ _ _ e _=>?_)
  (λl j n r e _=>?_) (λd i u z l j n r e hd=>?_) d
 .rw[show v=PV.non from r];cases e;cases n<;>rfl
 .rw[show v=PV.bl b from r];cases e;cases n<;>rfl
 .rw[show v=PV.int b from r];cases e;cases n<;>rfl
 .rw[show v=PV.str b from r];cases e;cases n<;>rfl
 .obtain⟨xs,ex,r⟩:=r;subst ex;rw[py,y9]at o;obtain⟨j,e1,rfl⟩:=o;rw[Ct]at hd
  cases n with
  |zero=>lia
  |succ n=>simp only[rd];rw[s _ _ n r e1 ⋯];rfl
 .obtain⟨m,xs,ex,_,g,r⟩:=r;subst ex;rw[py,y9]at o;obtain⟨j,e1,rfl⟩:=o;rw[Ct]at hd
  cases n with
  |zero=>lia
  |succ n=>simp only[rd,g];rw[s _ _ n r e1 ⋯];rfl
 .simp[py]at e
 .simp[py]at e
 .simp[py]at e
 .rw[show l=[]from r];rw[D_]at e;cases e;rfl
 .obtain⟨x,t,ex,a,b⟩:=r;subst ex;rw[t3]at hd;rw[D_]at e
  cases e1:py d with
  |none=>rw[e1]at e;cases e
  |some y =>
   cases e2:D_ i with
   |none=>rw[e1,e2]at e;cases e
   |some ys =>
    rw[e1,e2]at e;cases e;have C:=u _ _ n a e1 ⋯;have B:=z _ _ n b e2 ⋯;simp only[cR,C,B]
def M4(r:Rp q h O d v)(a:py d=J e)(hd:Ct d<=n):rd n h v=J e:=xX d v e n r a hd
def AX(r:Rps q h O ds vs)(a:D_ ds=J es)(hd:t3 ds<=n):cR (rd n h) vs=J es:=by
 have:=xX (.tup ds) (.tup vs) (.tuple es) (n+1) (⟨vs,rfl,r⟩) (by rw[py,a];rfl) (by rw[Ct];lia)
 simp only[rd]at this
 simp_all
def qq(w:Vw q h L O d v)(a:py d=J e)(hd:Ct d<=60):rd 60 h v=J e:=by
 rcases w with r|⟨n,xs,j,rfl,rfl,_,_,g,r⟩
 .exact M4 r a hd
 .rw[py,y9]at a;obtain⟨l,e1,rfl⟩:=a;rw[Ct]at hd;have i:=AX (n:=59) r e1 ⋯;show(match h[n]? with|some (.lst xs)=>(cR (rd 59 h) xs).map PyData.list|_=>Y)=_;rw[g];dsimp only;rw[i];rfl
def DK(e:Bool)(a b:D):SF:=match py a,py b with
 |some x,J y=>if(Ct a<=60/\Ct b<=60)/\SeqAt.shaped x=I/\SeqAt.shaped y=I then J (.bl (if e then !PyData.eqv x y else PyData.eqv x y))else Y
 |_,_=>Y
def xV(e:DK neg a b=J d):∃x y,py a=J x/\py b=J y/\(Ct a<=60/\Ct b<=60)/\(SeqAt.shaped x=I/\SeqAt.shaped y=I)/\d=.bl (if neg then !PyData.eqv x y else PyData.eqv x y):=by
 unfold DK at e
 cases e1:py a with
 |none=>rw[e1]at e;cases e
 |some x =>
  cases e2:py b with
  |none=>rw[e1,e2]at e;cases e
  |some y =>
   simp_all
def C3:Ee where
 m:=qd
 p:=DK T
 fr:=I
 ok {q h L O a x b y d} bd wa wb e:=by obtain⟨u,w,e1,e2,hd,g,rfl⟩:=xV e;delta qd;rw[qq wa e1 hd.1,qq wb e2 hd.2];dsimp only;rw[c_ g];exact vv
def EI:Ee where
 m:=n7
 p:=DK I
 fr:=I
 ok {q h L O a x b y d} bd wa wb e:=by obtain⟨u,w,e1,e2,hd,g,rfl⟩:=xV e;delta n7;rw[qq wa e1 hd.1,qq wb e2 hd.2];dsimp only;rw[c_ g];exact vv
def Vw.seqOf(w:Vw q h L O d v)(e:d.items=J ds):∃xs,MM.bM h v=J xs/\Rps q h O ds xs:=by
 cases d with
 |lst a=>cases e;obtain⟨n,xs,rfl,g,r⟩:=w.lst;exact⟨xs,by simp[MM.bM,g],r⟩
 |tup a=>cases e;obtain⟨xs,rfl,r⟩:=w.tup;exact⟨xs,rfl,r⟩
 |_=>cases e
def M5(g:Bool)(a b:D):SF:=match b.items with
 |some i=>(match py a,D_ i with
  |some x,J ys=>if(Ct a<=60/\t3 i<=60)/\x.canLay0=I/\PyData.canLayAll0 ys=I then J (.bl (if g then !ys.any (λe=>PyData.eqv e x)else ys.any (λe=>PyData.eqv e x)))else Y
  |_,_=>Y)
 |none=>Y
def Ea(g:Bool):Ee where
 m:=jR g
 p:=M5 g
 fr:=I
 ok {q h L O a x b y d} bd wa wb e:=by
  unfold M5 at e
  cases i:b.items with
  |none=>rw[i]at e;cases e
  |some j =>
   rw[i]at e;dsimp only at e
   cases e1:py a with
   |none=>rw[e1]at e;cases e
   |some u =>
    cases e2:D_ j with
    |none=>rw[e1,e2]at e;cases e
    |some l =>
     rw[e1,e2]at e;dsimp only at e;by_cases z:(Ct a<=60/\t3 j<=60)/\u.canLay0=I/\PyData.canLayAll0 l=I
     .rw[c_ z]at e;cases e;obtain⟨xs,o,r⟩:=wb.seqOf i;delta jR;rw[o,qq wa e1 z.1.1];dsimp only;rw[AX r e2 z.1.2];dsimp only;rw[c_ z.2];exact vv
     .rw[f_ z]at e;cases e
end
noncomputable section
def J0:Oa where
 m:=Eb
 p:=λa=>match a with
  |.int i=>J (.int (-i))
  |_=>Y
 fr:=I
 ok {q h L O a x d} bd w e:=by
  cases a with
  |int i=>cases e;rw[w.int];exact EH
  |_=>cases e
def EJ:D->Option String
 |.non=>J "NoneType"
 |.bl _=>J "bool"
 |.int _=>J "int"
 |.str _=>J "str"
 |.tup _=>J "tuple"
 |.lst _=>J "list"
 |.dic=>J "dict"
 |_=>Y
def M6(w:Vw q h L O d v)(e:EJ d=J t):DJ h v=J t:=by
 cases d with
 |non=>cases e;rw[w.non];rfl
 |bl b=>cases e;rw[w.bl];rfl
 |int b=>cases e;rw[w.int];rfl
 |str b=>cases e;rw[w.str];rfl
 |tup b=>cases e;obtain⟨xs,rfl,_⟩:=w.tup;rfl
 |lst b=>cases e;obtain⟨n,xs,rfl,g,_⟩:=w.lst;simp[DJ,g]
 |dic =>
  cases e;rcases w with⟨n,rfl,_,g⟩|⟨n,xs,a,e,_⟩
  .simp[DJ,g]
  .cases e
 |_=>cases e
def fF(g:List String):Oa where
 m:=dS g
 p:=λa=>(EJ a).map λt=>.bl (g.any (cL t))
 fr:=I
 ok {q h L O a x d} bd w e:=by rw[y9]at e;obtain⟨t,e1,rfl⟩:=e;delta dS;rw[M6 w e1];exact vv
def uF(j i:R5):Oa where
 m:=bi j i
 p:=λa=>match a with
  |.exc c=>if j.contains c=I then J (.bl (i.contains c))else Y
  |.pen=>Y
  |_=>J (.bl T)
 fr:=I
 ok {q h L O a x d} bd w e:=by
  cases a with
  |non=>cases e;rw[w.non];exact vv
  |bl b=>cases e;rw[w.bl];exact vv
  |int b=>cases e;rw[w.int];exact vv
  |str b=>cases e;rw[w.str];exact vv
  |tup b=>cases e;obtain⟨xs,rfl,_⟩:=w.tup;exact vv
  |lst b=>cases e;obtain⟨n,xs,rfl,g,_⟩:=w.lst;simp only[bi,g];exact vv
  |dic =>
   cases e;rcases w with⟨n,rfl,_,g⟩|⟨n,xs,l,e,_⟩
   .simp only[bi,g];exact vv
   .cases e
  |exc c =>
   dsimp only at e;by_cases z:j.contains c=I
   .rw[c_ z]at e;cases e;rcases w with⟨n,rfl,_,g⟩|⟨n,xs,l,e,_⟩
    .simp only[bi,g];rw[c_ z];exact vv
    .cases e
   .rw[f_ z]at e;cases e
  |pen=>cases e
def RN(f:R4->MH->SX)(g:Int->Int->Int)(hf:∀i j h,f [.int i,.int j] h=.ok (.int (g i j)) h):DX where
 k:=λxs h=>(f xs h).ne
 p:=λl=>match l with
  |[.int i,.int j]=>J (.int (g i j))
  |_=>Y
 fr:=I
 ok {q h L O l xs d} bd w e:=by
  match l,e with
  |[.int i,.int j],e =>
   cases e;obtain⟨x,y,rfl,a,b⟩:=Gp w;rw[a.int,b.int,hf];exact EH
def Gr:DX:=RN yW (λi j=>if j<i then j else i) λ_ _ _=>rfl
def rK:DX where
 k:=λxs h=>(yY xs h).ne
 p:=λg=>match g with
  |[.int i]=>J (.int i)
  |[.bl b]=>J (.int (if b then 1 else 0))
  |_=>Y
 fr:=I
 ok {q h L O g xs d} bd w e:=by
  match g,e with
  |[.int i],e=>cases e;obtain⟨x,rfl,a⟩:=dX w;rw[a.int];exact EH
  |[.bl i],e=>cases e;obtain⟨x,rfl,a⟩:=dX w;rw[a.bl];exact EH
def jT:DX where
 k:=λxs h=>(ny xs h).ne
 p:=λj=>match j with
  |[.lst i]=>J (.int i.length)
  |[.tup i]=>J (.int i.length)
  |[.str x]=>if x.length<=sizeLine then J (.int x.length)else Y
  |_=>Y
 fr:=I
 ok {q h L O j xs d} bd w e:=by
  match j,e with
  |[.lst i],e =>
   cases e;obtain⟨x,rfl,a⟩:=dX w;obtain⟨n,ys,rfl,g,r⟩:=a.lst;simp only[ny,g];rw[r.length];exact EH
  |[.tup i],e =>
   cases e;obtain⟨x,rfl,a⟩:=dX w;obtain⟨ys,rfl,r⟩:=a.tup;simp only[ny];rw[r.length];exact EH
  |[.str x],e =>
   dsimp only at e;by_cases z:x.length<=sizeLine
   .rw[c_ z]at e;cases e;obtain⟨x,rfl,a⟩:=dX w;rw[a.str];simp only[ny];rw[c_ z];exact EH
   .rw[f_ z]at e;cases e
def ff:DX where
 k:=λxs h=>(rg xs h).ne
 p:=λj=>match j with
  |[d]=>d.items.bind λi=>if i.length<=100000 then J (.lst i)else Y
  |_=>Y
 fr:=I
 ok {q h L O j xs d} bd w e:=by
  match j,e with
  |[a],e =>
   obtain⟨x,rfl,s⟩:=dX w;rw[Eu]at e;obtain⟨i,e1,e2⟩:=e;obtain⟨xs,e3,r⟩:=s.seqOf e1;by_cases z:i.length<=100000
   .rw[c_ z]at e2;cases e2;obtain⟨v,g,e4,l,o⟩:=nE bd r z;exact⟨v,g,by simp only[rg,e3];rw[e4];rfl,l,o⟩
   .rw[f_ z]at e2;cases e2
def kc:DX where
 k:=λxs h=>(t0 xs h).ne
 p:=λg=>match g with
  |[d]=>d.items.map .tup
  |_=>Y
 fr:=I
 ok {q h L O g xs d} bd w e:=by
  match g,e with
  |[a],e =>
   obtain⟨x,rfl,i⟩:=dX w;rw[y9]at e;obtain⟨j,e1,rfl⟩:=e;obtain⟨xs,e3,r⟩:=i.seqOf e1;simp only[t0,e3];exact JW ⟨xs,rfl,r⟩ λ_ _ e=>by cases e
def gs:R9->Option (List Bool)
 |[]=>J []
 |.bl b::r=>(gs r).map (b::·)
 |_=>Y
def Az:∀{g:R9}{xs:R4}{bs:List Bool},Rps q h O g xs->gs g=J bs->jS xs=J bs
 |[],_,_,r,e=>by rw[show _=[]from r];cases e;rfl
 |d::g,_,bs,⟨x,t,ex,a,b⟩,e=>by
  subst ex
  cases d with
  |bl c =>
   rw[show x=PV.bl c from a];rw[gs,y9]at e;obtain⟨i,e1,rfl⟩:=e;rw[jS,Az b e1];rfl
  |_=>cases e
def vJ:DX where
 k:=λxs h=>(B_ xs h).ne
 p:=λg=>match g with
  |[d]=>(d.items.bind gs).map λbs=>.bl (bs.all id)
  |_=>Y
 fr:=I
 ok {q h L O g xs d} bd w e:=by
  match g,e with
  |[a],e =>
   obtain⟨x,rfl,i⟩:=dX w;rw[y9]at e;obtain⟨bs,e1,rfl⟩:=e;rw[Eu]at e1;obtain⟨j,e1,e2⟩:=e1;obtain⟨xs,e3,r⟩:=i.seqOf e1;simp only[B_,e3,Ej,Az r e2];exact vv
def b9:R9->Option (R6)
 |[]=>J []
 |.int b::r=>(b9 r).map (b::·)
 |_=>Y
def gv:∀{g:R9}{xs:R4}{bs:R6},Rps q h O g xs->b9 g=J bs->xs=bs.map .int
 |[],_,_,r,e=>by rw[show _=[]from r];cases e;rfl
 |d::g,_,bs,⟨x,t,ex,a,b⟩,e=>by
  subst ex
  cases d with
  |int c =>
   rw[show x=PV.int c from a];rw[b9,y9]at e;obtain⟨i,e1,rfl⟩:=e;rw[gv b e1];rfl
  |_=>cases e
def sW:∀(bs:R6),gI (bs.map .int)=J bs
 |[]=>rfl
 |b::bs=>by rw[wj,gI,sW bs];rfl
def tZ:∀(bs:R6),jc (bs.map .int)=J bs
 |[]=>rfl
 |b::bs=>by rw[wj,jc,tZ bs];rfl
def ji:∀(bs:R6),eV (bs.map .int)=J bs
 |[]=>rfl
 |b::bs=>by rw[wj,eV,ji bs];rfl
def uB(f:R4->MH->SX)(c:R6->Nat->Nat->Bool)(g:Int->Int->Int)(hf:∀l x h,(bM h x).bind gI=J l->0<l.length->f [x] h=.ok (.int (nu (c l) l)) h)(t:∀i j h,f [.int i,.int j] h=.ok (.int (g i j)) h):DX where
 k:=λxs h=>(f xs h).ne
 p:=λo=>match o with
  |[d]=>(d.items.bind b9).bind λl=>if 0<l.length then J (.int (nu (c l) l))else Y
  |[.int i,.int j]=>J (.int (g i j))
  |_=>Y
 fr:=I
 ok {q h L O o xs d} bd w e:=by
  match o,e with
  |[a],e =>
   obtain⟨x,rfl,s⟩:=dX w;rw[Eu]at e;obtain⟨l,e1,e2⟩:=e;rw[Eu]at e1;obtain⟨u,e1,e3⟩:=e1;obtain⟨xs,e4,r⟩:=s.seqOf e1;by_cases z:0<l.length
   .rw[c_ z]at e2;cases e2;show Gv q h O I (f [x] h).ne _;rw[hf l x h (by rw[e4,Ej,gv r e3];exact sW l) z];exact EH
   .rw[f_ z]at e2;cases e2
  |[.int i,.int j],e =>
   cases e;obtain⟨x,y,rfl,a,b⟩:=Gp w;rw[a.int,b.int,t];exact EH
def uC:DX:=uB DB (λa i j=>decide (a.getD i 0>a.getD j 0)) (λi j=>if j>i then j else i) (λa x h e z=>by simp only[DB,e];rw[c_ z]) λi j h=>rfl
def uH:DX:=uB DC (λa i j=>decide (a.getD i 0<a.getD j 0)) (λi j=>if j<i then j else i) (λa x h e z=>by simp only[DC,e];rw[c_ z]) λi j h=>rfl
def kD(k:R6):D:=.tup (k.map .int)
def jP:D->Option (R6)
 |.tup a=>b9 a
 |_=>Y
def fV:R9->Option (R7)
 |[]=>J []
 |d::a=>match jP d,fV a with
  |some k,J e=>J (k::e)
  |_,_=>Y
def J1(r:Rp q h O d v)(e:jP d=J k):v=kP k:=by
 cases d with
 |tup a=>obtain⟨xs,rfl,r⟩:=r;rw[gv r e];rfl
 |_=>cases e
def pe:∀{g:R9}{xs:R4}{i:R7},Rps q h O g xs->fV g=J i->xs=i.map kP
 |[],_,_,r,e=>by rw[show _=[]from r];cases e;rfl
 |d::g,_,i,⟨x,t,ex,a,b⟩,e=>by
  subst ex;rw[fV]at e
  cases e1:jP d with
  |none=>rw[e1]at e;cases e
  |some k =>
   cases e2:fV g with
   |none=>rw[e1,e2]at e;cases e
   |some j =>
    rw[e1,e2]at e;cases e;rw[J1 a e1,pe b e2];rfl
def J2(k:R6):N8 (kP k)=J k:=tZ k
def my:∀(a:R7),iM (a.map kP)=J a
 |[]=>rfl
 |k::a=>by rw[wj,iM,J2,my a]
def i6:∀(bs:R6),Rps q h O (bs.map .int) (bs.map .int)
 |[]=>rfl
 |b::bs=>⟨_,_,rfl,rfl,i6 bs⟩
def pI:∀(a:R7),Rps q h O (a.map kD) (a.map kP)
 |[]=>rfl
 |b::bs=>⟨_,_,rfl,⟨_,rfl,i6 b⟩,pI bs⟩
def Vw.lstOf(w:Vw q h L O (.lst ds) v):∃xs,MM.dj h v=J xs/\Rps q h O ds xs:=by obtain⟨n,xs,rfl,g,r⟩:=w.lst;exact⟨xs,by simp[MM.dj,g],r⟩
def M7(bd:Bd h O)(r:∀h O,Rps q h O ds xs):Gv q h O I (.ok (.loc h.length) (h++[.lst xs])) (.lst ds):=by
 have g:(h++[MO.lst xs])[h.length]?=J (.lst xs):=by simp
 exact⟨_,_,rfl,⟨_,_,rfl,λz=>by have:=bd _ z;ext,g,r _ _⟩,λ_ a e=>by cases e;exact⟨_,_,rfl,i3 _,g,r _ _⟩⟩
def uI(e:R9):Option (R9):=match b9 e with
 |some ns=>if ns.length<64 then J ((cB ns).map .int)else Y
 |none=>(match fV e with
  |some a=>if(∀k∈a,k≠[])/\a.length<=66 then J ((cU a).map kD)else Y
  |none=>Y)
def xq:DX where
 k:=λxs h=>(mu xs h).ne
 p:=λi=>match i with
  |[.lst g]=>(uI g).map .lst
  |_=>Y
 fr:=I
 ok {q h L O i xs d} bd w e:=by
  match i,e with
  |[.lst g],e =>
   obtain⟨x,rfl,o⟩:=dX w;obtain⟨ys,l,r⟩:=o.lstOf;rw[y9]at e;obtain⟨t,e1,rfl⟩:=e;unfold uI at e1
   cases e2:b9 g with
   |some ns =>
    rw[e2]at e1;dsimp only at e1;by_cases z:ns.length<64
    .rw[c_ z]at e1;cases e1
     have:mu [x] h=.ok (.loc h.length) (h++[.lst ((cB ns).map .int)]):=by simp only[mu,l,gv r e2,ji];rw[c_ z]
     show Gv q h O I (mu [x] h).ne _;rw[this];exact M7 bd λ_ _=>i6 _
    .rw[f_ z]at e1;cases e1
   |none =>
    rw[e2]at e1;dsimp only at e1
    cases e3:fV g with
    |none=>rw[e3]at e1;cases e1
    |some a =>
     rw[e3]at e1;dsimp only at e1;by_cases z:(∀k∈a,k≠[])/\a.length<=66
     .rw[c_ z]at e1;cases e1;have j:=pe r e3
      cases a with
      |nil =>
       have:g=[]:=by have:=r.length;rw[j]at this;simpa using this.symm
       subst this;cases e2
      |cons k a =>
       have:mu [x] h=.ok (.loc h.length) (h++[.lst ((cU (k::a)).map kP)]):=by have s:eV ((k::a).map kP)=Y:=rfl;simp only[mu,l,j,s,my];rw[c_ z]
       show Gv q h O I (mu [x] h).ne _;rw[this];exact M7 bd λ_ _=>pI _
     .rw[f_ z]at e1;cases e1
def Q9:DX where
 k:=λs i=>match s with
  |[x]=>(match (dj i x).bind iM with
   |some a=>if(∀k∈a,k≠[])/\(n_ a).length<=66 then .ok (.loc i.length) (i++[.lst ((cU (n_ a)).map kP)])else .bad
   |none=>.bad)
  |_=>.bad
 p:=λg=>match g with
  |[.lst j]=>(fV j).bind λa=>if(∀k∈a,k≠[])/\(n_ a).length<=66 then J (.lst ((cU (n_ a)).map kD))else Y
  |_=>Y
 fr:=I
 ok {q h L O g xs d} bd w e:=by
  match g,e with
  |[.lst j],e =>
   obtain⟨x,rfl,o⟩:=dX w;obtain⟨ys,l,r⟩:=o.lstOf;rw[Eu]at e;obtain⟨a,e1,e2⟩:=e;by_cases z:(∀k∈a,k≠[])/\(n_ a).length<=66
   .rw[c_ z]at e2;cases e2;simp only[l,Ej,pe r e1,my];rw[c_ z];exact M7 bd λ_ _=>pI _
   .rw[f_ z]at e2;cases e2
def dI(lo:Int)(n:Nat):R9:=(List.range n).map λ(i:Nat)=>D.int (lo+(i:Int))
def rc:Rps q h O (dI lo n) (bX lo n):=by
 have:=i6 (q:=q) (h:=h) (O:=O) ((List.range n).map λ(i:Nat)=>lo+(i:Int))
 rw[zi,zi]at this;exact this
def Q_:DX where
 k:=λi g=>match i with
  |[.int j]=>if -(2^62)<=j/\j<2^62/\j.toNat<=sizeLine then .ok (.loc g.length) (g++[.lst (bX 0 j.toNat)])else .bad
  |_=>.bad
 p:=λa=>match a with
  |[.int j]=>if -100000<=j/\j<=100000 then J (.lst (dI 0 j.toNat))else Y
  |_=>Y
 fr:=I
 ok {q h L O a xs d} bd w e:=by
  match a,e with
  |[.int j],e =>
   obtain⟨x,rfl,l⟩:=dX w;rw[l.int];dsimp only at e;by_cases z:-100000<=j/\j<=100000
   .rw[c_ z]at e;cases e;dsimp only
    have:=eK
    rw[c_ ⟨by ext,by ext,by ext⟩];exact M7 bd λ_ _=>rc
   .rw[f_ z]at e;cases e
def J3:MU where
 k:=λi l=>match i with
  |[.int j]=>if -(2^62)<=j/\j<2^62 then .ok ⟨bX 0 j.toNat,[]⟩ l else .bad
  |_=>.bad
 p:=λg=>match g with
  |[.int j]=>if -100000<=j/\j<=100000 then J (dI 0 j.toNat)else Y
  |_=>Y
 ok {q h L O g xs d} hq hO bd w e:=by
  match g,e with
  |[.int j],e =>
   obtain⟨x,rfl,o⟩:=dX w;rw[o.int];dsimp only at e;by_cases z:-100000<=j/\j<=100000
   .rw[c_ z]at e;cases e;dsimp only;rw[c_ ⟨by ext,by ext⟩];exact⟨_,rfl,rc,(λ_ a=>nomatch a),λ_ _ a=>nomatch a⟩
   .rw[f_ z]at e;cases e
def Of:MU where
 k:=λl o=>match l with
  |[.int i,.int j]=>if -(2^62)<=i/\i<2^62 /\ -(2^62)<=j/\j<2^62 then .ok ⟨bX i (j-i).toNat,[]⟩ o else .bad
  |_=>.bad
 p:=λa=>match a with
  |[.int i,.int j]=>if(-100000<=i/\i<=100000) /\ -100000<=j/\j<=100000 then J (dI i (j-i).toNat)else Y
  |_=>Y
 ok {q h L O a xs d} hq hO bd w e:=by
  match a,e with
  |[.int i,.int j],e =>
   obtain⟨x,y,rfl,r,s⟩:=Gp w;rw[r.int,s.int];dsimp only at e;by_cases z:(-100000<=i/\i<=100000) /\ -100000<=j/\j<=100000
   .rw[c_ z]at e;cases e;dsimp only;rw[c_ ⟨by ext,by ext,by ext,by ext⟩];exact⟨_,rfl,rc,(λ_ g=>nomatch g),λ_ _ g=>nomatch g⟩
   .rw[f_ z]at e;cases e
def Vw.sqAny(l:q<L)(o:q∈O)(w:Vw q h L O d v)(e:d.items=J ds):∃t xs gd,MM.cz v h=J (t,xs,gd)/\Rps q h O ds xs/\(∀g∈gd,h[g.1]?=J (.lst g.2)/\g.1≠q)/\(Rp q h O d v->∀g∈gd,g.1∉O):=by
 obtain⟨xs,gd,e1,r,j,i⟩:=w.seq l o e
 cases d with
 |lst s =>
  cases e;obtain⟨n,ys,rfl,g,a⟩:=w.lst;simp only[rb,g]at e1;cases e1;exact⟨T,xs,[(n,xs)],by simp[MM.cz,g],a,j,i⟩
 |tup s =>
  cases e;obtain⟨ys,rfl,a⟩:=w.tup;cases e1;exact⟨I,_,[],rfl,a,j,i⟩
 |_=>cases e
def gG(a:R9):R9:=a.zipIdx.map λp=>.tup [.int (p.2:Int),p.1]
def rZ(xs ys:R9):R9:=(xs.zip ys).map λp=>.tup [p.1,p.2]
def vO:∀{g:R9}{xs:R4}(n:Nat),Rps q h O g xs->Rps q h O ((g.zipIdx n).map λp=>.tup [.int (p.2:Int),p.1]) ((xs.zipIdx n).map λp=>.tup [.int (p.2:Int),p.1])
 |[],_,_,r=>by rw[show _=[]from r];rfl
 |d::g,_,n,⟨x,t,e,a,b⟩=>by
  subst e;exact⟨_,_,rfl,⟨_,rfl,⟨_,_,rfl,rfl,⟨_,_,rfl,a,rfl⟩⟩⟩,vO (n+1) b⟩
def yi:∀{i j:R9}{xs ys:R4},Rps q h O i xs->Rps q h O j ys->Rps q h O (rZ i j) (jO xs ys)
 |[],_,_,_,r,_=>by rw[show _=[]from r];rfl
 |_::_,[],_,_,r,s=>by rw[show _=[]from s];simp[jO];rfl
 |d::i,e::j,_,_,⟨x,t,e1,a,b⟩,⟨u,y,g,o,l⟩=>by
  subst e1 g;exact⟨_,_,rfl,⟨_,rfl,⟨_,_,rfl,a,⟨_,_,rfl,o,rfl⟩⟩⟩,yi b l⟩
def iE:MU where
 k:=λs i=>match s with
  |[x]=>(match cz x i with
   |some (_,xs,gd)=>.ok ⟨jz xs,gd⟩ i
   |none=>.bad)
  |_=>.bad
 p:=λg=>match g with
  |[d]=>d.items.map gG
  |_=>Y
 ok {q h L O g xs d} hq hO bd w e:=by
  match g,e with
  |[a],e =>
   obtain⟨x,rfl,l⟩:=dX w;rw[y9]at e;obtain⟨u,e1,rfl⟩:=e;obtain⟨t,ys,gd,e2,r,o,j⟩:=l.sqAny hq hO e1;refine⟨⟨jz ys,gd⟩,by simp only[e2],vO 0 r,o,λz=>j ?_⟩;obtain⟨y,B,e3,a,_⟩:=z;cases e3;exact a
def iZ:MU where
 k:=λS E=>match S with
  |[x,y]=>(match cz x E,cz y E with
   |some (_,xs,B),J (_,ys,i)=>.ok ⟨jO xs ys,B++i⟩ E
   |_,_=>.bad)
  |_=>.bad
 p:=λC=>match C with
  |[d,e]=>d.items.bind λxs=>e.items.map λys=>rZ xs ys
  |_=>Y
 ok {q h L O C xs d} hq hO bd w e:=by
  match C,e with
  |[a,b],e =>
   obtain⟨x,y,rfl,R,Q⟩:=Gp w;rw[Eu]at e;obtain⟨U,e1,e⟩:=e;rw[y9]at e;obtain⟨es,e2,rfl⟩:=e;obtain⟨t,ys,gd,M,r,B,i⟩:=R.sqAny hq hO e1;obtain⟨t',l,u,j,G,o,s⟩:=Q.sqAny hq hO e2;refine⟨⟨jO ys l,gd++u⟩,by simp only[M,j],yi r G,λg F=>?_,λz g F=>?_⟩
   .rcases n9.mp F with z|z
    .exact B g z
    .exact o g z
   .obtain⟨X,G,e3,P,W,Z,e4,H,_⟩:=z;cases e3;cases e4;rcases n9.mp F with z|z
    .exact i P g z
    .exact s H g z
def jX(xs:R9)(lo a:SV):R9:=(xs.drop (HT.lw xs.length 0 lo)).take (HT.lw xs.length xs.length a-HT.lw xs.length 0 lo)
def xD(lo a:SV)(r:Rps q h O ds xs):Rps q h O (jX ds lo a) (gu xs lo a):=by delta jX gu;rw[r.length];exact(r.drop _).take _
structure Xo(ws:R8) where
 m:Mx (SV)
 p:aE->h8->PR (SV)
 ok:∀{q h L B O Z env s},Cx q h L B O ws Z env s->Ok q h (m Z h) (p env s) (λ_ a b=>a=b)
section
variable{ws:R8}
def Dr:Xo ws where
 m:=E7
 p:=λ_ s=>.ok Y s
 ok {q h L B O Z env s} c:=⟨Y,h,rfl,KB.refl _ _,c.pen,rfl⟩
def Dt(e:Xe ws):Xo ws where
 m:=E8 e.m
 p:=λenv s=>(e.p env s).bind λd s=>match d with
  |.int i=>.ok (J i) s
  |_=>.bad
 ok {q h L B O Z env s} c:=by
  refine(e.ok c).bind λx v a l j g ⟨w,_,_⟩=>?_
  cases x with
  |int i=>rw[w.int];exact⟨J i,a,rfl,KB.refl _ _,g,rfl⟩
  |_=>trivial
def K1(d:D)(lo e:SV):SF:=match d with
 |.lst a=>J (.lst (jX a lo e))
 |.tup a=>if HT.lw a.length 0 lo=0/\HT.lw a.length a.length e=a.length then Y else J (.tup (jX a lo e))
 |_=>Y
def M8(bd:Bd h O)(w:Vw q h L O a x)(e:K1 a lo hi=J d):Gv q h O I (Ji x lo hi h) d:=by
 cases a with
 |lst i =>
  cases e;obtain⟨n,xs,rfl,g,r⟩:=w.lst;simp only[Ji,g];have r:=xD lo hi r;have m:Mv O h O (h++[MO.lst (gu xs lo hi)]):=⟨λn l _=>yS l,λo j=>.inl j⟩
  have t:Mv O h (h.length::O) (h++[MO.lst (gu xs lo hi)]):=⟨λn l _=>yS l,λo j=>by
   rcases nk.mp j with z|z
   .exact .inr (by ext)
   .exact .inl z⟩
  have g:(h++[MO.lst (gu xs lo hi)])[h.length]?=J (.lst (gu xs lo hi)):=by simp
  exact⟨_,_,rfl,⟨_,_,rfl,λz=>by have:=bd _ z;ext,g,r.mv m⟩,λ_ s e=>by cases e;exact⟨_,_,rfl,i3 _,g,r.mv t⟩⟩
 |tup i =>
  unfold K1 at e;dsimp only at e;by_cases z:HT.lw i.length 0 lo=0/\HT.lw i.length i.length hi=i.length
  .rw[c_ z]at e;cases e
  .rw[f_ z]at e;cases e;obtain⟨xs,rfl,r⟩:=w.tup;simp only[Ji];rw[r.length,f_ z];exact JW ⟨_,rfl,xD lo hi r⟩ λ_ _ e=>by cases e
 |_=>cases e
def Du(a:Xe ws)(lo i:Xo ws):Xe ws where
 m:=E9 a.m lo.m i.m
 p:=λenv s=>(a.p env s).bind λx s=>(lo.p env s).bind λl s=>(i.p env s).bind λu s=>.of (K1 x l u) s
 fz:=I
 fr:=I
 ok {q h L B O Z env s} c:=by
  refine(a.ok c).bind λx v W R z G ⟨w,_,_⟩=>?_;have E:=c.kb z G;refine(lo.ok E).bind λl Q X U o H e=>?_;subst e;have C:=E.kb o H;refine(i.ok C).bind λu S P s3 j t e=>?_;subst e;have F:=C.kb j t
  cases e:K1 x l u with
  |none=>trivial
  |some d =>
   obtain⟨y,g,e1,r,M⟩:=M8 F.bd ((w.kb o c.pO c.pL).kb j c.pO c.pL) e;exact DY (tx (tx z.len o.len) j.len) t ⟨y,g,by rw[e1];rfl,r,M⟩
end
def fO:K0 where
 m:=fL
 p:=λi j=>match j with
  |[a]=>if i.length<100000 then J (.non,i++[a])else Y
  |_=>Y
 ok {q h O n xs i j vs d ds'} g r ra e:=by
  match j,e with
  |[a],e =>
   obtain⟨x,t,rfl,a,b⟩:=ra
   have:t=[]:=b
   subst this;dsimp only at e;by_cases z:i.length<100000
   .rw[c_ z]at e;cases e;refine⟨.non,xs++[x],?_,r.app ⟨x,[],rfl,a,rfl⟩,rfl⟩;simp only[fL,g];rw[c_ (by have:=eK;rw[r.length];ext)]
   .rw[f_ z]at e;cases e
def cV:K0 where
 m:=dO
 p:=λj o=>match o with
  |[a]=>a.items.bind λl=>if j.length+l.length<=100000 then J (.non,j++l)else Y
  |_=>Y
 ok {q h O n xs j o vs d ds'} g r ra e:=by
  match o,e with
  |[a],e =>
   obtain⟨x,t,rfl,w,b⟩:=ra
   have:t=[]:=b
   subst this;rw[Eu]at e;obtain⟨l,e1,e2⟩:=e;by_cases z:j.length+l.length<=100000
   .rw[c_ z]at e2;cases e2;have y:=eK
    cases a with
    |lst s =>
     cases e1;obtain⟨m,ys,rfl,_,u,i⟩:=w;refine⟨.non,xs++ys,?_,r.app i,rfl⟩;simp only[dO,g,u];rw[c_ (by rw[r.length,i.length];ext)]
    |tup s =>
     cases e1;obtain⟨ys,rfl,i⟩:=w;refine⟨.non,xs++ys,?_,r.app i,rfl⟩;simp only[dO,g];rw[c_ (by rw[r.length,i.length];ext)]
    |_=>cases e1
   .rw[f_ z]at e2;cases e2
def rV:K0 where
 m:=ku
 p:=λj l=>match l with
  |[.int i,a]=>if(0<=i/\i<=100000)/\j.length<100000 then J (.non,j.take (min i.toNat j.length)++a::j.drop (min i.toNat j.length))else Y
  |_=>Y
 ok {q h O n xs j l vs d ds'} g r ra e:=by
  match l,e with
  |[.int i,a],e =>
   obtain⟨x,t,rfl,o,y,s,rfl,w,b⟩:=ra
   have:s=[]:=b
   subst this;rw[show x=PV.int i from o];dsimp only at e;by_cases z:(0<=i/\i<=100000)/\j.length<100000
   .rw[c_ z]at e;cases e;refine⟨.non,mR xs i y,?_,?_,rfl⟩
    .simp only[ku,g];rw[c_ ⟨by ext,by have:=eK;rw[r.length];ext⟩]
    .delta mR;rw[f_ (by ext),r.length];exact(r.take _).app ⟨y,_,rfl,w,r.drop _⟩
   .rw[f_ z]at e;cases e
end
section
variable{ws:R8}{env:aE}{s:h8}
@[simp]theorem aD{d:D}{r:aE}:(ac 0:Xe ws).p (J d::r) s=.ok d s:=rfl
@[simp]theorem aH{i:Nat}{o:SF}{r:aE}:(ac (i+1):Xe ws).p (o::r) s=(ac i:Xe ws).p r s:=by simp[ac]
theorem nD(e:env[i]?=J (J d)):(ac i:Xe ws).p env s=.ok d s:=by show(match env[i]? with|some (J d)=>PR.ok d s|_=>.bad)=_;rw[e]
@[simp]theorem cO:(xC k:Xe ws).p env s=.ok k.d s:=rfl
@[simp]theorem mV:Cn.non.d=.non:=rfl
@[simp]theorem Hs:(Cn.bl b).d=.bl b:=rfl
@[simp]theorem bY:(Cn.int b).d=.int b:=rfl
@[simp]theorem vU:(Cn.str b).d=.str b:=rfl
@[simp]theorem aY:(ak o a b).p env s=(a.p env s).bind λx s1=>(b.p env s1).bind λy s2=>.of (o.p x y) s2:=rfl
@[simp]theorem yF:(C8 o a).p env s=(a.p env s).bind λx s1=>.of (o.p x) s1:=rfl
@[simp]theorem az:(a_:Xs ws).p env s=.ok [] s:=rfl
@[simp]theorem av:(aa a r).p env s=(a.p env s).bind λx s1=>(r.p env s1).bind λy s2=>.ok (x::y) s2:=rfl
@[simp]theorem cF:(o_ o a).p env s=(a.p env s).bind λx s1=>.of (o.p x) s1:=rfl
@[simp]theorem bn:(aB f a h).p env s=(a.p env s).bind f.p:=rfl
@[simp]theorem ye:(zd f a h).p env s=((a.p env s).bind f.p).bind λd s=>if Eo d=I then .ok d s else .bad:=rfl
@[simp]theorem dg:(bC a h).p env s=(a.p env s).bind λx s1=>if x.length<=100000 then .ok (.lst x) s1 else .bad:=rfl
@[simp]theorem gN:(be a h).p env s=(a.p env s).bind λx s1=>if x.length<=100000 then .ok (.tup x) s1 else .bad:=rfl
@[simp]theorem A0:(EU:Xe ws).p env s=.ok .dic s:=rfl
@[simp]theorem g9:(xB a).p env s=(a.p env s).bl:=rfl
@[simp]theorem mW:(hJ a).p env s=(a.p env s).bind λb s=>.ok (!b) s:=rfl
@[simp]theorem uA:(Fa a b).p env s=(a.p env s).bind λx s=>if x=I then .ok I s else b.p env s:=rfl
@[simp]theorem Og:(mh:Xt ws).p env s=.ok I s:=rfl
@[simp]theorem Gs:(nW a b).p env s=(a.p env s).bl.bind λx s=>if x=I then(b.p env s).bl.bind λy s=>.ok (.bl y) s else .ok (.bl T) s:=rfl
@[simp]theorem J4:(JS a b).p env s=(a.p env s).bl.bind λx s=>if x=I then .ok (.bl I) s else(b.p env s).bl.bind λy s=>.ok (.bl y) s:=rfl
@[simp]theorem Oh:(zm a).p env s=(a.p env s).bl.bind λx s=>.ok (.bl (!x)) s:=rfl
@[simp]theorem P9:(Gn t a b z h).p env s=(t.p env s).bind λx s=>if x=I then a.p env s else b.p env s:=rfl
@[simp]theorem M9:(A9 f g a b e).p env s=(a.p env s).bind λx s1=>(b.p env s1).bind λy s2=>match f.p x y with
  |some (.bl t)=>if t=I then(e.p env s2).bind λz s3=>.of (g.p y z) s3 else .ok (.bl T) s2
  |_=>.bad:=rfl
@[simp]theorem gc:(eU o a).p env s=(a.p env s).bind λx s1=>.of (o.p x) s1:=rfl
@[simp]theorem eY:(ba a).p env s=(a.p env s).bind λx s1=>.of x.items s1:=rfl
@[simp]theorem Ra{i:Nat}{h:ws.contains i=T}{d:D}:(i_ i h).p d env=J (env.set i (J d)):=rfl
@[simp]theorem Rb:(C9:MV ws).p [] env=J env:=rfl
@[simp]theorem Rc:(pa a t).p (d::ds) env=(a.p d env).bind λenv1=>t.p ds env1:=rfl
@[simp]theorem Re:(C_ t n).p (.tup ds) env=if ds.length=n then t.p ds env else Y:=rfl
@[simp]theorem yk{nv:Nat}{fm:R8}{i:Xi ws}{ws':R8}{g:Xg ws'}{t:Xt ws'}{e:Xe ws'}{hw:Fb nv fm ws=ws'}{hz:e.fz=I}:(bz nv fm i g t e hw hz).p env s=(i.p env s).bind λds s1=>if ds.length<=100000 then (match fb g.p t.p e.p ds (BB nv fm env) s1 with
  |.ok r s2=>.ok (.lst r) s2
  |_=>.bad)else .bad:=rfl
@[simp]theorem yX:(Dr:Xo ws).p env s=.ok Y s:=rfl
@[simp]theorem yZ:(Dt e).p env s=(e.p env s).bind λd s=>match d with
  |.int i=>.ok (J i) s
  |_=>.bad:=rfl
@[simp]theorem yN:(Du a lo hi).p env s=(a.p env s).bind λx s=>(lo.p env s).bind λl s=>(hi.p env s).bind λu s=>.of (K1 x l u) s:=rfl
@[simp]theorem au:(aG a b).p env s=(a.p env s).then b.p:=rfl
@[simp]theorem eP:(ky:Xd ws).p env s=.nx env s:=rfl
@[simp]theorem de:(bG e).p env s=(e.p env s).go env λd _ s=>.rt d s:=rfl
theorem ko{i:Nat}{h:ws.contains i=I}{d:D}(e:env[i]?=J (J d)):(nK i h).p env s=.rt d s:=by show(match env[i]? with|some (J d)=>PS.rt d s|_=>.bad)=_;rw[e]
@[simp]theorem xi:(cT e).p env s=(e.p env s).go env λ_=>.nx:=rfl
@[simp]theorem dG:(Cs t a b).p env s=(t.p env s).go env λx env s=>if x=I then a.p env s else b.p env s:=rfl
@[simp]theorem bB:(bu i e hi hz).p env s=(e.p env s).go env λd env s=>.nx (env.set i (J d)) s:=rfl
@[simp]theorem dw:(dZ i e hi hz).p env s=(e.p env s).go env λd env s=>match d with
  |.lst ds=>.nx (env.set i (J (.lst ds))) s
  |_=>.bad:=rfl
@[simp]theorem M_:(wm x a).p env s=(a.p env s).go env λds env s=>if ds.length<=100000 then .rse x env s else .bad:=rfl
@[simp]theorem cD:(dU i g b hz).p env s=(i.p env s).go env λds env s=>xv g.p b.p ds env s:=rfl
@[simp]theorem Na:(Db o i a hi hz).p env s=EG o i a.p env s λ_=>.nx:=rfl
@[simp]theorem Ab:(uN i e ix hi hz).p env s=fH i e.p ix.p env s:=rfl
theorem bp{hw}(a:ds.length=np):(ck n np b hw).p ds s=(b.p (ki n ds) s).fin:=by show(if ds.length=np then _ else _)=_;rw[c_ a]
variable{i j:Int}{b:Bool}{x y:R9}
@[simp]theorem w9:bE.p (.int i) (.int j)=J (.int (i+j)):=rfl
theorem dP(h:x.length+y.length<=100000):bE.p (.lst x) (.lst y)=J (.lst (x++y)):=by show(if x.length+y.length<=100000 then _ else _)=_;rw[c_ h]
@[simp]theorem P_:JY.p (.int i) (.int j)=J (.bl (decide (i<j))):=rfl
@[simp]theorem Qa:Q7.p (.int i) (.int j)=J (.bl (decide (i<=j))):=rfl
@[simp]theorem J5:Q8.p (.int i) (.int j)=J (.bl (decide (j<i))):=rfl
@[simp]theorem nV:mf.p (.lst x) (.int j)=nw x j:=rfl
@[simp]theorem qw:mf.p (.tup x) (.int j)=nw x j:=rfl
@[simp]theorem J6:(fF Ts).p d=(EJ d).map λt=>.bl (Ts.any (cL t)):=rfl
@[simp]theorem Qb:EJ .non=J "NoneType":=rfl
@[simp]theorem Rf:EJ (.bl b)=J "bool":=rfl
@[simp]theorem Qc:EJ (.int i)=J "int":=rfl
@[simp]theorem Qd:EJ (.str z)=J "str":=rfl
@[simp]theorem Qe:EJ (.tup x)=J "tuple":=rfl
@[simp]theorem J7:EJ (.lst x)=J "list":=rfl
@[simp]theorem Qf:EJ .dic=J "dict":=rfl
@[simp]theorem Gu:Gr.p [.int i,.int j]=J (.int (if j<i then j else i)):=rfl
@[simp]theorem J8:rK.p [.bl b]=J (.int (if b then 1 else 0)):=rfl
@[simp]theorem Qg:rK.p [.int i]=J (.int i):=rfl
@[simp]theorem J9:jT.p [.lst x]=J (.int x.length):=rfl
@[simp]theorem Qh:jT.p [.tup x]=J (.int x.length):=rfl
theorem nX(h:x.length<=100000):ff.p [.lst x]=J (.lst x):=by show(if x.length<=100000 then _ else _)=_;rw[c_ h]
def wU(h:x.length<=100000):ff.p [.tup x]=J (.lst x):=by show(if x.length<=100000 then _ else _)=_;rw[c_ h]
@[simp]theorem oX:kc.p [.lst x]=J (.tup x):=rfl
@[simp]theorem Nb:kc.p [.tup x]=J (.tup x):=rfl
theorem Ht(h:-100000<=i/\i<=100000):Q_.p [.int i]=J (.lst (dI 0 i.toNat)):=by show(if _ then _ else _)=_;rw[c_ h]
def uD(h:-100000<=i/\i<=100000):J3.p [.int i]=J (dI 0 i.toNat):=by show(if _ then _ else _)=_;rw[c_ h]
def Nc(h:(-100000<=i/\i<=100000) /\ -100000<=j/\j<=100000):Of.p [.int i,.int j]=J (dI i (j-i).toNat):=by show(if _ then _ else _)=_;rw[c_ h]
@[simp]theorem Gw:iE.p [.lst x]=J (gG x):=rfl
@[simp]theorem Rg:iZ.p [.lst x,.lst y]=J (rZ x y):=rfl
@[simp]theorem Rh:iZ.p [.tup x,.tup y]=J (rZ x y):=rfl
@[simp]theorem y0:K1 (.lst x) lo hi=J (.lst (jX x lo hi)):=rfl
theorem jd(h:x.length<100000):fO.p x [a]=J (.non,x++[a]):=by show(if _ then _ else _)=_;rw[c_ h]
def jG(h:x.length+y.length<=100000):cV.p x [.lst y]=J (.non,x++y):=by show(if _ then _ else _)=_;rw[c_ h]
def Af(h:x.length+y.length<=100000):cV.p x [.tup y]=J (.non,x++y):=by show(if _ then _ else _)=_;rw[c_ h]
def Al{a:D}{i:Nat}(h:i<=x.length)(e:x.length<100000):rV.p x [.int i,a]=J (.non,x.take i++a::x.drop i):=by show(if _ then _ else _)=_;rw[c_ ⟨by ext,e⟩,Dn,OJ h]
end
section
variable{i j:Int}{b c:Bool}
def m6(a:x.canLay0=I)(e:x.depth<=64):SeqAt.shaped x=I:=by simp[SeqAt.shaped,a,e]
@[simp]theorem AM:DK neg (.int i) (.int j)=J (.bl (if neg then !decide (i=j)else decide (i=j))):=rfl
@[simp]theorem Qi:DK neg (.bl b) (.bl c)=J (.bl (if neg then !(b==c)else b==c)):=rfl
@[simp]theorem Hu:C3.p a d=DK T a d:=rfl
@[simp]theorem yG:EI.p a d=DK I a d:=rfl
@[simp]theorem Nd:(Ea neg).p a d=M5 neg a d:=rfl
theorem gq:∀(k:R6),D_ (k.map .int)=J (k.map .int)/\t3 (k.map .int)=0
 |[]=>⟨rfl,rfl⟩
 |i::k=>by
  obtain⟨a,b⟩:=gq k;simp[D_,py,a,t3,Ct,b]
def vq:∀(e:R7),D_ (e.map kD)=J (e.map λk=>.tuple (k.map .int))/\t3 (e.map kD)<=1
 |[]=>⟨rfl,by simp[t3]⟩
 |k::e=>by
  obtain⟨a,b⟩:=vq e;obtain⟨c,d⟩:=gq k;constructor
  .simp[D_,kD,py,a,c]
  .simp only[wj,t3,kD,Ct,d];lia
def sJ:∀(xs:R6),(xs.map PyData.int).any (λe=>PyData.eqv e (.int x))=decide (x∈xs)
 |[]=>by simp
 |y::ys=>by
  rw[wj,OM,sJ ys]
  have:PyData.eqv (.int y) (.int x)=decide (x=y):=by simp[PyData.eqv,QE,eq_comm]
  grind
def oA:∀(k e:R6),PyData.eqvAll (k.map .int) (e.map .int)=decide (k=e)
 |[],[]=>by simp[PyData.eqvAll]
 |[],_::_=>by simp[PyData.eqvAll]
 |_::_,[]=>by simp[PyData.eqvAll]
 |a::k,b::e=>by
  simp only[wj,PyData.eqvAll,PyData.eqv,oA k e];by_cases z:a=b<;>simp[z]
def j7{neg:Bool}{x:Int}{d:D}{xs:R6}(e:d.items=J (xs.map .int)):M5 neg (.int x) d=J (.bl (if neg then !decide (x∈xs)else decide (x∈xs))):=by obtain⟨a,b⟩:=gq xs;simp only[M5,e,py,a];rw[c_ ⟨⟨by simp[Ct],⋯⟩,rfl,(gr xs).1⟩,sJ]
def pk{neg:Bool}{xs ys:R6}:DK neg (.lst (xs.map .int)) (.lst (ys.map .int))=J (.bl (if neg then !decide (xs=ys)else decide (xs=ys))):=by obtain⟨a,b⟩:=gq xs;obtain⟨c,d⟩:=gq ys;obtain⟨g,o⟩:=gr xs;obtain⟨e,l⟩:=gr ys;simp only[DK,py,a,c,Lh];rw[c_ ⟨⟨by simp[Ct,b],by simp[Ct,d]⟩,m6 (by simpa [PyData.canLay0]using g) (by simp only[PyData.depth];lia),m6 (by simpa [PyData.canLay0]using e) (by simp only[PyData.depth];lia)⟩];simp only[PyData.eqv,oA]
end
@[simp]theorem Oi:xv g b [] env s=.nx env s:=rfl
theorem B4(e:g d env=J env1):xv g b (d::ds) env s=(b env1 s).turn (xv g b ds):=by rw[xv,e]
def cI(e:Nat->aE->h8->Prop):∀(o:R9)(j:Nat)(env:aE)(s:h8),e j env s ->
  (∀m env s d,e (j+m) env s->o[m]?=J d->∃i a l,g d env=J i/\b i s=.nx a l/\e (j+m+1) a l)->∃a l,xv g b o env s=.nx a l/\e (j+o.length) a l
 |[],j,env,s,u,_=>⟨env,s,rfl,u⟩
 |d::o,j,env,s,u,st=>by
  obtain⟨i,t,B,e1,e2,y⟩:=st 0 env s d u rfl;obtain⟨r,E,e3,C⟩:=cI e o (j+1) t B y λm a l x q z=>by
   have:=st (m+1) a l x (by rw[show j+(m+1)=j+1+m by lia];exact q) (by simpa using z)
   rw[show j+(m+1)+1=j+1+m+1 by lia]at this;exact this
  refine⟨r,E,?_,by rw[C1,show j+(o.length+1)=j+1+o.length by lia];exact C⟩;rw[B4 e1,e2];exact e3
def pY(p:D->Bool)(f:D->D):∀(l:R9)(j:aE),j.length=nv ->
  (∀x∈l,∀j:aE,j.length=nv->∃a:aE,a.length=nv/\g x (j++fr)=J (a++fr)/\t (a++fr) s=.ok (p x) s/\(p x=I->e (a++fr) s=.ok (f x) s))->fb g t e l (j++fr) s=.ok ((l.filter p).map f) s
 |[],j,hv,i=>rfl
 |x::l,j,hv,i=>by
  obtain⟨a,r,e1,e2,e3⟩:=i x (by simp) j hv;have u:=pY p f l a r λy z=>i y (oh _ z);rw[fb,e1];dsimp only;rw[e2]
  cases o:p x with
  |true=>simp only[Pb,if_true,e3 o,u,QA o,wj]
  |false=>simp only[Pb,pu,if_false,u,QB (show ¬p x=I by simp[o])]
def qo{u j:R8}{env:aE}{s:h8}{r:Nat}{fm:R8}{i:Xi u}{g:Xg j}{t:Xt j}{e:Xe j}{E:Fb r fm u=j}{B:e.fz=I}{o:R9}(p:D->Bool)(f:D->D)(C:i.p env s=.ok o s)(z:o.length<=100000)(l:∀x∈o,∀y:aE,y.length=r->∃a:aE,a.length=r/\g.p x (y++fm.map λi=>(env[i]?).getD Y)=J (a++fm.map λi=>(env[i]?).getD Y)/\t.p (a++fm.map λi=>(env[i]?).getD Y) s=.ok (p x) s/\(p x=I->e.p (a++fm.map λi=>(env[i]?).getD Y) s=.ok (f x) s)):
  (bz r fm i g t e E B).p env s=.ok (.lst ((o.filter p).map f)) s:=by
 rw[yk,C,Pb,c_ z];delta BB;rw[pY p f o _ (by simp) l]
def gf{ws ws':R8}{env:aE}{s:h8}{fm:R8}{i:Xi ws}{t:Xt ws'}{e:Xe ws'}{ds:R9}(p:D->Bool)(f:D->D)(l:i.p env s=.ok ds s)(g:ds.length<=100000)(a:∀x∈ds,t.p (J x::fm.map λi=>(env[i]?).getD Y) s=.ok (p x) s/\(p x=I->e.p (J x::fm.map λi=>(env[i]?).getD Y) s=.ok (f x) s))(o:ws'.contains 0=T:=by exact ys rfl)(r:Fb 1 fm ws=ws':=by exact ys rfl)(j:e.fz=I:=by exact ys rfl):
  (bz 1 fm i (i_ 0 o) t e r j).p env s=.ok (.lst ((ds.filter p).map f)) s :=
 qo p f l g λx y u hv=>match u,hv with
  |[_],_=>⟨[J x],rfl,rfl,a x y⟩
def nU{ws ws':R8}{env:aE}{s:h8}{fm:R8}{i:Xi ws}{t:Xt ws'}{e:Xe ws'}{ds:R9}(p:D->Bool)(f:D->D)(o:i.p env s=.ok ds s)(j:ds.length<=100000)(g:∀x∈ds,∃a b,x=.tup [a,b]/\t.p (J a::J b::fm.map λi=>(env[i]?).getD Y) s=.ok (p x) s/\(p x=I->e.p (J a::J b::fm.map λi=>(env[i]?).getD Y) s=.ok (f x) s))(r:ws'.contains 0=T:=by exact ys rfl)(z:ws'.contains 1=T:=by exact ys rfl)(u:Fb 2 fm ws=ws':=by exact ys rfl)(l:e.fz=I:=by exact ys rfl):
  (bz 2 fm i (C_ (pa (i_ 0 r) (pa (i_ 1 z) C9)) 2) t e u l).p env s=.ok (.lst ((ds.filter p).map f)) s :=
 qo p f o j λx B y hv=>match y,hv with
  |[_,_],_=>let⟨a,b,e,q⟩:=g x B;⟨[J a,J b],rfl,by subst e;rfl,q⟩
def dC{α:Type}(l:List α):(l.filter λ_=>I)=l:=List.filter_eq_self.mpr (by simp)
def IsT(n:Int)(k:R6):Prop:=∃a b:Int,k=[a,b]/\0<=a/\a<n/\0<=b/\b<n/\a≠b
def EV:R6->R6
 |[a,b]=>[if b<a then b else a,if b>a then b else a]
 |k=>k
structure j_(n:Int)(ks:R7):Prop where
 n0:0<=n
 n12:n<=12
 tie:∀k∈ks,∃a b:Int,k=[a,b]/\0<=a/\a<b/\b<n
 ris:SortT.Gc ks
 nd:ks.Nodup
def J_:R7:=(List.range 12).flatMap λb=>(List.range b).map λ(a:Nat)=>[(a:Int),(b:Int)]
def B7:J_.length=66:=by decide
def CO(e:n<=12)(g:0<=a)(j:a<b)(i:b<n):[a,b]∈J_:=by
 delta J_;rw[OF];refine⟨b.toNat,by simp;lia,?_⟩;rw[mx];refine⟨a.toNat,by simp;lia,?_⟩;congr 1
 .lia
 .lia
def gK{n:Int}{g:R7}(l:n<=12)(r:∀k∈g,∃a b:Int,k=[a,b]/\0<=a/\a<b/\b<n)(nd:g.Nodup):g.length<=66:=by rw[<-B7];refine List.Nodup.length_le_of_subset nd λk e=>?_;obtain⟨a,b,rfl,i,j,o⟩:=r k e;exact CO l i j o
def Ka(h:a<b):EV [a,b]=[a,b]:=by simp[EV,show ¬b<a by lia,show b>a from h]
def below(v:Int)(e:R7):R6:=e.filterMap λk=>match k with|[a,b]=>if b=v then J a else Y|_=>Y
def above(v:Int)(e:R7):R6:=e.filterMap λk=>match k with|[a,b]=>if a=v then J b else Y|_=>Y
def jj(n:Nat):R6:=(List.range n).map λ(i:Nat)=>(i:Int)
def bO:i∈jj n↔0<=i/\i<n:=by
 delta jj;rw[mx];constructor
 .rintro⟨k,e,rfl⟩;rw[Ey]at e;lia
 .intro ⟨a,b⟩;exact⟨i.toNat,by rw[Ey];lia,⋯⟩
def fR(n:Nat):(jj n).Nodup:=by exact List.Pairwise.map _ (λa b h=>by lia) NF
def e8(h:0<=i):∃n:Nat,i=(n:Int):=⟨i.toNat,⋯⟩
def Nf(h:SortT.bZ [c,d] [a,b]=T):a<c\/(a=c/\b<=d):=by
 simp only[SortT.bZ]at h;by_cases z:c=a
 .rw[c_ z]at h
  grind
 .rw[f_ z]at h;simp at h;lia
def Gx(w:j_ n g):(below v g++above v g).Pairwise (·<=·):=by
 have tie:=w.tie;have ris:=w.ris;clear w;rw[Ny];have mb:∀(g:R7)(x:Int),x∈below v g->(∀k∈g,∃a b:Int,k=[a,b]/\0<=a/\a<b/\b<n)->[x,v]∈g/\x<v:=λg x o tie=>by
  obtain⟨k,r,e⟩:=Ev.mp o;obtain⟨a,b,rfl,_,lt,_⟩:=tie k r;by_cases z:b=v
  .simp[z]at e;subst e;subst z;exact⟨r,lt⟩
  .simp[z]at e
 have t:∀(g:R7)(x:Int),x∈above v g->(∀k∈g,∃a b:Int,k=[a,b]/\0<=a/\a<b/\b<n)->[v,x]∈g/\v<x:=λg x o tie=>by
  obtain⟨k,r,e⟩:=Ev.mp o;obtain⟨a,b,rfl,_,lt,_⟩:=tie k r;by_cases z:a=v
  .simp[z]at e;subst e;subst z;exact⟨r,lt⟩
  .simp[z]at e
 refine⟨?_,?_,λx o y u=>?_⟩
 .induction g with
  |nil=>exact .nil
  |cons k g s =>
   obtain⟨a,b,rfl,_⟩:=tie k (by simp);have j:=λk r=>tie k (oh _ r);have i:=(E2.mp ris);have l:=s j i.2;have e1:below v ([a,b]::g)=(if b=v then [a]else [])++below v g:=by delta below;by_cases z:b=v<;>simp[z]
   rw[e1];by_cases z:b=v
   .rw[c_ z];refine E2.mpr ⟨λx o=>?_,l⟩
    have:=Nf (i.1 _ (mb g x o j).1)
    lia
   .rw[f_ z];exact l
 .induction g with
  |nil=>exact .nil
  |cons k g s =>
   obtain⟨a,b,rfl,_⟩:=tie k (by simp);have j:=λk r=>tie k (oh _ r);have i:=(E2.mp ris);have l:=s j i.2;have e1:above v ([a,b]::g)=(if a=v then [b]else [])++above v g:=by delta above;by_cases z:a=v<;>simp[z]
   rw[e1];by_cases z:a=v
   .rw[c_ z];refine E2.mpr ⟨λx o=>?_,l⟩
    have:=Nf (i.1 _ (t g x o j).1)
    lia
   .rw[f_ z];exact l
 .have:=(mb g x o tie).2
  have:=(t g y u tie).2
  lia
def Kb(w:j_ n t):(below v t++above v t).Nodup/\∀x∈below v t++above v t,0<=x/\x<n:=by
 have mb:∀x,x∈below v t->0<=x/\x<v/\x<n:=λx g=>by
  obtain⟨k,r,e⟩:=Ev.mp g;obtain⟨a,b,rfl,_,lt,_⟩:=w.tie k r;by_cases z:b=v
  .simp[z]at e;subst e;lia
  .simp[z]at e
 have B:∀x,x∈above v t->0<=x/\v<x/\x<n:=λx g=>by
  obtain⟨k,r,e⟩:=Ev.mp g;obtain⟨a,b,rfl,_,lt,_⟩:=w.tie k r;by_cases z:a=v
  .simp[z]at e;subst e;lia
  .simp[z]at e
 refine⟨?_,λx g=>?_⟩
 .rw[G3];refine⟨?_,?_,λx g y i=>?_⟩
  .unfold below List.Nodup;rw[Oz];refine List.Pairwise.imp_of_mem (λ{k u} r l j x g y i=>?_) w.nd;obtain⟨a,b,rfl,_⟩:=w.tie k r;obtain⟨c,d,rfl,_⟩:=w.tie u l;by_cases o:b=v
   .by_cases s:d=v
    .simp[o]at g;simp[s]at i;subst g i;rintro rfl;exact j (by rw[o,s])
    .simp[s]at i
   .simp[o]at g
  .unfold above List.Nodup;rw[Oz];refine List.Pairwise.imp_of_mem (λ{k u} r l j x g y i=>?_) w.nd;obtain⟨a,b,rfl,_⟩:=w.tie k r;obtain⟨c,d,rfl,_⟩:=w.tie u l;by_cases o:a=v
   .by_cases s:c=v
    .simp[o]at g;simp[s]at i;subst g i;rintro rfl;exact j (by rw[o,s])
    .simp[s]at i
   .simp[o]at g
  .have:=mb x g
   have:=B y i
   lia
 .rcases n9.mp g with q|q
  .have:=mb x q;lia
  .have:=B x q;lia
def bR(ns:R6)(j:Nat):R7:=(List.range j).flatMap λi=>(ns.drop (i+1)).map λb=>[ns.getD i 0,b]
def v7:bR ns (j+1)=bR ns j++(ns.drop (j+1)).map λb=>[ns.getD j 0,b]:=by simp[bR,List.range_succ]
def k9(a:ns.length<=12):∀(j:Nat),(bR ns j).length<=12*j
 |0=>by simp[bR]
 |j+1=>by
  have:=k9 a j
  rw[v7,DO,tu,E3];lia
def zy(t:ns.Pairwise (·<·))(r:∀x∈ns,0<=x/\x<n):∀k∈bR ns ns.length,∃a b:Int,k=[a,b]/\0<=a/\a<b/\b<n:=λk l=>by
 obtain⟨i,g,l⟩:=OF.mp l;rw[Ey]at g;obtain⟨b,e,rfl⟩:=mx.mp l;obtain⟨j,s,o⟩:=NC e;rw[E3]at s;rw[HN]at o;have e1:ns.getD i 0=ns[i]:=by simp[g]
 rw[e1];have lt:=G1.mp t i (i+1+j) g ⋯ ⋯;rw[o]at lt;exact⟨_,_,rfl,(r _ (Ex g)).1,lt,(r _ (HJ e)).2⟩
noncomputable section
def rm:D->Option Bool
 |.non=>J T
 |.bl b=>J b
 |.int i=>J (i != 0)
 |.tup xs=>J (!xs.isEmpty)
 |.lst xs=>J (!xs.isEmpty)
 |_=>Y
def Rps.empty(r:Rps p h O a vs):vs.isEmpty=a.isEmpty:=by
 cases a with
 |nil=>rw[show vs=[]from r];rfl
 |cons d a=>obtain⟨x,t,e,_⟩:=r;rw[e];rfl
def vA(w:Vw q h L O d v)(e:rm d=J b):oP h v=J b:=by
 cases d with
 |non=>cases e;rw[w.non];rfl
 |bl c=>cases e;rw[w.bl];rfl
 |int c=>cases e;rw[w.int];rfl
 |tup c=>cases e;obtain⟨xs,rfl,r⟩:=w.tup;rw[oP,r.empty]
 |lst c=>cases e;obtain⟨n,xs,rfl,g,r⟩:=w.lst;simp only[oP,g];rw[r.empty]
 |_=>cases e
section
variable{ws:R8}
def Oj(a:Xe ws):Xt ws where
 m:=P4 a.m
 p:=λenv s=>(a.p env s).bind λd s=>.of (rm d) s
 ok {q h L B O Z env s} c:=by
  refine(a.ok c).bind λx v g l j i ⟨w,_,_⟩=>?_
  cases e:rm x with
  |none=>trivial
  |some b=>rw[vA w e];exact⟨b,g,rfl,KB.refl _ _,i,rfl⟩
structure OpR where
 m:Nat->R4->MH->SX
 p:R9->R9->SF
 ok:∀{q:Nat}{h:MH}{L:Nat}{O:R8}{n:Nat}{xs:R4}{ds as:R9}{vs:R4}{d:D},h[n]?=J (.lst xs)->Rps q h O ds xs->Vws q h L O as vs->p ds as=J d->∃v,m n vs h=.ok v h/\Rp q h O d v/\∀es,d≠.lst es
def Ep(o:OpR)(a:Xe ws)(l:Xs ws):Xe ws where
 m:=De o.m a.m l.m
 p:=λenv s=>(a.p env s).bind λx t=>match x with
  |.lst i=>(l.p env t).bind λy C=>.of (o.p i y) C
  |_=>.bad
 fz:=I
 fr:=I
 ok {q h L B O Z env s} c:=by
  refine(a.ok c).bind λx v h1 t R U ⟨w,_,_⟩=>?_
  cases x with
  |lst i =>
   have c1:=c.kb R U;obtain⟨n,xs,rfl,g,r⟩:=w.lst;dsimp only;rw[g];refine(l.ok c1).bind λy vs F C G W ⟨X,_⟩=>?_;have S:n≠q:=by
    rcases w with⟨M,j,e,no,_⟩|⟨M,j,H,_,e,_,hn,_⟩
    .cases e;exact λz=>no (z▸c.pO)
    .cases e;have:=c.pL;lia
   have P:F[n]?=J (.lst xs):=(G.keep n (bo g) S).trans g
   cases e:o.p i y with
   |none=>trivial
   |some d =>
    obtain⟨u,e1,E,nl⟩:=o.ok P (r.mv (G.mv c.pO)) X e;exact⟨u,F,by rw[e1];rfl,KB.refl _ _,W,.inl E,λ_=>E,λ_ es Q=>absurd Q (nl es)⟩
  |_=>trivial
end
def du:OpR where
 m:=gM
 p:=λi a=>match a with
  |[.int k]=>(b9 i).bind λns=>(iY k ns).map λ(j:Nat)=>.int (j:Int)
  |_=>Y
 ok {q h L O n xs i a vs d} g r w e:=by
  match a,e with
  |[.int k],e =>
   obtain⟨x,rfl,l⟩:=dX w;rw[l.int];rw[Eu]at e;obtain⟨ns,e1,e2⟩:=e;rw[y9]at e2;obtain⟨j,e3,rfl⟩:=e2;refine⟨.int j,?_,rfl,λ_ z=>by cases z⟩;simp only[gM,g,gv r e1,ji,e3]
section
variable{ws:R8}{env:aE}{s:h8}
@[simp]theorem Ri:(Oj a).p env s=(a.p env s).bind λd s=>.of (rm d) s:=rfl
@[simp]theorem Ng:(Ep o a as).p env s=(a.p env s).bind λx s1=>match x with
  |.lst ds=>(as.p env s1).bind λy s2=>.of (o.p ds y) s2
  |_=>.bad:=rfl
end
end
noncomputable section
def pP:R9->Option (R5)
 |[]=>J []
 |.str x::r=>(pP r).map (x::·)
 |_=>Y
def CF:∀{a:R9}{xs:R4}{g:R5},Rps q h O a xs->pP a=J g->jo xs=J g:=by
 intro a
 induction a with
 |nil=>intro xs g r e;rw[show xs=[]from r];cases e;rfl
 |cons d a l =>
  intro xs g r e;obtain⟨x,t,rfl,j,o⟩:=r
  cases d with
  |str z =>
   unfold pP at e;rw[y9]at e;obtain⟨i,e1,rfl⟩:=e;rw[show x=PV.str z from j];unfold jo;rw[l o e1];rfl
  |_=>cases e
structure Rj where
 f:Str->R4->MH->SX
 p:Str->R9->SF
 fr:Bool
 ok:∀{q h L O z as xs d},Bd h O->Vws q h L O as xs->p z as=J d->Gv q h O fr (f z xs h) d
def Nh:Rj where
 f:=jM
 p:=λz o=>match o with
  |[.lst j]=>(match pP j with
   |some i=>if JoinOk z i=I then J (.str (Txt.join z i))else Y
   |none=>Y)
  |_=>Y
 fr:=I
 ok {q h L O z o xs d} bd w e:=by
  match o,e with
  |[.lst j],e =>
   dsimp only at e
   cases s:pP j with
   |none=>rw[s]at e;cases e
   |some i =>
    rw[s]at e;dsimp only at e;by_cases l:JoinOk z i=I
    .rw[c_ l]at e;cases e;obtain⟨x,rfl,a⟩:=dX w;obtain⟨n,xs,rfl,g,r⟩:=a.lst;have e2:jM z [.loc n] h=.ok (.str (Txt.join z i)) h:=by
      simp only[jM,g,CF r s];rw[c_ l]
     rw[e2];exact JW rfl λ_ _ e=>by cases e
    .rw[f_ l]at e;cases e
section
variable{ws:R8}
def Rk(o:Rj)(a:Xe ws)(i:Xs ws):Xe ws where
 m:=MK o.f a.m i.m
 p:=λenv s=>(a.p env s).bind λx l=>match x with
  |.str z=>(i.p env l).bind λy t=>.of (o.p z y) t
  |_=>.bad
 fz:=I
 fr:=o.fr
 ok {q h L B O Z env s} c:=by
  refine(a.ok c).bind λx v P l j G ⟨w,_,_⟩=>?_
  cases x with
  |str z =>
   have E:=c.kb j G;rw[w.str];dsimp only;refine(i.ok E).bind λy M Q t F C ⟨H,_⟩=>?_
   cases e:o.p z y with
   |none=>trivial
   |some d =>
    obtain⟨u,g,e1,r,f⟩:=o.ok (E.kb F C).bd H e;exact DY (tx j.len F.len) C ⟨u,g,by rw[e1];rfl,r,f⟩
  |_=>trivial
variable{env:aE}{s:h8}
@[simp]theorem Rm:(Rk o a as).p env s=(a.p env s).bind λx s1=>match x with
  |.str z=>(as.p env s1).bind λy s2=>.of (o.p z y) s2
  |_=>.bad:=rfl
end
end
noncomputable section
section
variable{ws:R8}
end
end
noncomputable section
variable{ws:R8}
end
end PU
namespace MM
open PySem.Spec PyProof.Rows L2
end MM
namespace PU
open MM
end PU
namespace MM
open PySem.Spec PyProof.Rows L2
abbrev Qj(scope sc:Scope)(vars frees:R5):Prop:=(∀y∈scope.names,y.2=.cell->scope.names.lookup y.1=J .cell)/\(∀y∈scope.names,y.2=.local->scope.names.lookup y.1=J .local)/\(∀x∈vars,scope.names.lookup x=J .local\/scope.names.lookup x=J .cell)/\(∀x∈frees,scope.names.lookup x=J .free)/\(∀y∈scope.names,y.2=.free->y.1∈frees)/\(∀x∈frees,sc.names.lookup x=J .cell)
def wT{X:Cx}{N:R5}{a j:Scope}{e frees:R5}{fm:R8}(g:X.env.scope=j)(l:a.kind=.function)(o:fm.map (λi=>N[i]?)=frees.map J)(h:Qj a j e frees):B0 X N a e frees fm :=
 Jg g l h.1 h.2.1 h.2.2.1 h.2.2.2.1 h.2.2.2.2.1 o h.2.2.2.2.2
def Rn{Q:SQ->Prop}(h:∀e,Q [e]):∀a,a.length=1->Q a
 |[_],_=>h _
def RQ{Q:SQ->Prop}(h:∀g e,Q [g,e]):∀a,a.length=2->Q a
 |[_,_],_=>h _ _
def RT{Q:SQ->Prop}(h:∀i g e,Q [i,g,e]):∀a,a.length=3->Q a
 |[_,_,_],_=>h _ _ _
abbrev Zn(K:ij)(x:Str):Prop:=PySem.W.nsIn K mainGlobals x=J Y
abbrev Nn(X:Cx)(x:Str):Prop:=X.mg x=Y
abbrev Sc(X:Cx)(s:Stmt):Prop:=X.env.scope=aM s
abbrev Gd(X:Cx)(N G:R5)(k:Nat):Prop:=Good X N N G k
structure Ba(P:Program)(w:World)(K:ij)(mg:SD)(base:Heap):Prop where
 kin:K.In base
 ns:base.Ns mainGlobals mg
structure EE(X:Cx)(P:Program)(w:World)(K:ij)(mg:SD)(base:Heap):Prop where
 e1:X.prog=P
 e2:X.w=w
 e3:X.K=K
 e4:X.mg=mg
 e5:X.base=base
 b:Ba P w K mg base
section
variable{P:Program}{w:World}{K:ij}{mg:SD}{base:Heap}{X:Cx}
def EE.n(e:EE X P w K mg base){x:Str}(z:Zn K x):Nn X x:=by show X.mg x=Y;rw[e.e4];exact PySem.W.mg_none_of e.b.kin e.b.ns z
def FnAt.c{x:Str}{g:R5}{F:R4->MH->SX}{i j:Nat}(a:FnAt P w K mg base x g F i)(e:EE X P w K mg base)(h:i<=j:=by decide):Cal X x g F j :=
 (a.mono h).cal e.e1 e.e2 e.e3 e.e4 e.e5
def v_{x:Str}{st:Stmt}{N G ps:R5}{m:kl}{k:Nat}(b:Ba P w K mg base)(D:e_ K x st)(j:∀X:Cx,EE X P w K mg base->Sc X st->Gd X N G k->io X->n5 X (aJ st) m)(B:nS x st ps:=by first | exact λ_ _ _ _ _ _=>Rn λ_=>rfl | exact λ_ _ _ _ _ _=>RQ λ_ _=>rfl | exact λ_ _ _ _ _ _=>RT λ_ _ _=>rfl | exact λ_ _ _ _ _ _=>ar4 λ_ _ _ _=>rfl | exact λ_ _ _ _ _ _=>ar5 λ_ _ _ _ _=>rfl)(S:wr N ps (aM st):=by exact⟨rfl,rfl,rfl,by decide +kernel,rfl,by decide +kernel,by decide +kernel⟩)(i:∀y∈N,(aM st).names.lookup y=J .local\/(aM st).names.lookup y=J .cell:=by decide +kernel)(a:∀y∈G,(aM st).names.lookup y=J .globalImplicit:=by decide +kernel)(dbg:∀x∈N++G,(x==("__debug__":Str))=T/\(x==("__classdict__":Str))=T/\x≠"__name__":=by decide +kernel):
  FnAt P w K mg base x ps (bc N.length ps.length m) (k+1) :=
 IY b.kin b.ns D S B i a dbg λX e1 e2 e3 e4 e5 e g l=>j X ⟨e1,e2,e3,e4,e5,b⟩ e g l
end
structure YE(Y X:Cx):Prop where
 e1:Y.prog=X.prog
 e2:Y.w=X.w
 e3:Y.K=X.K
 e4:Y.mg=X.mg
 e5:Y.base=X.base
section
variable{X Y:Cx}{N W G:R5}{k:Nat}{x:Str}{p pos:Pos}{e:Expr}{es:SW}{m:Mx (R4)}{f:R4->MH->SX}
def YE.n(y:YE Y X)(h:X.mg x=none):Y.mg x=none:=y.e4.symm▸h
def YE.c(y:YE Y X){a:R5}{F:R4->MH->SX}{i:Nat}(c:Cal X x a F i):Cal Y x a F i:=c.at y.e1 y.e2 y.e3 y.e4 y.e5
def kV(g:Good X N W G k)(i:Nat)(a:N[i]?=J x:=by rfl):ME X (.Name x pos) (af i):=II g i a
def n6(g:Good X N W G k)(i:Nat)(j:N[i]?=J x:=by rfl)(a:W[i]?=J x:=by rfl):MG X (.Name x pos) (m_ i):=FI g i j a
def qk{a b:Expr}{g mb:Mx PV}(l:ME X a g)(j:ME X b mb)(i:nM b:=by exact λ_ _=>rfl):ME X (.Subscript a b pos) (ai aL g mb):=Hi l j i
def K2{g:CmpOp}{f:PV->PV->MH->SX}{a b:Expr}{i mb:Mx PV}(l:BR X (compareOp g) f)(r:ME X a i)(o:ME X b mb)(j:behindInMarks g b=T:=by first | exact EK _ | rfl):ME X (.Compare a [g] [b] pos) (ai f i mb):=IJ l r o j
def t_{g:CmpOp}{f:PV->PV->MH->SX}{a b:Expr}{i mb:Mx PV}(l:BR X (compareOp g) f)(r:ME X a i)(o:ME X b mb)(j:behindInMarks g b=T:=by first | exact EK _ | rfl):MT X (.Compare a [g] [b] pos) (mB (ai f i mb)):=IK l r o j
def nj(g:Good X N W G k)(j:Nat){l:R5}{F:R4->MH->SX}(C:Cal X x l F k)(r:MA X (e::es) m)(i:G[j]?=J x:=by rfl)(o:starEach (e::es) X.env=(T,eval e X.env)::starEach es X.env:=by rfl)(a:(backTo pos (starEach es X.env)).any (·.1)=T:=by rfl):ME X (.Call (.Name x p) (e::es) [] pos) (aF F m):=FL g i C r o a
def Dc{id:String}(g:Good X N W G k)(j:Nat)(l:di X (.builtin id) f)(i:X.mg x=none)(hv:bootBuiltins x=J (.builtin id))(s:MA X (e::es) m)(o:G[j]?=J x:=by rfl)(r:starEach (e::es) X.env=(T,eval e X.env)::starEach es X.env:=by rfl)(a:(backTo pos (starEach es X.env)).any (·.1)=T:=by rfl):ME X (.Call (.Name x p) (e::es) [] pos) (lx f m):=BE g j o l i hv s r a
def Er{a:String}(g:Good X N W G k)(j:Nat)(o:di X (.type a) f)(l:X.mg x=none)(hv:bootBuiltins x=J (.type a))(t:MA X (e::es) m)(r:G[j]?=J x:=by rfl)(s:starEach (e::es) X.env=(T,eval e X.env)::starEach es X.env:=by rfl)(i:(backTo pos (starEach es X.env)).any (·.1)=T:=by rfl):ME X (.Call (.Name x p) (e::es) [] pos) (lx f m):=zZ g j r o l hv t s i
def Ni{o a:Expr}(g:Good X N W G k)(j:Nat)(i:X.mg "range"=none)(s:MA X [a] m)(l:G[j]?=J "range":=by rfl)(r:starEach [a] X.env=[(T,eval a X.env)]:=by rfl):MI X o (.Call (.Name "range" p) [a] [] pos) (gi m):=Ag (g.gl _ (aA l)) i s r
def RU{r a b:Expr}(g:Good X N W G k)(j:Nat)(l:X.mg "range"=none)(t:MA X [a,b] m)(o:G[j]?=J "range":=by rfl)(s:starEach [a,b] X.env=[(T,eval a X.env),(T,eval b X.env)]:=by rfl)(i:starEach [b] X.env=[(T,eval b X.env)]:=by rfl):MI X r (.Call (.Name "range" p) [a,b] [] pos) (uz m):=Ap (g.gl _ (aA o)) l t s i
def Ol{i:SW}{r:Nat}{l:Pos}{a:Expr}(g:Good X N W G k)(j:Nat)(o:X.mg "enumerate"=none)(u:MA X [a] m)(s:G[j]?=J (("enumerate":String):Str):=by rfl)(t:starEach [a] X.env=[(T,eval a X.env)]:=by rfl):MI X (.Tuple i r l) (.Call (.Name "enumerate" p) [a] [] pos) (rk m):=Gi g s o u t
section
variable{tg iter elt:Expr}{ifs:SW}{scope sc:Scope}{mi:Mx MIt}{gt:Mg}{mt:Mx Bool}{me:Mx PV}
def Es(g:Good X N W G k)(j:X.env.scope=sc)(a frees o:R5)(fm:R8)(r:MI X tg iter mi)(F:∀Y:Cx,YE Y X->Good Y (a++frees) a o k->MG Y tg gt/\Ja Y ifs mt/\ME Y elt me)(E:scope.kind=.function:=by rfl)(z:fm.map (λi=>N[i]?)=frees.map J:=by rfl)(h:Qj scope sc a frees:=by decide +kernel)(nd:(a++frees).Nodup:=by decide +kernel)(l:∀x∈o,scope.names.lookup x=J .globalImplicit:=by decide +kernel)(dbg:∀x∈(a++frees)++o,(x==("__debug__":Str))=T/\(x==("__classdict__":Str))=T/\x≠"__name__":=by decide +kernel)(u:∀x,foldedSetIterable iter X.env x=pure x:=by exact λ_=>rfl):ME X (.ListComp elt [⟨tg,iter,ifs,0⟩] scope pos) (bF a.length fm mi gt mt me) :=
 FO g (wT j E z h) nd l dbg r (λY y B s t C _ g=>F Y ⟨y,B,s,t,C⟩ g) u
def Nj{j py:Pos}{y:Str}(g:Good X N W G k)(l:X.env.scope=sc)(i:Nat)(a frees t:R5)(fm:R8)(u:MI X tg iter mi)(P:∀Y:Cx,YE Y X->Good Y (a++frees) a t k->MG Y tg gt/\Ja Y ifs mt/\ME Y elt me)(o:∀env:Env,env.scope=sc->swapsWith (.ListComp elt [⟨tg,iter,ifs,0⟩] scope pos) (J (.Name y py)) j.line env=pure I:=by(intro env h;cases env;cases h;rfl))(r:N[i]?=J y:=by rfl)(M:W[i]?=J y:=by rfl)(O:scope.kind=.function:=by rfl)(F:fm.map (λi=>N[i]?)=frees.map J:=by rfl)(h:Qj scope sc a frees:=by decide +kernel)(nd:(a++frees).Nodup:=by decide +kernel)(s:∀x∈t,scope.names.lookup x=J .globalImplicit:=by decide +kernel)(dbg:∀x∈(a++frees)++t,(x==("__debug__":Str))=T/\(x==("__classdict__":Str))=T/\x≠"__name__":=by decide +kernel)(C:∀x,foldedSetIterable iter X.env x=pure x:=by exact λ_=>rfl):MS X (.Assign [.Name y py] (.ListComp elt [⟨tg,iter,ifs,0⟩] scope pos) j) (aO i (bF a.length fm mi gt mt me)) :=
 FP g i r M (o X.env l) (wT l O F h) nd s dbg u (λY E H z B L _ g=>P Y ⟨E,H,z,B,L⟩ g) C
end
end
abbrev Be:=@PyProof.Rows.Boot.«abs»
abbrev mU:=@PyProof.Rows.Boot.«min»
abbrev Ah:=@PyProof.Rows.Boot.«max»
abbrev j8:=@PyProof.Rows.Boot.«int»
abbrev gO:=@PyProof.Rows.Boot.«len»
abbrev dr:=@PyProof.Rows.Boot.«list»
abbrev i5:=@PyProof.Rows.Boot.«tuple»
abbrev uQ:=@PyProof.Rows.Boot.«all»
abbrev Ax:=@PyProof.Rows.Boot.«sorted»
abbrev yh:=@PyProof.Rows.Boot.«bool»
abbrev ug:=@PyProof.Rows.Boot.«ValueError»
abbrev jp:=@PySem.F.slot_list_append
abbrev jB:=@PySem.F.type_list_append
abbrev gP:=@PySem.F.slot_list_extend
abbrev gZ:=@PySem.F.type_list_extend
abbrev zL:=@PySem.F.slot_list_insert
abbrev Am:=@PySem.F.type_list_insert
abbrev kJ:=@PySem.F.slot_list_index
abbrev kW:=@PySem.F.type_list_index
end MM
namespace PU
open MM
open L2 (yU nw fG)
noncomputable section
section
variable{ws:R8}
end
end
noncomputable section
end
noncomputable section
end
section
variable{ws:R8}
end
end PU
namespace PU
open MM L2
def Ro{u ws':R8}(i:Nat)(b:Xd ws')(U:u.contains i=I:=by exact ys rfl)(hw:u.filter (· != i)=ws':=by exact ys rfl):Xd u where
 m:=b.m
 p:=λenv s=>match env[i]? with
  |some (J _)=>(match b.p env s with|.rt d s=>.rt d s|_=>.bad)
  |_=>.bad
 fr:=b.fr
 ok {q h L B O Z env s} c d:=by
  show SOk q L h B O u b.fr (b.m Z h) (match env[i]? with|some (J _)=>(match b.p env s with|.rt d s=>PS.rt d s|_=>.bad)|_=>.bad)
  cases e:env[i]? with
  |none=>trivial
  |some o =>
   cases o with
   |none=>trivial
   |some x =>
    have F:i∈u:=by simpa using U
    obtain⟨n,xs,ds,e1,e2,a,bb,g,r⟩:=c.sr.ow i x e F;have G:∀j,j∈ws'↔j∈u/\j≠i:=λj=>by rw[<-hw];simp
    have mo:∀o,o∈O.filter (· != n)↔o∈O/\o≠n:=λo=>by simp
    have mv:Mv O h (O.filter (· != n)) h:=⟨λ_ _ _=>rfl,λo t=>.inl ((mo o).mp t).1⟩;have W:Cx q h L B (O.filter (· != n)) ws' Z env s:=by
     refine⟨λo t=>c.bd o ((mo o).mp t).1,λo t=>(mo o).mpr ⟨c.sub o t,λz=>by have:=c.bb o t;lia⟩,c.bb,c.pb,c.hL,c.pen,c.sr.len,λj y l C=>?_,λj y l C=>?_⟩
     .by_cases z:j=i
      .subst z;rw[e]at l;cases l;subst e1;exact⟨_,e2,n,xs,rfl,λz=>((mo n).mp z).2 rfl,g,r.mv mv⟩
      .obtain⟨v,e3,q⟩:=c.sr.fz j y l λz'=>C ((G j).mpr ⟨z',z⟩);exact⟨v,e3,q.mv mv⟩
     .obtain⟨E,M⟩:=(G j).mp C;obtain⟨Q,P,H,e3,e4,S,R,g',r'⟩:=c.sr.ow j y l E;refine⟨Q,P,H,e3,e4,(mo Q).mpr ⟨S,λz=>?_⟩,R,g',r'.mv mv⟩;subst z;exact d i j F E (Ne.symm M) x y _ e l e2 e4
    have X:Dis ws' Z env:=λj k C hk=>d j k ((G j).mp C).1 ((G k).mp hk).1;have k:=b.ok W X
    cases ep:b.p env s with
    |rt d s=>rw[ep]at k;exact k
    |_=>trivial
def Nk{g a:R8}{i:Nat}{b:Xd a}{j:g.contains i=I}{l:g.filter (· != i)=a}{env:aE}{s s':h8}{x d:D}(e:env[i]?=J (J x))(h:b.p env s=.rt d s'):(Ro i b j l).p env s=.rt d s':=by show(match env[i]? with|some (J _)=>(match b.p env s with|.rt d s=>PS.rt d s|_=>.bad)|_=>.bad)=_;rw[e,h]
noncomputable section
end
end PU
namespace SetT
open PySem.SetTable PyProof.Rows
def jW(a:R6)(k:Int):R6:=if k∈a then a else a++[k]
def cQ(l:R6):R6:=l.foldl jW []
def Bq{l:R6}{i:Nat}{k:Int}(h:l[i]?=J k):cQ (l.take (i+1))=jW (cQ (l.take i)) k:=by rw[KG,h];delta cQ;rw[NE];rfl
def Ci(l:R6):∀a:R6,(l.foldl jW a).length<=a.length+l.length:=by
 induction l with
 |nil=>intro a;exact i3 _
 |cons k l g =>
  intro a
  have:=g (jW a k)
  have e:(jW a k).length<=a.length+1:=by delta jW;split<;>simp
  rw[NG,C1];lia
def yg(l:R6):(cQ l).length<=l.length:=by have:=Ci l [];simpa [cQ]using this
def Lw(ns:R6):Prop:=∀n∈ns,0<=n/\n<12
abbrev tn(p:Int×Tok):Nat:=p.1.toNat
def EW:R8->List (R8)
 |[]=>[[]]
 |a::r=>EW r++(EW r).map (a::·)
def BI{l r:R8}(h:l.Sublist r):l∈EW r:=by
 induction h with
 |slnil=>simp[EW]
 |cons a _ e=>exact C7 _ e
 |cons_cons a _ e=>exact n4 _ (mx.mpr ⟨_,e,rfl⟩)
def pB:∀(m a:Nat)(l:R8),l.Pairwise (·<·)->(∀x∈l,a<=x/\x<a+m)->l.Sublist (List.range' a m)
 |_,_,[],_,_=>List.nil_sublist _
 |0,a,x::l,_,h=>by have:=h x (by simp);lia
 |m+1,a,x::l,i,h=>by
  have j:=h x (by simp);by_cases e:x=a
  .subst e
   exact (pB m (x+1) l (E2.mp i).2 λy g=>by
    have:=(E2.mp i).1 y g
    have:=h y (by simp[g])
    lia).cons_cons x
  .exact (pB m (a+1) (x::l) i λy g=>by
    have:=h y g
    rcases nk.mp g with rfl|g
    .lia
    .have:=(E2.mp i).1 y g;lia).cons a
def Qk(f v:Nat)(l p:Bool):Bool:=((EW (List.range' 0 8)).filter (·.length<=4)).all λa=>(List.range 12).all λk=>match SetTable.freeSlot ⟨7,a.toArray,#[],f,l,v,p⟩ (hashInt (k:Nat)) with
 |some (j,T)=>decide (j<=7) && !a.contains j
 |_=>T
set_option maxHeartbeats 8000000 in
theorem Kc(f v:Nat)(l p:Bool):Qk f v l p=I:=by kernel_rfl
def Gy{xs:Array Nat}(h:dY xs):xs.toList.Pairwise (·<·) :=
 G1.mpr λi j g e a=>h i j _ _ a (by simp) (by simp)
def xa{xs:Array Nat}{j:Nat}:Ce xs j↔j∈xs.toList:=by delta Ce;rw[C6];simp
def qY{k:Int}(h:0<=k/\k<12):∃n:Nat,k=n/\n<12:=⟨k.toNat,⋯,⋯⟩
def Nl{t:SetTable}{k:Int}(i:t.mask=7)(hd:t.dummies=#[])(C:dY t.place)(s:t.place.size<=4)(g:∀x∈t.place.toList,x<=7)(B:0<=k/\k<12):
  ∃j,t.freeSlot (hashInt k)=J (j,T)/\j<=7/\¬Ce t.place j:=by
 obtain⟨n,rfl,u⟩:=qY B;obtain⟨m,r,d,f,l,v,p⟩:=t;subst i hd;have c:=Kc f v l p;have y:=HR.mp c r.toList (E4.mpr ⟨BI (pB 8 0 _ (Gy C) λx z=>by have:=g x z;lia),by simpa using s⟩);have a:=HR.mp y n (Ey.mpr u)
 split at a
 .rename_i j e
  simp only[G8,decide_eq_true_eq,G4,List.contains_eq_mem,decide_eq_false_iff_not]at a;exact⟨j,e,a.1,λo=>a.2 (xa.mp o)⟩
 .cases a
def wp{n:Nat}(a:n<12):bits (hashInt n)=n:=by
 have:n=0\/n=1\/n=2\/n=3\/n=4\/n=5\/n=6\/n=7\/n=8\/n=9\/n=10\/n=11:=by lia
 rcases this with rfl|rfl|rfl|rfl|rfl|rfl|rfl|rfl|rfl|rfl|rfl|rfl<;>decide
def Ke{t:SetTable}{n:Nat}(g:t.mask=31)(hd:t.dummies=#[])(e:n<12)(a:¬Ce t.place n):t.freeSlot (hashInt n)=J (n,T):=by unfold SetTable.freeSlot SetTable.probe SetTable.probeStart turns;rw[wp e,g,Nat.mod_eq_of_lt ⋯];unfold SetTable.probe.go;rw[qO t hd n a];rfl
def Kf(ns:R8)(B:∀n∈ns,n<12)(hd:ns.Nodup):∃ow:Array (SG),layClean 31 (ns.map λn:Nat=>hashInt n).toArray=J ow/\ow.size=32/\∀j i:Nat,ow[j]?=J (J i)↔ns[i]?=J j:=by
 suffices H:∃ow:Array (SG),(ns.map λn:Nat=>hashInt n).foldl (init:=J (Array.replicate 32 Y,0)) (λs h=>do
  let(owner,k) <-s
  let j <-layClean.free 31 owner (turns 31) (bits h % (31+1)) (bits h)
  pure (owner.setIfInBounds j (J k),k+1))=J (ow,ns.length)/\ow.size=32/\∀j i:Nat,ow[j]?=J (J i)↔ns[i]?=J j by
  obtain⟨ow,e,r⟩:=H;refine⟨ow,?_,r⟩;unfold layClean;rw[List.foldl_toArray];exact congrArg (Option.map (·.1)) e
 generalize g:ns.length=y
 induction y generalizing ns with
 |zero =>
  cases K6.mp g;refine⟨_,rfl,by simp,λj i=>?_⟩;simp[Qy]
 |succ y E =>
  obtain C|⟨ns,k,rfl⟩:=List.eq_nil_or_concat ns
  .rw[C]at g;cases g
  rw[List.concat_eq_append]at *;have o:ns.length=y:=by simpa using g
  subst o;obtain⟨u,_,t⟩:=G3.mp hd;obtain⟨ow,e,z,r⟩:=E ns (λn h=>B n (by simp[h])) u rfl;have M:k<12:=B k (by simp);have a:k∉ns:=λh=>t k h k (by simp) rfl;have F:ow[k]?=J Y:=by
   cases q:ow[k]? with
   |none=>simp at q;lia
   |some x =>
    cases x with
    |none=>rfl
    |some i=>exact absurd (Dm ((r k i).mp q)) a
  refine⟨ow.setIfInBounds k (J ns.length),?_,by simpa using z,λj i=>?_⟩
  .rw[Ek,NE,e]
   show (do
    let j <-layClean.free 31 ow (turns 31) (bits (hashInt k) % (31+1)) (bits (hashInt k))
    pure (ow.setIfInBounds j (J ns.length),ns.length+1))=_
   have:layClean.free 31 ow (turns 31) (bits (hashInt k) % (31+1)) (bits (hashInt k))=J k:=by rw[wp M,Nat.mod_eq_of_lt ⋯,show turns 31=45+1 by rfl];unfold layClean.free;obtain⟨m,G⟩:∃m,runEnd 31 k+1-k=m+1:=⟨runEnd 31 k-k,by unfold runEnd;split<;>lia⟩;rw[G,OA,List.find?_cons];simp[F]
   rw[this];simp
  .rw[Array.getElem?_setIfInBounds];by_cases q:k=j
   .subst q;simp only[if_true,z];rw[c_ ⋯];constructor
    .intro h;cases h;simp
    .intro h;by_cases l:i<ns.length
     .rw[yS l]at h;exact absurd (Dm h) a
     .by_cases L:i=ns.length
      .rw[L]
      .rw[Eh (by simp;lia)]at h;cases h
   .rw[f_ q,r j i];by_cases l:i<ns.length
    .rw[yS l]
    .rw[Eh ⋯,DG ⋯];constructor
     .intro h;cases h
     .intro h;rw[List.getElem?_singleton]at h
      split at h
      .cases h;exact absurd rfl q
      .cases h
def Kg(l:List (Int×Tok))(B:Array (Int×Value))(t:B.toList=l.map λp=>(hashInt p.1,Value.int p.1 p.2))(Z:Lw (l.map (·.1)))(hd:(l.map (·.1)).Nodup)(fin mv:Nat)(led s:Bool):
  ∃(o:Array Nat)(G:List (Int×Tok)),laid 31 fin mv led s (B.map (·.1))=J ({ mask:=31,place:=(G.map tn).toArray,dummies:=#[],finger:=fin,led:=led,moves:=mv,plain:=s},o)
   /\ o.toList.Perm (List.range B.size)/\(o.filterMap (B[·]?)).toList=G.map (λp=>(hashInt p.1,Value.int p.1 p.2))/\G.Perm l/\(G.map tn).Pairwise (·<·):=by
 have H:∀p∈l,0<=p.1/\p.1<12:=λp u=>Z p.1 (mx.mpr ⟨p,u,rfl⟩);have W:B.map (·.1)=((l.map tn).map λn:Nat=>hashInt n).toArray:=by
  apply Ff.mp;rw[Array.toList_map,t,zi,zi];exact HM λp u=>by
   have:=H p u
   show hashInt p.1=hashInt ((p.1.toNat:Nat):Int);rw[Int.toNat_of_nonneg this.1]
 have nd:(l.map tn).Nodup:=by rw[Qx,G6]at hd ⊢;exact hd.imp_of_mem λ{a b} M E h q=>h (by have:=H a M;have:=H b E;have q:a.1.toNat=b.1.toNat:=q;lia)
 obtain⟨ow,e1,z,r⟩:=Kf (l.map tn) (λn h=>by obtain⟨p,u,rfl⟩:=mx.mp h;have:=H p u;show p.1.toNat<12;lia) nd;have C:B.size=l.length:=by rw[<-z_,t,tu]
 let f:Nat->Option (Nat×Nat):=λj=>(ow.getD j Y).map (j,·)
 have hf:∀j x,f j=J x->x.1=j/\(l.map tn)[x.2]?=J x.1:=λj x h=>by
  have h:(ow.getD j Y).map (j,·)=J x:=h;rw[Qu]at h
  cases q:ow[j]? with
  |none=>rw[q]at h;cases h
  |some y =>
   cases y with
   |none=>rw[q]at h;cases h
   |some i=>rw[q]at h;cases h;exact⟨rfl,(r j i).mp q⟩
 have L:=(Nx (n:=32)).filterMap f (S:=λa b:Nat×Nat=>a.1<b.1) λa a' F b E X P=>by rw[(hf a b E).1,(hf a' X P).1];exact F
 have mem:∀x,x∈(List.range 32).filterMap f↔(l.map tn)[x.2]?=J x.1:=λx=>by
  rw[Ev];constructor
  .rintro⟨j,_,h⟩;exact(hf j x h).2
  .intro h;have q:=(r x.1 x.2).mpr h;have F:x.1<ow.size:=by rw[Ky]at q;exact q.1
   refine⟨x.1,Ey.mpr ⋯,?_⟩;show(ow.getD x.1 Y).map (x.1,·)=_;rw[Qu,q];rfl
 generalize hL:(List.range 32).filterMap f=g at L mem;have Q:(g.map (·.2)).Perm (List.range B.size):=by
  refine(Qw ?_ NF).mpr λi=>?_
  .rw[Qx,G6];exact L.imp_of_mem λ{a b} M E h q=>by
    have R:=(mem a).mp M;rw[q,(mem b).mp E]at R
    have:=Option.some.inj R
    lia
  .rw[mx,Ey,C];constructor
   .rintro⟨x,O,rfl⟩
    have:=(mw.mp ((mem x).mp O)).1
    simpa using this
   .intro h;exact⟨((l.map tn)[i]'(by simpa using h),i),(mem _).mpr (C5 _),rfl⟩
 have gl:∀x∈g,∃p,l[x.2]?=J p/\tn p=x.1:=λx O=>by
  have:=(mem x).mp O
  rw[yT,y9]at this;exact this
 have e3:((g.map (·.2)).filterMap (l[·]?)).map tn=g.map (·.1):=by
  clear Q L mem hL
  induction g with
  |nil=>rfl
  |cons x g ih =>
   obtain⟨p,u,e⟩:=gl x (by simp);rw[wj,Lb,u,wj,wj,e,ih λy U=>gl y (by simp[U])]
 refine⟨(g.map (·.2)).toArray,(g.map (·.2)).filterMap (l[·]?),?_,Q,?_,?_,?_⟩
 .rw[W];unfold laid;rw[e1];show J (_,_)=J (_,_);show J (({ mask:=31,place:=(((List.range 32).filterMap f).map (·.1)).toArray,dummies:=#[],finger:=fin,led:=led,moves:=mv,plain:=s}:SetTable),(((List.range 32).filterMap f).map (·.2)).toArray)=_;rw[hL,e3]
 .rw[Array.toList_filterMap,List.map_filterMap];refine congrArg (List.filterMap · _) (funext λi=>?_);rw[<-BC,t,yT]
 .have:=Q.filterMap (l[·]?)
  rw[C]at this;refine this.trans (List.Perm.of_eq ?_)
  have:=ii l.toArray
  simpa using this
 .rw[e3,G6];exact L
section
variable{prog:Program}{w:World}{A:Around}{E:SA}{s:Shared}
def IS(prog:Program)(w:World)(S:Addr)(ns:R6)(h:Heap):Prop :=
 ∃o a e t,h.get? S=J o/\o.ExactSet/\o.data=.set a e t/\t.dummies=#[]/\t.plain=I/\t.led=bg w/\dY t.place/\t.place.size=a.size/\∃l:List (Int×Tok),a.toList=l.map (λp=>(hashInt p.1,Value.int p.1 p.2))/\(l.map (·.1)).Perm ns/\ns.Nodup/\Lw ns /\
  (t.mask=7/\a.size<=4/\(∀x∈t.place.toList,x<=7)\/t.mask=31/\t.place.toList=l.map tn)
def lY{S:Addr}{ns:R6}{a e:Heap}(p:IS prog w S ns a)(k:∀o,a.get? S=J o->e.get? S=J o):IS prog w S ns e:=by obtain⟨o,j,i,t,g,r⟩:=p;exact⟨o,j,i,t,k o g,r⟩
def qV{ns:R6}(h:Lw ns)(hd:ns.Nodup):ns.length<=12:=by
 have:=List.Nodup.length_le_of_subset hd λx e=>by
  obtain⟨n,rfl,a⟩:=qY (h x e);exact mx.mpr ⟨n,Ey.mpr a,rfl⟩
 simpa using this
def C0{l:List (Int×Tok)}:ElemsOf (intKind prog w) (l.map (λp=>(hashInt p.1,Value.int p.1 p.2))):=λe a=>by
 obtain⟨p,_,rfl⟩:=mx.mp a;exact⟨⟨p.1,intKind_is _ _ _ _,rfl⟩,rfl⟩
def wJ{g:Array (Int×Value)}{l:List (Int×Tok)}(e:g.toList=l.map (λp=>(hashInt p.1,Value.int p.1 p.2)))(p:Nat)(k:Int)(a:Tok):
  (insertAt g p (hashInt k,.int k a)).toList=(l.take p++(k,a)::l.drop p).map (λp=>(hashInt p.1,Value.int p.1 p.2)):=by
 rw[SetTable.toList_insertAt,e,<-ON,<-OO,Ek,wj]
def Ql{S:Addr}{ns:R6}{k:Int}{L:Tok}{Q:Bool->Shared->Prop}(a3:IS prog w S ns s.heap)(U:0<=k/\k<12)(h:∀b h',Heap.SameBut S s.heap h'->IS prog w S (jW ns k) h'->Q b { s with heap:=h'}):
  wpAny (model prog w) A (setAddHashed S (.int k L) (hashInt k)) Q E s:=by
 obtain⟨o,C,ep,t,ho,a5,hd,F,ay,an,ap,as,l,hl,R,bm,a0,M⟩:=id a3;have b6:C.size=ns.length:=by rw[<-z_,hl,tu,<-R.length_eq,tu]
 have ch:=qV a0 bm;have a8:C.size<=t.mask:=by rcases M with⟨e,_,_⟩|⟨e,_⟩<;>lia
 have hf:t.fits C.size=I:=by unfold SetTable.fits SetTable.fill;simp[as,F];exact a8
 have a2:ElemsOf (intKind prog w) C.toList:=by rw[hl];exact C0
 have bt:C.size<scanBound:=by unfold scanBound;lia
 refine wpAny_holding (d_ (wpAny_setState_of ho hd hf ?_));dsimp only;rw[byScan_of (knd:=intKind prog w) (show(Value.int k L).scannable=I from rfl) bt a2];refine d_ ?_;refine d_ (wpAny_rule ?_);refine d_ (wpAny_setScan_of (knd:=intKind prog w) (k:=k) (intKind_is _ _ _ _) ho hd hf a2 ?_)
 cases hq:List.findIdx? (λe=>(intKind prog w).is k e.2) C.toList with
 |some j =>
  obtain⟨hj,a1,_⟩:=List.findIdx?_eq_some_iff_getElem.mp hq;have hk:k∈ns:=by
   refine R.mem_iff.mp ?_;obtain⟨p,hp,e⟩:=mx.mp (show C.toList[j]∈l.map (λp=>(hashInt p.1,Value.int p.1 p.2))from(congrArg (C.toList[j]∈·) hl).mp (Ex hj));refine mx.mpr ⟨p,hp,?_⟩;have e2:(C.toList[j]).2=Value.int p.1 p.2:=by rw[<-e]
   rw[e2]at a1;exact(intKind prog w).inj _ _ _ (intKind_is _ _ _ _) a1
  refine il (il ?_)
  have:=h T s.heap (Heap.SameBut.refl _ _)
  unfold jW at this;rw[c_ hk]at this;exact this a3
 |none =>
  dsimp only;have hk:k∉ns:=λhk=>by
   obtain⟨p,hp,e⟩:=mx.mp (R.mem_iff.mpr hk)
   have:=List.findIdx?_eq_none_iff.mp hq (hashInt p.1,Value.int p.1 p.2) (by rw[hl];exact mx.mpr ⟨p,hp,rfl⟩)
   rw[e,intKind_is]at this;cases this
  have hj:∃j,t.freeSlot (hashInt k)=J (j,T)/\¬Ce t.place j/\(t.mask=7/\j<=7\/t.mask=31/\j=k.toNat):=by
   rcases M with⟨e,h4,h7⟩|⟨e,hp⟩
   .obtain⟨j,a,b,c⟩:=Nl e F ap ⋯ h7 U;exact⟨j,a,c,.inl ⟨e,b⟩⟩
   .obtain⟨n,rfl,hn⟩:=qY U;have X:¬Ce t.place n:=λo=>by
     rw[xa,hp]at o;obtain⟨p,b3,e'⟩:=mx.mp o;have m:=R.mem_iff.mp (mx.mpr ⟨p,b3,rfl⟩)
     have:=a0 _ m
     have e':p.1.toNat=n:=e';exact hk (by rw[show(n:Int)=p.1 by lia];exact m)
    exact⟨n,Ke e F hn X,X,.inr ⟨e,rfl⟩⟩
  obtain⟨j,ax,X,cc⟩:=hj;have hp:=(dH t.place j ap).1;have O:=cA C (below t.place j) (hashInt k,Value.int k L) ⋯;have a9:=cA t.place (below t.place j) j hp;have bx:=v6 t.place j ap X;have P:=wJ hl (below t.place j) k L;have b1:(insertAt t.place (below t.place j) j).toList=t.place.toList.take (below t.place j)++j::t.place.toList.drop (below t.place j):=SetTable.toList_insertAt _ _ _;have a7:t.put j=({ t with place:=insertAt t.place (below t.place j) j},below t.place j):=by delta SetTable.put;simp only[F,qR,pu,if_false]
  generalize cm:below t.place j=b at *;have B:((l.take b++(k,L)::l.drop b).map (·.1)).Perm (ns++[k]):=by
   have a:(l.take b++(k,L)::l.drop b).Perm (l++[(k,L)]):=by have h1:=KC (a:=(k,L)) (l₁:=l.take b) (l₂:=l.drop b);rw[Fc]at h1;exact h1.trans (Ot _ l).symm
   have b:=a.map (·.1);rw[Ek (l₁:=l)]at b;exact b.trans (R.append_right [k])
  have G:(ns++[k]).Nodup:=by
   rw[G3];refine⟨bm,by simp,λx z y hy=>?_⟩
   have:y=k:=by simpa using hy
   subst this;rintro rfl;exact hk z
  have H:Lw (ns++[k]):=λx z=>by
   rcases n9.mp z with z|z
   .exact a0 x z
   .rw[G2.mp z];exact U
  have b0:=qV H G;rw[DO,List.length_singleton]at b0;have al:t.mask=7/\C.size<=4/\(∀x∈(insertAt t.place b j).toList,x<=7)\/t.mask=31/\(insertAt t.place b j).toList=(l.take b++(k,L)::l.drop b).map tn:=by
   rw[b1];rcases M with⟨e,h4,h7⟩|⟨e,hp⟩
   .refine .inl ⟨e,h4,λx z=>?_⟩;rcases n9.mp z with z|z
    .exact h7 x (NA z)
    .rcases nk.mp z with rfl|z
     .lia
     .exact h7 x (HJ z)
   .refine .inr ⟨e,?_⟩;rw[hp,Ek,wj,ON,OO,show j=tn (k,L) by show j=k.toNat;lia]
  generalize b2:insertAt C b (hashInt k,Value.int k L)=i at O P;generalize ca:insertAt t.place b j=r at *;generalize cb:l.take b++(k,L)::l.drop b=l1 at B P al;have cf:i.size<=t.mask:=by rcases M with⟨e,_,_⟩|⟨e,_⟩<;>lia
  have a6:({ t with place:=r}:SetTable).fits i.size=I:=by unfold SetTable.fits SetTable.fill;simp[a9,O,as,F];lia
  have a4:layNew t C (hashInt k) (.int k L)=(i,{ t with place:=r},T,T):=by unfold layNew;rw[ax];dsimp only;rw[a7];dsimp only;rw[b2];unfold SetTable.orStandIn;rw[c_ a6,a6];rfl
  rw[a4];dsimp only;refine d_ (il (a:=()) ?_);rw[c_ ay];refine d_ ?_;rw[hashByValue_scannable 8 (show(Value.int k L).scannable=I from rfl)];refine il ?_;rw[c_ (by rfl)];refine d_ (wpAny_storeSet_of ho hd ?_ (by rw[O,sizeLine_eq];lia));have sb:=Heap.SameBut.update s.heap S (Obj.putSet i { t with place:=r});have hg:=jm (es':=i) (t':={ t with place:=r}) ho hd;have b4:jW ns k=ns++[k]:=by delta jW;rw[f_ hk]
  rw[b4]at h;have W:({ t with place:=r}:SetTable).fill=C.size+1:=by unfold SetTable.fill;show r.size+t.dummies.size=_;rw[F,a9,as];rfl
  by_cases g:({ t with place:=r}:SetTable).tooFull=I
  .have ab:(C.size+1)*5>=t.mask*3:=by
    unfold SetTable.tooFull at g;rw[W]at g;simpa using g
   rw[c_ (by rw[g];rfl)];have cd:t.mask=7:=by rcases M with⟨e,_,_⟩|⟨e,_⟩<;>lia
   have h5:i.size=5:=by rcases M with⟨e,_,_⟩|⟨e,_⟩<;>lia
   obtain⟨u,l2,e1,p2,Z,bf,bv⟩:=Kg l1 i P (λx z=>H x (B.mem_iff.mp z)) (B.nodup_iff.mpr G) t.finger (({ t with place:=r}:SetTable).movedTo 31) t.led t.plain;have z1:(u.filterMap (i[·]?)).size=i.size:=by rw[<-z_,Z,tu,bf.length_eq,<-z_,P,tu]
   have b5:relayAll { t with place:=r} i (SetTable.grown i.size)=(u.filterMap (i[·]?),{ mask:=31,place:=(l2.map tn).toArray,dummies:=#[],finger:=t.finger,led:=t.led,moves:=({ t with place:=r}:SetTable).movedTo 31,plain:=t.plain},T):=by
    unfold relayAll SetTable.relaid;rw[h5,Hn,show 32-1=31 from rfl];show(match laid 31 t.finger _ t.led t.plain (i.map λe=>e.1)with | some (t',u)=>_ | none=>_)=_;rw[e1];dsimp only;rw[h5]at p2 z1;rw[c_];have c1:coversAll u 5=I:=by unfold coversAll;exact List.isPerm_iff.mpr p2
    have c2:l2.length=5:=by rw[<-z1,<-z_,Z,tu]
    rw[c1,Bool.true_and,z1];unfold SetTable.fits SetTable.fill;simp[c2]
   rw[b5];dsimp only;refine d_ (il (a:=()) ?_);refine d_ (wpAny_storeSet_of hg rfl ?_ (by rw[z1,O,sizeLine_eq];lia));refine il (il (h I _ (sb.trans (Heap.SameBut.update _ _ _)) ?_));refine⟨_,_,_,_,jm hg rfl,a5,rfl,rfl,ay,an,wZ bv,?_,l2,Z,(bf.map (·.1)).trans B,G,H,.inr ⟨rfl,rfl⟩⟩;rw[<-z_ (xs:=Array.filterMap _ _),Z];simp
  .have ab:(C.size+1)*5<t.mask*3:=by
    unfold SetTable.tooFull at g;rw[W]at g;simpa using g
   rw[f_ (by simpa using g)];refine il (il (h I _ sb ⟨_,_,_,_,hg,a5,rfl,F,ay,an,bx,by rw[O];show r.size=_;lia,_,P,B,G,H,?_⟩));rcases al with⟨e,_,h7⟩|q
   .exact .inl ⟨e,⋯,h7⟩
   .exact .inr q
def CM{h:Heap}{S:Addr}(g:h.get? S=J (cK (bg w))):IS prog w S [] h :=
 ⟨_,#[],0,.fresh 0 0 (bg w),g,⟨rfl,rfl,rfl⟩,rfl,rfl,rfl,rfl,λa b u v _ e=>by simp[SetTable.fresh]at e,rfl,[],rfl,List.Perm.nil,NH,(λ_ h=>nomatch h),.inl ⟨rfl,by simp,λx h=>by simp[SetTable.fresh]at h⟩⟩
def uU{R:Result->Shared->Prop}{r:Addr}{fp z:SM}{G:Array GenState->Array GenState->Prop}{n:Nat}{P:Nat->Value->Prop}{St:Nat->Shared->Prop}(W:WalksS prog w A.in1 r fp z G n P St)(S:Addr)(y:S∉fp)(ns:R6)(hn:ns.length=n)(M:∀i v k,P i v->ns[i]?=J k->∃t,v=.int k t)(Z:Lw ns):
  ∀(c i:Nat)(s:Shared),n-i=c->i<=n->St i s->IS prog w S (cQ (ns.take i)) s.heap ->
   (∀a,Moved (S::z) G s a->IS prog w S (cQ ns) a.heap->R (.ok (.ret .none)) a) ->
   codeAny (model prog w) A (.builtin "set.update.loop" ⟨[.ref S,.ref r],[]⟩) R s:=by
 have u:S∉z:=λh=>y (W.sub _ h);have g:∀b∈z,b∈S::z:=λb C=>oh _ C;intro c
 induction c with
 |zero =>
  intro i s hc hi l U j;have e:i=n:=by lia
  subst e;refine codeAny_builtin F.entry_set_update_loop ?_;refine d_ (W.done s _ _ l λa O=>?_);rw[<-hn,KD]at U;exact il (j a (O.mono g) (lY U λo e=>O.heap S o u e))
 |succ c ih =>
  intro i s hc hi l U j;have H:i<n:=by lia
  refine codeAny_builtin F.entry_set_update_loop ?_;rw[Around.under_plainId F.plain_set_update_loop _];show wpAny _ A.in1 (pyNext (.ref r) >>= _) _ _ s;refine d_ (W.item i s _ _ H l λv a hP B O=>?_);obtain⟨k,hk⟩:∃k,ns[i]?=J k:=⟨_,C5 ⋯⟩;obtain⟨t,rfl⟩:=M i v k hP hk;have al:=lY U λo e=>O.heap S o u e;show wpAny _ A.in1 (holding [Value.int k t] (setAdd S (.int k t)) >>= _) _ _ a;refine d_ (wpAny_holding ?_);unfold setAdd;refine wpAny_holding ?_;refine d_ ((intKind prog w).pyHash (k:=k) (intKind_is _ _ _ _) ?_);refine Ql (s:={ a with toks:=a.toks+1}) al (Z k (Dm hk)) λb h' sb Q=>?_;rw[<-Bq hk]at Q;refine il ⟨plainId_quiet F.plain_set_update_loop _,ih (i+1) _ ⋯ H (W.frame _ a _ _ B (HU _) λb C o e=>?_) Q λab L X=>?_⟩
  .exact (sb.2 b (λq:b=S=>y (by rw[<-q];exact C))).trans e
  .refine j ab (Moved.trans W.gtrans ((O.mono g).then_heap (HU _) λb o C e=>?_) L) X;exact(sb.2 b (λq:b=S=>C (by rw[q];exact BD))).trans e
set_option maxHeartbeats 3200000 in
theorem uo{l:Addr}{items:Array Value}{ns:R6}{Q:SA}(hh:A.handled=Y)(hl:s.heap.IsList l items)(hI:IntsAre items.toList ns)(an:Lw ns)(h:∀(g:Heap)(Z:Nat),IS prog w s.heap.objs.size (cQ ns) g->Df s.heap g->Q (.ref s.heap.objs.size) { s with heap:=g,toks:=Z}):
  wpAny (model prog w) A (call (.type "set") [.ref l]) Q E s:=by
 obtain⟨c,tl,a8⟩:=PySem.F.called_set.mro;have ax:=PySem.F.called_set.made;have a5:=PySem.F.called_set.sub;refine wpAny_call (codeAny_of_tree ?_);show wpAny _ _ (callAny (.type "set") _) _ _ _;refine il ⟨Code.quiet_builtin _ (by decide +kernel),codeAny_builtin PySem.F.entry_type_call ?_⟩;rw[Around.under_plain (weight_type_call_type "set" [.ref l] []) rfl];have h1:=PySem.F.called_set.notType;have h2:=PySem.F.called_set.canCreate;have bv:=PySem.F.typeCall_set_1 (.ref l)
 repeat (any_goals (first | assumption | wp_step))
 refine codeAny_mono (vX (.ref l) (E:=E) (Q₁:=λobj y=>obj=.ref s.heap.objs.size/\y={ s with heap:=s.heap.push (cK (bg w))}) ⟨rfl,rfl⟩) λr y hr=>?_
 cases r with
 |error e=>exact hr
 |ok fl =>
  cases fl with
  |ret obj =>
   obtain⟨rfl,rfl⟩:=hr;have hS:(s.heap.push (cK (bg w))).get? s.heap.objs.size=J (cK (bg w)):=q0 _ rfl;have hT:Shared.TypeIs { s with heap:=s.heap.push (cK (bg w))} (.ref s.heap.objs.size) "set":=⟨_,hS,rfl⟩;have a9:=PySem.F.called_set.init.lookup;have bm:=PySem.F.called_set.init.bind (.ref s.heap.objs.size)
   repeat (any_goals (first | assumption | wp_step))
   refine codeAny_mono (codeAny_call_builtin (R:=wants (λr u=>r=.none/\∃g Z,u={ s with heap:=g,toks:=Z} /\
     IS prog w s.heap.objs.size (cQ ns) g/\Df s.heap g) E) PySem.F.called_set.init.plain PySem.F.entry_set_init (check_set_init_1 hT ?_)) λS u a=>?_
   .have bt:=hl;obtain⟨ol,U,L,nl,M⟩:=hl;obtain⟨a7,C,a1,j⟩:=ol;simp only at L M;subst L;subst M;have G:(s.heap.push (cK (bg w))).get? l=J { cls:=.type "list",dict:=C,data:=.seq items nl,slots:=j}:=ls _ U;have a4:=PySem.F.sub_list_set;have a6:=PySem.F.sub_list_frozenset;have bf:(Value.type "list" == Value.type "dict")=T:=by decide
    have W:(s.heap.push (cK (bg w))).IsList l items:=⟨_,G,rfl,nl,rfl⟩;unfold Builtin.«set.__init__» noKeywords Builtin.Frozenset.updateFrom;generalize a0:pyIter=PI
    wp_walk
    subst a0;refine wpAny_pyIter_list W ?_;refine d_ (wpAny_runValue ?_);have P:l<s.heap.objs.size:=ml U;have a2:A.in1.in1.in1.handled=Y:=by simp[hh]
    have F:(s.heap.push (cK (bg w))).objs.size=s.heap.objs.size+1:=by rw[DP]
    have H:l≠(s.heap.push (cK (bg w))).objs.size:=by rw[F];exact qp (G5 P)
    have ab:s.heap.objs.size∉[(s.heap.push (cK (bg w))).objs.size,l]:=by rw[F];simp only[nk,Ew,or_false,not_or];exact⟨qp (HQ _),Dv P⟩
    have O:ns.length=items.size:=by have:=IntsAre.length hI;rw[z_]at this;exact this.symm
    refine uU ((Walks.list a2 _ l H items).toS) s.heap.objs.size ab ns O
     (λi v k hv a3=>by
      obtain⟨t,e⟩:=IntsAre.int_at hI i v (by rw[BC];exact hv);rw[List.getD_eq_getElem?_getD,a3]at e
      exact⟨t,e⟩) an (items.size-0) 0 _ ⋯ (vl _) ⟨⟨_,q0 _ rfl,rfl,rfl⟩,(W.push _)⟩ ?_ ?_
    .exact CM (ls _ hS)
    .intro s' X B;obtain⟨g,g',d',ay,al⟩:=s';have eg:g'=s.gens:=X.gens;have ed:d'=s.drawn:=X.drawn;have eo:al=s.os:=X.os;subst eg;subst ed;subst eo;show wpAny _ _ _ _ _ _;refine il ?_;show wpAny _ _ (ret Value.none) _ _ _;refine il ⟨rfl,g,ay,rfl,B,λb o e=>?_⟩;have hb:=ml e;have ap:b≠s.heap.objs.size:=qp hb;have as:b≠(s.heap.push (cK (bg w))).objs.size:=by rw[F];exact qp (G5 hb)
     exact X.heap b o (by simp only[nk,Ew,or_false,not_or];exact⟨ap,as⟩) (ls _ (ls _ e))
   .cases S with
    |error e=>exact a
    |ok z =>
     cases z with
     |ret r =>
      obtain⟨rfl,g,Z,rfl,B,hx⟩:=a
      repeat (any_goals (first | assumption | wp_step))
      exact h _ _ B hx
     |_=>exact a.elim
  |_=>exact hr.elim
def Gz(l:List (Int×Tok)):IntsAre (l.map λp=>Value.int p.1 p.2) (l.map (·.1)):=by
 induction l with
 |nil=>exact .nil
 |cons p l a=>exact .cons p.1 p.2 a
def vC{S:Addr}{ns:R6}{Q:SQ->Shared->Prop}(hh:A.handled=Y)(G:IS prog w S ns s.heap)(hQ:∀a u W j,Df s.heap a->s.heap.objs.size<a.objs.size->IntsAre W j->j.Perm ns->Q W { s with heap:=a,toks:=u}):
  wpAny (model prog w) A (collect (.ref S)) Q E s:=by
 obtain⟨o,P,Z,t,ho,F,hd,B,L,g,C,H,l,R,i,z,O,M⟩:=id G;have X:P.size=ns.length:=by rw[<-z_,R,tu,<-i.length_eq,tu]
 have ab:=qV O z;refine nr hh ⟨F,hd,B,L,g,C,H,by rcases M with⟨e,_,_⟩|⟨e,_⟩<;>lia⟩ ho (by rw[sizeLine_eq];lia) λa u e1 e3 e2=>?_;have r:=gS w S Z P;generalize (cv w S Z P).toList=x at r ⊢;rw[R]at r;have ex:x=(x.map λe=>(match e.2 with|.int k t=>(k,t)|_=>((0:Int),(0:Tok)))).map (λp=>(hashInt p.1,Value.int p.1 p.2)):=by
  rw[zi]
  conv=>lhs;rw[<-List.map_id x]
  refine HM λy hy=>?_;obtain⟨p,_,rfl⟩:=mx.mp (r.mem_iff.mp hy);rfl
 have U:(x.map λe=>(match e.2 with|.int k t=>(k,t)|_=>((0:Int),(0:Tok)))).Perm l:=by
  have:=r.map λe:Int×Value=>(match e.2 with|.int k t=>(k,t)|_=>((0:Int),(0:Tok)))
  rw[zi]at this;refine this.trans (List.Perm.of_eq ?_)
  conv=>rhs;rw[<-List.map_id l]
  rfl
 generalize (x.map λe=>(match e.2 with|.int k t=>(k,t)|_=>((0:Int),(0:Tok))))=l' at ex U;subst ex;rw[zi];exact hQ a u _ _ e1 e3 (Gz l') ((U.map (·.1)).trans i)
end
end SetT
namespace MM
open PySem.Spec PyProof.Rows L2 SetT SortT
section
variable{X:Cx}{N W G:R5}{k:Nat}
def Ae(B:X.calm=I):ce X (.type "set") (λxs H Q=>∃l ns,xs=[.ref l]/\SqL X.K H l (ns.map V.int)/\Lw ns/\∀S,H S=Y->Q (.ref S) (k_ H S (.ext (IS X.prog X.w S (cQ ns))))):=by intro Kt s Z H xs U Q g r ⟨l,ns,e,C,E,q⟩;subst e;obtain⟨u,rfl,M⟩:=eN r;cases M;obtain⟨z,F,O,hz⟩:=g.list C;have j:=g.hok.fresh (i3 s.heap.objs.size);refine uo (g.ok.hd B) O.isList (by simpa using oU F) E λR P i x=>?_;obtain⟨o,es,ep,t,L,y⟩:=id i;exact⟨.ref s.heap.objs.size,_,g.laid (o:=.ext (IS X.prog X.w s.heap.objs.size (cQ ns))) x (i3 _) ⟨i,⟨o,L⟩,λh1 h2 a b=>lY a b⟩,rfl,q _ j⟩
def vf(L:X.calm=I):ce X (.builtin "sorted") (λxs H Q=>∃S ns,xs=[.ref S]/\H S=J (.ext (IS X.prog X.w S ns))/\ns.length<64/\∀l,H l=Y->Q (.ref l) (k_ H l (.lst ((cB ns).map V.int)))):=by
 intro Kt s Z H xs us Q a r ⟨S,ns,e,hS,hz,q⟩;subst e;obtain⟨u,rfl,rx⟩:=eN r;cases rx;obtain⟨B,_,_⟩:=(a.hok S _ hS);refine Calls.call_function_entry kind_sorted plain_sorted entry_sorted (args_sorted1 _) ?_;refine d_ (il ?_);refine d_ (vC (by simpa using a.ok.hd L) B λz M y al F i C pm=>?_);have ab:y.length=ns.length:=by rw[IntsAre.length C,pm.length_eq]
 refine d_ (wpAny_newList ?_ (by rw[sizeLine_eq];lia));have g:(z.push (seqObj "list" y.toArray 0)).get? z.objs.size=J (seqObj "list" y.toArray 0):=q0 _ rfl
 refine d_ (wpAny_holding (wpAny_call_entry slot_list_sort ⟨_,g,rfl⟩ entry_list_sort
  (list_sort_tree g C ⋯ λj an U O R=>⟨_,rfl,?_⟩) (args_list_sort _)))
 refine il ⟨_,rfl,?_⟩;have e:=jV R (oQ ns) (O.trans (pm.trans (d4 ns).symm));subst e;obtain⟨c,P⟩:=gj g j;refine⟨.ref z.objs.size,_,a.laid (o:=.lst ((cB ns).map V.int)) (t':=M) (λb o E=>?_) (Fh i) (⟨?_,j.toList,c,o8 U,?_⟩),rfl,q _ (a.hok.fresh (Fh i))⟩
 .have t:=ml (F b o E);exact fE (qp t) (ls _ (F b o E)) _
 .rw[tu,(d4 ns).length_eq,sizeLine_eq];lia
 .rw[P]
def Qm(m:Mx (R4)):Mx PV:=λZ h=>(m Z h).bind λxs a=>match xs with
 |[x]=>(match (dj a x).bind eV with
  |some ns=>if ns.length<64/\Lw ns then .ok (.loc a.length) (a++[.lst ((cB (cQ ns)).map .int)])else .bad
  |none=>.bad)
 |_=>.bad
def lC(g:Good X N W G k){a:Expr}{m:Mx (R4)}{p M E r:Pos}(i j:Nat)(hm:X.mg "sorted"=Y)(O:X.mg "set"=Y)(ha:MA X [a] m)(hi:G[i]?=J "sorted":=by rfl)(hj:G[j]?=J "set":=by rfl)(hs:starEach [a] X.env=[(T,eval a X.env)]:=by rfl)(he:starEach [.Call (.Name "set" M) [a] [] r] X.env=[(T,eval (.Call (.Name "set" M) [a] [] r) X.env)]:=by rfl):
  ME X (.Call (.Name "sorted" p) [.Call (.Name "set" M) [a] [] r] [] E) (Qm m):=by
 have d:=g.dbg _ (n4 _ (aA hi));have d':=g.dbg _ (n4 _ (aA hj));refine PE.imp (eG (vf g.calm) (g.gl _ (aA hi)) hm PyProof.Rows.Boot.«sorted» (bS (jD (Ae g.calm) (g.gl _ (aA hj)) O PyProof.Rows.Boot.«set» ha d'.2.2 d'.1 hs rfl) d7 he) d.2.2 d.1 he rfl) λZ H Q ⟨U,L,h,rs,rh,q⟩=>?_;refine⟨U,L,h,rs,rh,Ful.bind q λU1 H1 x x' h1 ex l1 s rx e=>?_⟩
 cases rx with
 |nil=>exact e.elim
 |@cons y y' _ _ r1 t1 =>
  cases t1 with
  |cons _ _=>exact e.elim
  |nil =>
   dsimp only at e
   cases C:dj h1 y with
   |none=>rw[C]at e;exact e.elim
   |some xs =>
    rw[C]at e
    cases P:eV xs with
    |none=>simp only[Ej,P]at e;exact e.elim
    |some ns =>
     simp only[Ej,P]at e;by_cases z:ns.length<64/\Lw ns
     .rw[c_ z]at e;obtain⟨la,zs,rfl,u,t⟩:=rT s r1 C;rw[rO P]at t;rw[Ec t]at u;refine⟨la,ns,rfl,u,z.2,λS hS=>?_⟩;obtain⟨B,l2⟩:=s.loose hS (.ext (IS X.prog X.w S (cQ ns)));refine⟨S,cQ ns,rfl,bI,Nat.lt_of_le_of_lt (yg ns) z.1,λl R=>?_⟩;obtain⟨F,l3⟩:=B.new R (o:=.lst ((cB (cQ ns)).map .int)) ⟨_,rfl,RPs.ints _⟩;exact e _ _ _ (l2.trans l3) F (.loc (by rw[<-s.len];simp))
     .rw[f_ z]at e;exact e.elim
end
end MM
namespace PU
open MM SetT
noncomputable section
def Qn:DX where
 k:=λo g=>match o with
  |[x]=>(match (dj g x).bind eV with
   |some ns=>if ns.length<64/\Lw ns then .ok (.loc g.length) (g++[.lst ((cB (cQ ns)).map .int)])else .bad
   |none=>.bad)
  |_=>.bad
 p:=λa=>match a with
  |[.lst i]=>(b9 i).bind λns=>if ns.length<64/\Lw ns then J (.lst ((cB (cQ ns)).map .int))else Y
  |_=>Y
 fr:=I
 ok {q h L O a xs d} bd w e:=by
  match a,e with
  |[.lst i],e =>
   obtain⟨x,rfl,l⟩:=dX w;obtain⟨s,j,r⟩:=l.lstOf;rw[Eu]at e;obtain⟨ns,e1,e2⟩:=e;by_cases z:ns.length<64/\Lw ns
   .rw[c_ z]at e2;cases e2;simp only[j,Ej,gv r e1,ji];rw[c_ z];exact M7 bd λ_ _=>i6 _
   .rw[f_ z]at e2;cases e2
def zK(ns:R6):b9 (ns.map .int)=J ns:=by
 induction ns with
 |nil=>rfl
 |cons i k a=>rw[wj,b9,a];rfl
def Hv{ns:R6}(h:ns.length<64/\Lw ns):Qn.p [.lst (ns.map .int)]=J (.lst ((cB (cQ ns)).map .int)):=by show(b9 (ns.map .int)).bind _=_;rw[zK,Ej,c_ h]
end
end PU
namespace Law
open PySem.Spec PyProof.Rows L2 MM
set_option maxHeartbeats 4000000
noncomputable section
def CA:kl:=(aQ (jF (wx (dS ["int"]) (af 0)) (qL (wx (dS ["bool"]) (af 0)))))
def qi:R4->MH->SX:=bc 1 1 CA
def CH:kl:=(aQ (jF (aF qi (ae (af 1) b_)) (mM FK Dy (mC (.int 0)) (af 1) (af 0))))
def fS:R4->MH->SX:=bc 2 2 CH
def se:kl:=(vu (gp (mB (aF fS (ae (af 0) (ae (af 1) b_))))) (kg "NoPlace" (ae (mC (.str "this is no place")) b_)) iv)
def cC:R4->MH->SX:=bc 2 2 se
def n3:kl:=(eE (b8 (af 1)) (m_ 2) (bJ (aF cC (ae (af 0) (ae (af 2) b_)))))
def cg:R4->MH->SX:=bc 3 2 n3
def sO:kl:=(aQ (lx t0 (ae (QY (ae (bF 1 [] (b8 (af 0)) (m_ 0) oy (br (ae (lx DC (ae (af 0) b_)) (ae (lx DB (ae (af 0) b_)) b_)))) b_)) b_)))
def fB:R4->MH->SX:=bc 1 1 sO
def x_:kl:=(aC (bJ (aF cC (ae (ai aL (af 0) (mC (.int 0))) (ae (af 1) b_))))
 (aC (aO 2 (bF 2 [1] (b8 (ai aL (af 0) (mC (.int 1)))) (DI (yK (m_ 0) (yK (m_ 1) DT)) 2) (mB (ai qd (af 1) (af 2))) (af 0)))
 (aC (aO 3 (bF 2 [1] (b8 (ai aL (af 0) (mC (.int 1)))) (DI (yK (m_ 0) (yK (m_ 1) DT)) 2) (mB (ai qd (af 0) (af 2))) (af 1)))
 (aQ (ai ik (af 2) (af 3))))))
def fW:R4->MH->SX:=bc 4 2 x_
def ul:kl:=(aC (vu (gp (mB (wx (dS ["list"]) (af 1)))) (aQ (mC (.bl T))) iv)
 (aC (vu (gp (mB (lx B_ (ae (bF 1 [0] (b8 (af 1)) (m_ 0) oy (aF fS (ae (ai aL (af 1) (mC (.int 0))) (ae (af 0) b_)))) b_)))) (aQ (mC (.bl T))) iv)
 (aQ (ai qd (lx mu (ae (af 1) b_)) (QP (ae (ai aL (af 0) (mC (.int 0))) b_))))))
def ip:R4->MH->SX:=bc 2 2 ul
def n8:kl:=(vu (gp (mB (aF ip (ae (af 0) (ae (af 1) b_))))) (kg "NoOrder" (ae (mC (.str "an order is a list with each place once")) b_)) iv)
def fc:R4->MH->SX:=bc 2 2 n8
def sP:kl:=(aC (aO 1 (aR b_))
 (aC (eE (rk (ae (af 0) b_)) (DI (yK (m_ 2) (yK (m_ 3) DT)) 2) (bJ (De dO (af 1) (ae (bF 1 [3] (b8 (E9 (af 0) (E8 (ai ik (af 2) (mC (.int 1)))) E7)) (m_ 0) oy (br (ae (af 1) (ae (af 0) b_)))) b_))))
 (aQ (af 1))))
def lB:R4->MH->SX:=bc 4 1 sP
def s_:kl:=(aQ (aF lB (ae (bF 1 [1] (b8 (aF fW (ae (af 0) (ae (af 2) b_)))) (m_ 0) (mB (ai (jR T) (af 0) (af 1))) (af 0)) b_)))
def ly:R4->MH->SX:=bc 3 3 s_
def yq:kl:=(aC (bJ (aF cC (ae (ai aL (af 0) (mC (.int 0))) (ae (af 2) b_))))
 (aC (bJ (aF cg (ae (ai aL (af 0) (mC (.int 0))) (ae (af 1) b_))))
 (aC (aO 3 (bF 1 [2] (b8 (ai aL (af 0) (mC (.int 1)))) (m_ 0) (mB (ai (jR I) (af 1) (af 0))) (af 0)))
 (aQ (br (ae (ai aL (af 0) (mC (.int 0))) (ae (aF fB (ae (ai ik (af 3) (aF ly (ae (af 0) (ae (af 1) (ae (af 2) b_))))) b_)) b_)))))))
def nt:R4->MH->SX:=bc 4 3 yq
def CW:kl:=(aC (bJ (aF fc (ae (af 0) (ae (af 1) b_))))
 (aC (aO 2 (lx rg (ae (ai aL (af 0) (mC (.int 1))) b_)))
 (aC (aO 3 (af 0))
 (aC (eE (rk (ae (af 1) b_)) (DI (yK (m_ 4) (yK (m_ 5) DT)) 2) (aC (aO 3 (aF nt (ae (af 3) (ae (E9 (af 1) (E8 (af 4)) E7) (ae (af 5) b_)))))
 (bJ (De dO (af 2) (ae (ai aL (af 3) (mC (.int 1))) b_)))))
 (aQ (br (ae (ai aL (af 0) (mC (.int 0))) (ae (aF fB (ae (af 2) b_)) b_))))))))
def lc:R4->MH->SX:=bc 6 2 CW
def y3:kl:=(aC (aO 2 (aF lc (ae (af 0) (ae (af 1) b_))))
 (aC (aO 3 (ai j3 (aR (ae (mC .non) b_)) (ai aL (af 0) (mC (.int 0)))))
 (aC (eE (rk (ae (af 1) b_)) (DI (yK (m_ 4) (yK (m_ 5) DT)) 2) (aC (aO 6 (aF fW (ae (af 2) (ae (af 5) b_))))
 (aC (aO 7 (bF 1 [6] (b8 (E9 (af 1) (E8 (ai ik (af 4) (mC (.int 1)))) E7)) (m_ 0) (mB (ai (jR T) (af 0) (af 1))) (af 0)))
 (vu (P4 (af 7)) (lP (ai aL (af 7) (mC (.int 0))) (E5 (af 3) (af 5))) iv))))
 (aQ (af 3)))))
def jy:R4->MH->SX:=bc 8 2 y3
def qr:kl:=(aC (aO 2 (aR b_))
 (aC (aO 3 (ai aL (af 0) (af 1)))
 (aC (E6 (mB (ai (i7 I) (af 3) (mC .non))) (aC (bJ (De fL (af 2) (ae (af 3) b_)))
 (aO 3 (ai aL (af 0) (af 3)))))
 (aQ (af 2)))))
def kn:R4->MH->SX:=bc 4 2 qr
def qv:kl:=(aC (eE (b8 (af 2)) (m_ 3) (bJ (aF cg (ae (ai aL (af 0) (mC (.int 0))) (ae (af 3) b_)))))
 (aC (aO 4 (aF jy (ae (af 0) (ae (af 1) b_))))
 (aC (aO 5 (aR b_))
 (aC (eE (b8 (af 2)) (DI (yK (m_ 6) (yK (m_ 7) DT)) 2) (aC (aO 8 (FG (mB (ai Dy (De gM (af 1) (ae (af 6) b_)) (De gM (af 1) (ae (af 7) b_)))) (af 6) (af 7)))
 (bJ (De dO (af 5) (ae (ai ik (aR (ae (af 8) b_)) (aF kn (ae (af 4) (ae (af 8) b_)))) b_)))))
 (aQ (Qm (ae (af 5) b_)))))))
def bT:R4->MH->SX:=bc 9 3 qv
def BL:kl:=(aC (aO 2 (ai ik (ai j3 (mC (.int 7919)) (af 1)) (mC (.int 11))))
 (aC (vu (mB (ai Dy (af 1) (lx yW (ae (lx ny (ae (af 0) b_)) (ae (mC (.int 63)) b_))))) (aO 2 (ai aL (af 0) (af 1))) (vu (mB (ai Em (lx ny (ae (af 0) b_)) (mC (.int 0)))) (aO 2 (ai ik (ai mn (ai aL (af 0) (ai mn (af 1) (lx yW (ae (lx ny (ae (af 0) b_)) (ae (mC (.int 63)) b_))))) (ai ov (mC (.int 10)) (mC (.int 15)))) (ai j3 (mC (.int 48271)) (af 1)))) iv))
 (aC (vu (mB (ai EM (lx Dz (ae (af 2) b_)) (ai ov (mC (.int 10)) (mC (.int 18))))) (aQ (aR (ae (mC (.int 1)) (ae (lx Dz (ae (af 2) b_)) (ae (mC (.int 0)) b_))))) iv)
 (aQ (aR (ae (mC (.int 0)) (ae (ai ik (ai mn (af 2) (mC (.int 2147483587))) (ai j3 (mC (.int 40009)) (af 1))) (ae (mC (.int 0)) b_))))))))
def kj:R4->MH->SX:=bc 3 2 BL
def yv:kl:=(aC (lP (ai ik (ai aL (af 0) (mC (.int 2))) (mC (.int 1))) (E5 (af 0) (mC (.int 2))))
 (aC (vu (mB (ai qd (ai aL (af 0) (mC (.int 0))) (mC (.int 1)))) (aC (aO 3 (ai mn (ai aL (af 0) (mC (.int 1))) (af 1)))
 (aC (lP (ai En (ai aL (af 0) (mC (.int 1))) (af 1)) (E5 (af 0) (mC (.int 1))))
 (aQ (af 3)))) iv)
 (aC (aO 2 (ai mn (ai j3 (ai ik (ai ik (ai aL (af 0) (mC (.int 1))) (ai j3 (mC (.int 40503)) (ai aL (af 0) (mC (.int 2))))) (mC (.int 1))) (mC (.int 48271))) (mC (.int 2147483647))))
 (aC (aO 2 (ai mn (ai j3 (af 2) (ai ik (ai ik (ai mn (af 2) (mC (.int 65521))) (ai aL (af 0) (mC (.int 2)))) (mC (.int 3)))) (mC (.int 2147483629))))
 (aQ (ai mn (ai En (ai mn (ai j3 (af 2) (ai ik (ai mn (af 2) (mC (.int 8191))) (mC (.int 7)))) (mC (.int 2147483563))) (mC (.int 64))) (af 1)))))))
def bP:R4->MH->SX:=bc 4 2 yv
def pj(F:R4->MH->SX):kl:=(aC (vu (mB (ai (i7 T) (af 1) (mC .non))) (aQ (ai (i7 T) (af 0) (mC .non))) iv)
 (aC (vu (mB (wx (dS ["list","tuple"]) (af 1))) (aC (vu (EB (gp (mB (wx (dS ["list","tuple"]) (af 0)))) (mB (ai n7 (wx (dS ["list"]) (af 0)) (wx (dS ["list"]) (af 1))))) (aQ (mC (.bl T))) iv)
 (aQ (jF (ai qd (lx ny (ae (af 0) b_)) (lx ny (ae (af 1) b_))) (lx B_ (ae (bF 2 [] (MJ (ae (af 0) (ae (af 1) b_))) (DI (yK (m_ 0) (yK (m_ 1) DT)) 2) oy (aF F (ae (af 0) (ae (af 1) b_)))) b_))))) iv)
 (aQ (jF (wx (dS ["int"]) (af 0)) (jF (qL (wx (dS ["bool"]) (af 0))) (ai qd (af 0) (af 1)))))))
def kM:Nat->R4->MH->SX
 |0=>bc 2 2 (λ_ _=>.bad)
 |n+1=>bc 2 2 (pj (kM n))
def kH:R4->MH->SX:=kM 8
def DD:kl:=(aC (vu (mB (ai qd (aF bP (ae (af 0) (ae (mC (.int 16)) b_))) (mC (.int 15)))) (aQ (mC (.int 12))) iv)
 (aQ (ai aL (aR (ae (mC (.int 4)) (ae (mC (.int 3)) (ae (mC (.int 5)) (ae (mC (.int 2)) (ae (mC (.int 6)) (ae (mC (.int 1)) (ae (mC (.int 0)) (ae (mC (.int 3)) b_))))))))) (aF bP (ae (af 0) (ae (mC (.int 8)) b_))))))
def uX:R4->MH->SX:=bc 1 1 DD
def Dj:kl:=(aC (aO 2 (aR b_))
 (aC (eE (gi (ae (af 1) b_)) (m_ 3) (bJ (De ku (af 2) (ae (aF bP (ae (af 0) (ae (ai ik (af 3) (mC (.int 1))) b_))) (ae (af 3) b_)))))
 (aQ (af 2))))
def tX:R4->MH->SX:=bc 4 2 Dj
def DE:kl:=(aC (aO 3 (aR b_))
 (aC (eE (gi (ae (af 1) b_)) (m_ 4) (bJ (De dO (af 3) (ae (bF 1 [4,0,2] (uz (ae (ai ik (af 4) (mC (.int 1))) (ae (af 1) b_))) (m_ 0) (mB (ai qd (aF bP (ae (af 2) (ae (af 3) b_))) (mC (.int 0)))) (br (ae (af 1) (ae (af 0) b_)))) b_))))
 (aQ (lx t0 (ae (af 3) b_)))))
def vM:R4->MH->SX:=bc 5 3 DE
def DF:kl:=(aQ (ai ik (bF 2 [1] (b8 (af 0)) (DI (yK (m_ 0) (yK (m_ 1) DT)) 2) (mB (ai qd (af 0) (af 2))) (af 1)) (bF 2 [1] (b8 (af 0)) (DI (yK (m_ 0) (yK (m_ 1) DT)) 2) (mB (ai qd (af 1) (af 2))) (af 0))))
def vF:R4->MH->SX:=bc 2 2 DF
def Dk:kl:=(aC (aO 3 (aR (ae (ai aL (af 1) (af 2)) b_)))
 (aC (aO 4 (mC (.int 0)))
 (aC (E6 (mB (ai Dy (af 4) (lx ny (ae (af 3) b_)))) (aC (vu (EB (mB (ai qd (af 4) (mC (.int 0)))) (mB (ai (jR T) (ai aL (af 3) (af 4)) (E9 (af 1) E7 (E8 (af 2)))))) (bJ (De dO (af 3) (ae (bF 1 [3] (b8 (aF vF (ae (af 0) (ae (ai aL (af 3) (af 4)) b_)))) (m_ 0) (mB (ai (jR I) (af 0) (af 1))) (af 0)) b_))) iv)
 (aO 4 (ai ik (af 4) (mC (.int 1))))))
 (aQ (bF 1 [3] (b8 (E9 (af 1) (E8 (ai ik (af 2) (mC (.int 1)))) E7)) (m_ 0) (mB (ai (jR T) (af 0) (af 1))) (af 0))))))
def tw:R4->MH->SX:=bc 5 3 Dk
def Dl:kl:=(aC (aO 2 (bF 1 [] (b8 (af 1)) (m_ 0) oy (mC .non)))
 (aC (eE (rk (ae (af 1) b_)) (DI (yK (m_ 3) (yK (m_ 4) DT)) 2) (aC (aO 5 (aF tw (ae (af 0) (ae (af 1) (ae (af 3) b_)))))
 (vu (mB (ai n7 (af 5) (aR b_))) (lP (ai aL (af 5) (mC (.int 0))) (E5 (af 2) (af 4))) iv)))
 (aQ (af 2))))
def sD:R4->MH->SX:=bc 6 2 Dl
def Ef:kl:=(aC (aO 3 (aF sD (ae (af 0) (ae (af 1) b_))))
 (aC (aO 4 (aR b_))
 (aC (eE (b8 (af 2)) (DI (yK (m_ 5) (yK (m_ 6) DT)) 2) (aC (aO 7 (ai aL (af 1) (lx yW (ae (De gM (af 1) (ae (af 5) b_)) (ae (De gM (af 1) (ae (af 6) b_)) b_)))))
 (E6 (mB (ai (i7 I) (af 7) (mC .non))) (aC (bJ (De fL (af 4) (ae (af 7) b_)))
 (aO 7 (ai aL (af 3) (af 7)))))))
 (aQ (Qm (ae (af 4) b_))))))
def wY:R4->MH->SX:=bc 8 3 Ef
def y4:kl:=(aC (aO 3 (mC .non))
 (aC (oS ["NoOrder","NoPlace"] 3 4 (bJ (aF bT (ae (af 0) (ae (af 1) (ae (af 2) b_))))))
 (aC (vu (EB (mB (ai (i7 T) (af 3) (mC .non))) (gp (mB (wx (bi ["NoOrder","NoPlace"] ["NoOrder","NoPlace"]) (af 3))))) (aQ (mC (.str ""))) iv)
 (aC (aO 5 (wx (bi ["NoOrder","NoPlace"] ([]++([]++([]++([]++([]++([]++([]++([]++([]++[])))))))))) (af 3)))
 (aQ (MK jM (mC (.str "")) (ae (aR (ae (ai aL (aR (ae (mC (.str "")) (ae (mC (.str "place")) b_))) (lx yY (ae (wx (bi ["NoOrder","NoPlace"] ["NoPlace"]) (af 3)) b_))) (ae (ai aL (aR (ae (mC (.str "")) (ae (mC (.str "order")) b_))) (lx yY (ae (wx (bi ["NoOrder","NoPlace"] ["NoOrder"]) (af 3)) b_))) (ae (ai aL (aR (ae (mC (.str "")) (ae (mC (.str "other")) b_))) (lx yY (ae (af 5) b_))) b_)))) b_)))))))
def cx:R4->MH->SX:=bc 6 3 y4
def zI:kl:=(aC (aO 3 (ai aL (af 0) (mC (.int 0))))
 (aC (eE (b8 (br (ae (af 3) (ae (wx Eb (mC (.int 1))) (ae (mC (.bl I)) (ae (mC .non) (ae (mC (.str "0")) (ae (br (ae (mC (.int 0)) b_)) (ae (aR (ae (mC (.int 0)) b_)) (ae EN (ae (ai ov (mC (.int 10)) (mC (.int 60))) b_))))))))))) (m_ 4) (eE (b8 (br (ae (br (ae (af 4) (ae (af 4) b_))) (ae (br (ae (mC (.int 0)) (ae (af 4) b_))) (ae (br (ae (af 4) (ae (mC (.int 0)) b_))) b_))))) (m_ 6) (vu (EB (mB (ai n7 (aF cx (ae (af 0) (ae (lx rg (ae (af 1) b_)) (ae (ai ik (af 2) (aR (ae (af 6) b_))) b_)))) (mC (.str "place")))) (mB (ai n7 (aF cx (ae (af 0) (ae (mC .non) (ae (aR (ae (af 6) b_)) b_)))) (mC (.str "place"))))) (aQ (mC (.bl T))) iv)))
 (aC (eE (b8 (br (ae (mC .non) (ae (lx t0 (ae (af 1) b_)) (ae (ai ik (af 1) (aR (ae (mC (.int 0)) b_))) (ae (ai ik (E9 (af 1) (E8 (mC (.int 1))) E7) (aR (ae (af 3) b_))) (ae (E9 (af 1) (E8 (mC (.int 1))) E7) (ae (ai ik (E9 (af 1) (E8 (mC (.int 1))) E7) (aR (ae (aR (ae (mC (.int 0)) b_)) b_))) (ae EN (ae (mC (.str "order")) b_)))))))))) (m_ 5) (vu (mB (ai n7 (aF cx (ae (af 0) (ae (af 5) (ae (lx rg (ae (af 2) b_)) b_)))) (mC (.str "order")))) (aQ (mC (.bl T))) iv))
 (aQ (mC (.bl I))))))
def oD:R4->MH->SX:=bc 7 3 zI
def y7:kl:=(aC (aO 1 (aF uX (ae (af 0) b_)))
 (aC (aO 2 (aF vM (ae (af 0) (ae (af 1) (ae (ai ik (mC (.int 1)) (aF bP (ae (af 0) (ae (mC (.int 5)) b_)))) b_)))))
 (aC (aO 3 (aF tX (ae (af 0) (ae (af 1) b_))))
 (aC (aO 4 (ai ik (ai ik (lx rg (ae (af 2) b_)) (bF 2 [] (b8 (af 2)) (DI (yK (m_ 0) (yK (m_ 1) DT)) 2) oy (br (ae (af 1) (ae (af 0) b_))))) (bF 1 [] (gi (ae (af 1) b_)) (m_ 0) oy (br (ae (af 0) (ae (af 0) b_))))))
 (aC (aO 5 (aR b_))
 (aC (eE (gi (ae (ai j3 (aF bP (ae (af 0) (ae (mC (.int 6)) b_))) (lx yY (ae (ai Em (af 1) (mC (.int 0))) b_))) b_)) (m_ 6) (bJ (De fL (af 5) (ae (ai aL (af 4) (aF bP (ae (af 0) (ae (lx ny (ae (af 4) b_)) b_)))) b_))))
 (aC (aO 7 (br (ae (af 1) (ae (af 2) b_))))
 (aC (aO 8 (aF wY (ae (af 2) (ae (af 3) (ae (af 5) b_)))))
 (aC (aO 9 (br (ae (lx rg (ae (af 3) b_)) (ae (lx rg (ae (af 5) b_)) b_))))
 (aC (aO 10 (aF bT (ae (af 7) (ae (ai aL (af 9) (mC (.int 0))) (ae (ai aL (af 9) (mC (.int 1))) b_)))))
 (aC (vu (EB (gp (mB (aF kH (ae (af 10) (ae (af 8) b_))))) (mB (ai n7 (af 9) (br (ae (af 3) (ae (af 5) b_)))))) (aQ (mC (.bl T))) iv)
 (aC (bJ (De fL (af 10) (ae (mC (.int 0)) b_)))
 (aC (vu (EB (gp (mB (aF kH (ae (aF bT (ae (af 7) (ae (af 3) (ae (af 5) b_)))) (ae (af 8) b_))))) (gp (mB (aF kH (ae (aF bT (ae (af 7) (ae (af 3) (ae (aR b_) b_)))) (ae (aR b_) b_)))))) (aQ (mC (.bl T))) iv)
 (aQ (FF (ai qd (af 1) (mC (.int 0))) (aF oD (ae (af 7) (ae (af 3) (ae (af 5) b_)))))))))))))))))))
def fP:R4->MH->SX:=bc 11 1 y7
def EX:kl:=(aC (vu (EB (mB (ai n7 (aF cx (ae (br (ae (mC (.int 0)) (ae (br b_) b_))) (ae (aR b_) (ae (aR (ae (br (ae (mC (.int 0)) (ae (mC (.int 0)) b_))) b_)) b_)))) (mC (.str "place")))) (mB (ai n7 (aF cx (ae (br (ae (mC (.int 0)) (ae (br b_) b_))) (ae (aR (ae (mC (.int 0)) b_)) (ae (aR b_) b_)))) (mC (.str "order"))))) (aQ (mC (.bl T))) iv)
 (aQ (lx B_ (ae (bF 1 [0] (gi (ae (lx DU (ae (mC (.int 1)) (ae (lx yW (ae (lx ny (ae (af 0) b_)) (ae (mC (.int 8)) b_))) b_))) b_)) (m_ 0) oy (aF fP (ae (aF kj (ae (af 1) (ae (af 0) b_))) b_))) b_))))
def Eg:R4->MH->SX:=bc 1 1 EX
end
end Law
namespace Law
open MM PU
open L2 (yU nw fG)
set_option maxHeartbeats 4000000
noncomputable section
def ic:Xd []:=(bG (nW (C8 (fF ["int"]) (ac 0)) (zm (C8 (fF ["bool"]) (ac 0)))))
def ir:Fn:=ck 1 1 ic
def oB{a:R9}{s:h8}(h:a.length=1):ir.p a s=(ic.p (ki 1 a) s).fin:=bp h
def im:Xd []:=(bG (nW (aB ir (aa (ac 1) a_)) (A9 Q7 JY (xC (.int 0)) (ac 1) (ac 0))))
def dD:Fn:=ck 2 2 im
def oE{a:R9}{s:h8}(h:a.length=2):dD.p a s=(im.p (ki 2 a) s).fin:=bp h
def dL:Xd []:=(Cs (hJ (xB (aB dD (aa (ac 0) (aa (ac 1) a_))))) (wm "NoPlace" (aa (xC (.str "this is no place")) a_)) ky)
def aZ:Fn:=ck 2 2 dL
def gB{a:R9}{s:h8}(h:a.length=2):aZ.p a s=(dL.p (ki 2 a) s).fin:=bp h
def dz:Xd []:=(dU (ba (ac 1)) (i_ 2) (cT (aB aZ (aa (ac 0) (aa (ac 2) a_)))))
def bw:Fn:=ck 3 2 dz
def gh{a:R9}{s:h8}(h:a.length=2):bw.p a s=(dz.p (ki 3 a) s).fin:=bp h
def g6:Xd []:=(bG (o_ kc (aa (o_ Q9 (aa (bz 1 [] (ba (ac 0)) (ws':=[]) (i_ 0) mh (be (aa (o_ uH (aa (ac 0) a_)) (aa (o_ uC (aa (ac 0) a_)) a_)))) a_)) a_)))
def fw:Fn:=ck 1 1 g6
def rM{a:R9}{s:h8}(h:a.length=1):fw.p a s=(g6.p (ki 1 a) s).fin:=bp h
def iV:Xd []:=(aG (cT (aB aZ (aa (ak mf (ac 0) (xC (.int 0))) (aa (ac 1) a_))))
 (aG (bu 2 (bz 2 [1] (ba (ak mf (ac 0) (xC (.int 1)))) (ws':=[]) (C_ (pa (i_ 0) (pa (i_ 1) C9)) 2) (xB (ak C3 (ac 1) (ac 2))) (ac 0)))
 (aG (bu 3 (bz 2 [1] (ba (ak mf (ac 0) (xC (.int 1)))) (ws':=[]) (C_ (pa (i_ 0) (pa (i_ 1) C9)) 2) (xB (ak C3 (ac 0) (ac 2))) (ac 1)))
 (bG (ak bE (ac 2) (ac 3))))))
def dq:Fn:=ck 4 2 iV
def ut{a:R9}{s:h8}(h:a.length=2):dq.p a s=(iV.p (ki 4 a) s).fin:=bp h
def ib:Xd []:=(aG (Cs (hJ (xB (C8 (fF ["list"]) (ac 1)))) (bG (xC (.bl T))) ky)
 (aG (Cs (hJ (xB (o_ vJ (aa (bz 1 [0] (ba (ac 1)) (ws':=[]) (i_ 0) mh (aB dD (aa (ak mf (ac 1) (xC (.int 0))) (aa (ac 0) a_)))) a_)))) (bG (xC (.bl T))) ky)
 (bG (ak C3 (o_ xq (aa (ac 1) a_)) (o_ Q_ (aa (ak mf (ac 0) (xC (.int 0))) a_))))))
def hZ:Fn:=ck 2 2 ib
def oJ{a:R9}{s:h8}(h:a.length=2):hZ.p a s=(ib.p (ki 2 a) s).fin:=bp h
def fy:Xd []:=(Cs (hJ (xB (aB hZ (aa (ac 0) (aa (ac 1) a_))))) (wm "NoOrder" (aa (xC (.str "an order is a list with each place once")) a_)) ky)
def fg:Fn:=ck 2 2 fy
def kw{a:R9}{s:h8}(h:a.length=2):fg.p a s=(fy.p (ki 2 a) s).fin:=bp h
def g8:Xd [1]:=(aG (dZ 1 (bC a_))
 (aG (dU (eU iE (aa (ac 0) a_)) (C_ (pa (i_ 2) (pa (i_ 3) C9)) 2) (Db cV 1 (aa (bz 1 [3] (ba (Du (ac 0) (Dt (ak bE (ac 2) (xC (.int 1)))) Dr)) (ws':=[]) (i_ 0) mh (be (aa (ac 1) (aa (ac 0) a_)))) a_)))
 (nK 1)))
def fx:Fn:=ck 4 1 g8
def rn{a:R9}{s:h8}(h:a.length=1):fx.p a s=(g8.p (ki 4 a) s).fin:=bp h
def g7:Xd []:=(bG (aB fx (aa (bz 1 [1] (ba (aB dq (aa (ac 0) (aa (ac 2) a_)))) (ws':=[]) (i_ 0) (xB (ak (Ea T) (ac 0) (ac 1))) (ac 0)) a_)))
def hU:Fn:=ck 3 3 g7
def r6{a:R9}{s:h8}(h:a.length=3):hU.p a s=(g7.p (ki 3 a) s).fin:=bp h
def iS:Xd []:=(aG (cT (aB aZ (aa (ak mf (ac 0) (xC (.int 0))) (aa (ac 2) a_))))
 (aG (cT (aB bw (aa (ak mf (ac 0) (xC (.int 0))) (aa (ac 1) a_))))
 (aG (bu 3 (bz 1 [2] (ba (ak mf (ac 0) (xC (.int 1)))) (ws':=[]) (i_ 0) (xB (ak (Ea I) (ac 1) (ac 0))) (ac 0)))
 (bG (be (aa (ak mf (ac 0) (xC (.int 0))) (aa (aB fw (aa (ak bE (ac 3) (aB hU (aa (ac 0) (aa (ac 1) (aa (ac 2) a_))))) a_)) a_)))))))
def fX:Fn:=ck 4 3 iS
def uc{a:R9}{s:h8}(h:a.length=3):fX.p a s=(iS.p (ki 4 a) s).fin:=bp h
def kZ:Xd [2]:=(aG (cT (aB fg (aa (ac 0) (aa (ac 1) a_))))
 (aG (dZ 2 (o_ ff (aa (ak mf (ac 0) (xC (.int 1))) a_)))
 (aG (bu 3 (ac 0))
 (aG (dU (eU iE (aa (ac 1) a_)) (C_ (pa (i_ 4) (pa (i_ 5) C9)) 2) (aG (bu 3 (aB fX (aa (ac 3) (aa (Du (ac 1) (Dt (ac 4)) Dr) (aa (ac 5) a_)))))
 (Db cV 2 (aa (ak mf (ac 3) (xC (.int 1))) a_))))
 (bG (be (aa (ak mf (ac 0) (xC (.int 0))) (aa (zd fw (aa (ac 2) a_)) a_))))))))
def kE:Fn:=ck 6 2 kZ
def sw{a:R9}{s:h8}(h:a.length=2):kE.p a s=(kZ.p (ki 6 a) s).fin:=bp h
def ju:Xd [3]:=(aG (bu 2 (aB kE (aa (ac 0) (aa (ac 1) a_))))
 (aG (dZ 3 (ak Gq (bC (aa (xC .non) a_)) (ak mf (ac 0) (xC (.int 0)))))
 (aG (dU (eU iE (aa (ac 1) a_)) (C_ (pa (i_ 4) (pa (i_ 5) C9)) 2) (aG (bu 6 (aB dq (aa (ac 2) (aa (ac 5) a_))))
 (aG (bu 7 (bz 1 [6] (ba (Du (ac 1) (Dt (ak bE (ac 4) (xC (.int 1)))) Dr)) (ws':=[]) (i_ 0) (xB (ak (Ea T) (ac 0) (ac 1))) (ac 0)))
 (Cs (Oj (ac 7)) (uN 3 (ak mf (ac 7) (xC (.int 0))) (ac 5)) ky))))
 (nK 3))))
def jw:Fn:=ck 8 2 ju
def qj{a:R9}{s:h8}(h:a.length=2):jw.p a s=(ju.p (ki 8 a) s).fin:=bp h
def gw:Xd [2]:=(aG (dZ 2 (bC a_))
 (aG (bu 3 (ak mf (ac 0) (ac 1)))
 (aG (M1 400 (xB (ak (DZ I) (ac 3) (xC .non))) (aG (Db fO 2 (aa (ac 3) a_))
 (bu 3 (ak mf (ac 0) (ac 3)))) m8)
 (nK 2))))
def eO:Fn:=ck 4 2 gw
def qI{a:R9}{s:h8}(h:a.length=2):eO.p a s=(gw.p (ki 4 a) s).fin:=bp h
def jJ:Xd [5]:=(aG (dU (ba (ac 2)) (i_ 3) (cT (aB bw (aa (ak mf (ac 0) (xC (.int 0))) (aa (ac 3) a_)))))
 (aG (bu 4 (aB jw (aa (ac 0) (aa (ac 1) a_))))
 (aG (dZ 5 (bC a_))
 (aG (dU (ba (ac 2)) (C_ (pa (i_ 6) (pa (i_ 7) C9)) 2) (aG (bu 8 (Gn (xB (ak JY (Ep du (ac 1) (aa (ac 6) a_)) (Ep du (ac 1) (aa (ac 7) a_)))) (ac 6) (ac 7) I))
 (Db cV 5 (aa (ak bE (bC (aa (ac 8) a_)) (aB eO (aa (ac 4) (aa (ac 8) a_)))) a_))))
 (bG (o_ Qn (aa (ac 5) a_)))))))
def bU:Fn:=ck 9 3 jJ
def kK{a:R9}{s:h8}(h:a.length=3):bU.p a s=(jJ.p (ki 9 a) s).fin:=bp h
def rF{h:MH}{p:Nat}{o:MO}(a:p<h.length):(h.set p o)[p]?=J o:=BO a
def Rq:yU 3 2=J 2:=oi (n:=3) (m:=2) (by decide)
def RV:yU 3 1=J 1:=oi (n:=3) (m:=1) (by decide)
def kC(s:h8)(size:Int)(B:0<size)(y:size.natAbs.log2<9000):∃x:Int×Int,(0<=x.1/\x.1<size)/\∀(h:MH)(p:Nat),cS h p s->bP [.loc p,.int size] h=.ok (.int x.1) (h.set p (.lst [.int s.1,.int x.2,.int (s.2.2+1)])):=by
 obtain⟨m,c,t⟩:=s;have a:size≠0:=by ext
 have st:∀n:Int,0<=n.fmod size/\n.fmod size<size:=λn=>by
  rw[Ow n (by ext)];exact⟨Int.emod_nonneg n a,Int.emod_lt_of_pos n B⟩
 by_cases o:m=1
 .subst o;refine⟨(c.fmod size,c.fdiv size),st c,λh p e=>?_⟩;have e:h[p]?=J (.lst [.int 1,.int c,.int t]):=e;have j:p<h.length:=(mw.mp e).1;have e2:(h.set p (.lst [.int 1,.int c,.int (t+1)]))[p]?=J (.lst [.int 1,.int c,.int (t+1)]):=rF j;delta bP;refine(cW (by rfl)).trans ?_;delta yv;simp[bA,List.replicate,iJ e,pC e,Rq,iJ e2,gD a,xW a y,pC e2,RV]
 .have g:∀n k:Int,0<k->0<=n.fmod k/\n.fmod k<k:=λn k H=>by
   rw[Ow n (by ext)];exact⟨Int.emod_nonneg n (by ext),Int.emod_lt_of_pos n H⟩
  generalize r:((c+40503*(t+1)+1)*48271).fmod 2147483647=A;have u:=g ((c+40503*(t+1)+1)*48271) 2147483647 (by decide);rw[r]at u;generalize l:(A*(A.fmod 65521+(t+1)+3)).fmod 2147483629=C;have F:=g (A*(A.fmod 65521+(t+1)+3)) 2147483629 (by decide);rw[l]at F;refine⟨((((C*(C.fmod 8191+7)).fmod 2147483563).fdiv 64).fmod size,c),st _,λh p e=>?_⟩;have e:h[p]?=J (.lst [.int m,.int c,.int t]):=e;have j:p<h.length:=(mw.mp e).1;have e2:(h.set p (.lst [.int m,.int c,.int (t+1)]))[p]?=J (.lst [.int m,.int c,.int (t+1)]):=rF j;have G:-(2^64)<A/\A<2^64:=by ext
  have E:-(2^64)<C/\C<2^64:=by ext
  have z:∀{i:Int}{h:MH},j3 (.int 40503) (.int i) h=.ok (.int (40503*i)) h:=iw (by decide);have L:∀{i:Int}{h:MH},j3 (.int i) (.int 48271) h=.ok (.int (i*48271)) h:=FM (by decide);delta bP;refine(cW (by rfl)).trans ?_;delta yv;simp[bA,List.replicate,iJ e,pC e,Rq,iJ e2,o,z,L,gD,r,iw G,l,iw E,xW (show(64:Int)≠0 by decide) (show(64:Int).natAbs.log2<9000 by decide +kernel),gD a]
open Classical in
def oj(s:h8)(size:Int):Int×Int:=if z:0<size/\size.natAbs.log2<9000 then(kC s size z.1 z.2).choose else(0,0)
def qH(a:R9):SV:=match a with
 |[.pen,.int i]=>J i
 |_=>Y
def ze{a:R9}{i:Int}(e:qH a=J i):a=[.pen,.int i]:=by
 unfold qH at e
 split at e
 .cases e;rfl
 .cases e
open Classical in
def ci:Fn where
 m:=bP
 p:=λa s=>match qH a with
  |some size=>if 0<size/\size.natAbs.log2<9000 then .ok (.int (oj s size).1) (s.1,(oj s size).2,s.2.2+1)else .bad
  |none=>.bad
 fr:=I
 ok {q h O vs a s} bd hq pn r:=by
  cases e:qH a with
  |none=>trivial
  |some size =>
   have:=ze e
   subst this;dsimp only;by_cases z:0<size/\size.natAbs.log2<9000
   .rw[c_ z];obtain⟨x,t,rfl,o,y,u,rfl,g,i⟩:=r;rw[show x=PV.loc q from o,show y=PV.int size from g,show u=[]from i];have k:=(kC s size z.1 z.2).choose_spec.2 h q pn;have j:oj s size=(kC s size z.1 z.2).choose:=by delta oj;rw[dif_pos z]
    rw[<-j]at k;refine⟨_,_,k,⟨by simp,λn B l=>pq (Ne.symm l)⟩,rF (bo pn),rfl,λ_ a e=>by cases e⟩
   .rw[f_ z];trivial
open Classical in
theorem iT{s:h8}{size:Int}(g:0<size)(o:size<=2000000000):∃d i,0<=d/\d<size/\ci.p [.pen,.int size] s=.ok (.int d) i:=by
 have a:size.natAbs.log2<9000:=by
  have j:size.natAbs<=2000000000:=by ext
  have l:size.natAbs.log2<31:=(Nat.log2_lt (by ext)).mpr (by ext);ext
 have z:0<size/\size.natAbs.log2<9000:=⟨g,a⟩;have e:oj s size=(kC s size z.1 z.2).choose:=by delta oj;rw[dif_pos z]
 have k:=(kC s size z.1 z.2).choose_spec.1;rw[<-e]at k;exact⟨_,_,k.1,k.2,by show(if 0<size/\size.natAbs.log2<9000 then _ else _)=_;rw[c_ z]⟩
def lm(F:Fn):Xd []:=(aG (Cs (xB (ak (DZ T) (ac 1) (xC .non))) (bG (ak (DZ T) (ac 0) (xC .non))) ky)
 (aG (Cs (xB (C8 (fF ["list","tuple"]) (ac 1))) (aG (Cs (Fa (hJ (xB (C8 (fF ["list","tuple"]) (ac 0)))) (xB (ak EI (C8 (fF ["list"]) (ac 0)) (C8 (fF ["list"]) (ac 1))))) (bG (xC (.bl T))) ky)
 (bG (nW (ak C3 (o_ jT (aa (ac 0) a_)) (o_ jT (aa (ac 1) a_))) (o_ vJ (aa (bz 2 [] (eU iZ (aa (ac 0) (aa (ac 1) a_))) (ws':=[]) (C_ (pa (i_ 0) (pa (i_ 1) C9)) 2) mh (aB F (aa (ac 0) (aa (ac 1) a_)))) a_))))) ky)
 (bG (nW (C8 (fF ["int"]) (ac 0)) (nW (zm (C8 (fF ["bool"]) (ac 0))) (ak C3 (ac 0) (ac 1)))))))
def fD:Nat->Fn
 |0=>M3 (bc 2 2 λ_ _=>.bad)
 |n+1=>ck 2 2 (lm (fD n))
def sB{n:Nat}{a:R9}{s:h8}(h:a.length=2):(fD (n+1)).p a s=((lm (fD n)).p (ki 2 a) s).fin:=bp h
def ja:Fn:=fD 8
def oN:Xd []:=(aG (Cs (xB (ak C3 (aB ci (aa (ac 0) (aa (xC (.int 16)) a_))) (xC (.int 15)))) (bG (xC (.int 12))) ky)
 (bG (ak mf (bC (aa (xC (.int 4)) (aa (xC (.int 3)) (aa (xC (.int 5)) (aa (xC (.int 2)) (aa (xC (.int 6)) (aa (xC (.int 1)) (aa (xC (.int 0)) (aa (xC (.int 3)) a_))))))))) (aB ci (aa (ac 0) (aa (xC (.int 8)) a_))))))
def oR:Fn:=ck 1 1 oN
def AE{a:R9}{s:h8}(h:a.length=1):oR.p a s=(oN.p (ki 1 a) s).fin:=bp h
def nh:Xd [2]:=(aG (dZ 2 (bC a_))
 (aG (dU (eU J3 (aa (ac 1) a_)) (i_ 3) (Db rV 2 (aa (aB ci (aa (ac 0) (aa (ak bE (ac 3) (xC (.int 1))) a_))) (aa (ac 3) a_))))
 (nK 2)))
def mK:Fn:=ck 4 2 nh
def zw{a:R9}{s:h8}(h:a.length=2):mK.p a s=(nh.p (ki 4 a) s).fin:=bp h
def o6:Xd [3]:=(aG (dZ 3 (bC a_))
 (aG (dU (eU J3 (aa (ac 1) a_)) (i_ 4) (Db cV 3 (aa (bz 1 [4,0,2] (eU Of (aa (ak bE (ac 4) (xC (.int 1))) (aa (ac 1) a_))) (ws':=[]) (i_ 0) (xB (ak C3 (aB ci (aa (ac 2) (aa (ac 3) a_))) (xC (.int 0)))) (be (aa (ac 1) (aa (ac 0) a_)))) a_)))
 (bG (o_ kc (aa (ac 3) a_)))))
def o3:Fn:=ck 5 3 o6
def Av{a:R9}{s:h8}(h:a.length=3):o3.p a s=(o6.p (ki 5 a) s).fin:=bp h
def o7:Xd []:=(bG (ak bE (bz 2 [1] (ba (ac 0)) (ws':=[]) (C_ (pa (i_ 0) (pa (i_ 1) C9)) 2) (xB (ak C3 (ac 0) (ac 2))) (ac 1)) (bz 2 [1] (ba (ac 0)) (ws':=[]) (C_ (pa (i_ 0) (pa (i_ 1) C9)) 2) (xB (ak C3 (ac 1) (ac 2))) (ac 0))))
def i4:Fn:=ck 2 2 o7
def Bo{a:R9}{s:h8}(h:a.length=2):i4.p a s=(o7.p (ki 2 a) s).fin:=bp h
def mH:Xd [3]:=(aG (dZ 3 (bC (aa (ak mf (ac 1) (ac 2)) a_)))
 (aG (bu 4 (xC (.int 0)))
 (aG (M1 400 (xB (ak JY (ac 4) (o_ jT (aa (ac 3) a_)))) (aG (Cs (Fa (xB (ak C3 (ac 4) (xC (.int 0)))) (xB (ak (Ea T) (ak mf (ac 3) (ac 4)) (Du (ac 1) Dr (Dt (ac 2)))))) (Db cV 3 (aa (bz 1 [3] (ba (aB i4 (aa (ac 0) (aa (ak mf (ac 3) (ac 4)) a_)))) (ws':=[1]) (i_ 0) (xB (ak (Ea I) (ac 0) (ac 1))) (ac 0)) a_)) ky)
 (bu 4 (ak bE (ac 4) (xC (.int 1))))) m8)
 (bG (bz 1 [3] (ba (Du (ac 1) (Dt (ak bE (ac 2) (xC (.int 1)))) Dr)) (ws':=[1]) (i_ 0) (xB (ak (Ea T) (ac 0) (ac 1))) (ac 0))))))
def jL:Fn:=ck 5 3 mH
def za{a:R9}{s:h8}(h:a.length=3):jL.p a s=(mH.p (ki 5 a) s).fin:=bp h
def lV:Xd [2]:=(aG (dZ 2 (bz 1 [] (ba (ac 1)) (ws':=[]) (i_ 0) mh (xC .non)))
 (aG (dU (eU iE (aa (ac 1) a_)) (C_ (pa (i_ 3) (pa (i_ 4) C9)) 2) (aG (bu 5 (aB jL (aa (ac 0) (aa (ac 1) (aa (ac 3) a_)))))
 (Cs (xB (ak EI (ac 5) (bC a_))) (uN 2 (ak mf (ac 5) (xC (.int 0))) (ac 4)) ky)))
 (nK 2)))
def m4:Fn:=ck 6 2 lV
def yx{a:R9}{s:h8}(h:a.length=2):m4.p a s=(lV.p (ki 6 a) s).fin:=bp h
def rE:Xd [4]:=(aG (bu 3 (aB m4 (aa (ac 0) (aa (ac 1) a_))))
 (aG (dZ 4 (bC a_))
 (aG (dU (ba (ac 2)) (C_ (pa (i_ 5) (pa (i_ 6) C9)) 2) (aG (bu 7 (ak mf (ac 1) (o_ Gr (aa (Ep du (ac 1) (aa (ac 5) a_)) (aa (Ep du (ac 1) (aa (ac 6) a_)) a_)))))
 (M1 400 (xB (ak (DZ I) (ac 7) (xC .non))) (aG (Db fO 4 (aa (ac 7) a_))
 (bu 7 (ak mf (ac 3) (ac 7)))) m8)))
 (bG (o_ Qn (aa (ac 4) a_))))))
def ss:Fn:=ck 8 3 rE
def BV{a:R9}{s:h8}(h:a.length=3):ss.p a s=(rE.p (ki 8 a) s).fin:=bp h
def mm:Xd []:=(aG (bu 3 (xC .non))
 (aG (MZ ["NoOrder","NoPlace"] 3 4 (cT (aB bU (aa (ac 0) (aa (ac 1) (aa (ac 2) a_))))))
 (aG (Cs (Fa (xB (ak (DZ T) (ac 3) (xC .non))) (hJ (xB (C8 (uF ["NoOrder","NoPlace"] ["NoOrder","NoPlace"]) (ac 3))))) (bG (xC (.str ""))) ky)
 (aG (bu 5 (C8 (uF ["NoOrder","NoPlace"] ([]++([]++([]++([]++([]++([]++([]++([]++([]++[])))))))))) (ac 3)))
 (bG (Rk Nh (xC (.str "")) (aa (bC (aa (ak mf (bC (aa (xC (.str "")) (aa (xC (.str "place")) a_))) (o_ rK (aa (C8 (uF ["NoOrder","NoPlace"] ["NoPlace"]) (ac 3)) a_))) (aa (ak mf (bC (aa (xC (.str "")) (aa (xC (.str "order")) a_))) (o_ rK (aa (C8 (uF ["NoOrder","NoPlace"] ["NoOrder"]) (ac 3)) a_))) (aa (ak mf (bC (aa (xC (.str "")) (aa (xC (.str "other")) a_))) (o_ rK (aa (ac 5) a_))) a_)))) a_)))))))
def dB:Fn:=ck 6 3 mm
def zj{a:R9}{s:h8}(h:a.length=3):dB.p a s=(mm.p (ki 6 a) s).fin:=bp h
def jQ:Xd []:=(aG (bu 3 (ak mf (ac 0) (xC (.int 0))))
 (aG (dU (ba (be (aa (ac 3) (aa (C8 J0 (xC (.int 1))) (aa (xC (.bl I)) (aa (xC .non) (aa (xC (.str "0")) (aa (be (aa (xC (.int 0)) a_)) (aa (bC (aa (xC (.int 0)) a_)) (aa EU (aa (ak JZ (xC (.int 10)) (xC (.int 60))) a_))))))))))) (i_ 4) (dU (ba (be (aa (be (aa (ac 4) (aa (ac 4) a_))) (aa (be (aa (xC (.int 0)) (aa (ac 4) a_))) (aa (be (aa (ac 4) (aa (xC (.int 0)) a_))) a_))))) (i_ 6) (Cs (Fa (xB (ak EI (aB dB (aa (ac 0) (aa (o_ ff (aa (ac 1) a_)) (aa (ak bE (ac 2) (bC (aa (ac 6) a_))) a_)))) (xC (.str "place")))) (xB (ak EI (aB dB (aa (ac 0) (aa (xC .non) (aa (bC (aa (ac 6) a_)) a_)))) (xC (.str "place"))))) (bG (xC (.bl T))) ky)))
 (aG (dU (ba (be (aa (xC .non) (aa (o_ kc (aa (ac 1) a_)) (aa (ak bE (ac 1) (bC (aa (xC (.int 0)) a_))) (aa (ak bE (Du (ac 1) (Dt (xC (.int 1))) Dr) (bC (aa (ac 3) a_))) (aa (Du (ac 1) (Dt (xC (.int 1))) Dr) (aa (ak bE (Du (ac 1) (Dt (xC (.int 1))) Dr) (bC (aa (bC (aa (xC (.int 0)) a_)) a_))) (aa EU (aa (xC (.str "order")) a_)))))))))) (i_ 5) (Cs (xB (ak EI (aB dB (aa (ac 0) (aa (ac 5) (aa (o_ ff (aa (ac 2) a_)) a_)))) (xC (.str "order")))) (bG (xC (.bl T))) ky))
 (bG (xC (.bl I))))))
def gE:Fn:=ck 7 3 jQ
def vR{a:R9}{s:h8}(h:a.length=3):gE.p a s=(jQ.p (ki 7 a) s).fin:=bp h
def jA:Xd [5,10]:=(aG (bu 1 (aB oR (aa (ac 0) a_)))
 (aG (bu 2 (aB o3 (aa (ac 0) (aa (ac 1) (aa (ak bE (xC (.int 1)) (aB ci (aa (ac 0) (aa (xC (.int 5)) a_)))) a_)))))
 (aG (bu 3 (aB mK (aa (ac 0) (aa (ac 1) a_))))
 (aG (bu 4 (ak bE (ak bE (o_ ff (aa (ac 2) a_)) (bz 2 [] (ba (ac 2)) (ws':=[]) (C_ (pa (i_ 0) (pa (i_ 1) C9)) 2) mh (be (aa (ac 1) (aa (ac 0) a_))))) (bz 1 [] (eU J3 (aa (ac 1) a_)) (ws':=[]) (i_ 0) mh (be (aa (ac 0) (aa (ac 0) a_))))))
 (aG (dZ 5 (bC a_))
 (aG (dU (eU J3 (aa (ak Gq (aB ci (aa (ac 0) (aa (xC (.int 6)) a_))) (o_ rK (aa (ak Q8 (ac 1) (xC (.int 0))) a_))) a_)) (i_ 6) (Db fO 5 (aa (ak mf (ac 4) (aB ci (aa (ac 0) (aa (o_ jT (aa (ac 4) a_)) a_)))) a_)))
 (Ro (ws':=[10]) 5 (aG (bu 7 (be (aa (ac 1) (aa (ac 2) a_))))
 (aG (bu 8 (aB ss (aa (ac 2) (aa (ac 3) (aa (ac 5) a_)))))
 (aG (bu 9 (be (aa (o_ ff (aa (ac 3) a_)) (aa (o_ ff (aa (ac 5) a_)) a_))))
 (aG (dZ 10 (aB bU (aa (ac 7) (aa (ak mf (ac 9) (xC (.int 0))) (aa (ak mf (ac 9) (xC (.int 1))) a_)))))
 (aG (Cs (Fa (hJ (xB (zd ja (aa (ac 10) (aa (ac 8) a_))))) (xB (ak EI (ac 9) (be (aa (ac 3) (aa (ac 5) a_)))))) (bG (xC (.bl T))) ky)
 (aG (Db fO 10 (aa (xC (.int 0)) a_))
 (aG (Cs (Fa (hJ (xB (aB ja (aa (aB bU (aa (ac 7) (aa (ac 3) (aa (ac 5) a_)))) (aa (ac 8) a_))))) (hJ (xB (aB ja (aa (aB bU (aa (ac 7) (aa (ac 3) (aa (bC a_) a_)))) (aa (bC a_) a_)))))) (bG (xC (.bl T))) ky)
 (bG (JS (ak C3 (ac 1) (xC (.int 0))) (aB gE (aa (ac 7) (aa (ac 3) (aa (ac 5) a_))))))))))))))))))))
def jI:Fn:=ck 11 1 jA
def yE{a:R9}{s:h8}(h:a.length=1):jI.p a s=(jA.p (ki 11 a) s).fin:=bp h
def wF:jI.m=fP:=congrArg (bc 11 1) (rfl:jA.m=y7)
end
end Law
namespace Law
open MM PU SetT SortT
open L2 (yU nw fG)
set_option maxHeartbeats 1000000
def GA:ir.p [.int i] s=.ok (.bl I) s:=by rw[oB (by rfl)];delta ic;simp[ki,cL]
def qQ:dD.p [.int n,.int i] s=.ok (.bl (decide (0<=i)&&decide (i<n))) s:=by rw[oE (by rfl)];delta im;by_cases z:0<=i<;>simp[ki,GA,z]
def nO(a:0<=i)(e:i<n):aZ.p [.int n,.int i] s=.ok .non s:=by rw[gB (by rfl)];delta dL;simp[ki,qQ,a,e]
abbrev Qo(d:D)(ks:R7):Prop:=d.items=J (ks.map kD)
def lN:∀(a:R7),fV (a.map kD)=J a
 |[]=>rfl
 |k::a=>by
  have:jP (kD k)=J k:=by
   show b9 (k.map .int)=J k
   induction k with
   |nil=>rfl
   |cons i k e=>rw[wj,b9,e];rfl
  rw[wj,fV,this,lN a]
open Classical in
theorem Nm(h:(∀k∈a,k≠[])/\(SetT.n_ a).length<=66):Q9.p [.lst (a.map kD)]=J (.lst ((cU (SetT.n_ a)).map kD)):=by show(fV (a.map kD)).bind _=_;rw[lN,Ej,c_ h]
def Kh:uH.p [.tup [.int a,.int b]]=J (.int (if b<a then b else a)):=by
 simp[uH,uB,b9,nu,argBest]
 split<;>simp
def Ki:uC.p [.tup [.int a,.int b]]=J (.int (if b>a then b else a)):=by
 simp[uC,uB,b9,nu,argBest]
 split<;>simp
local macro_rules | `(tactic| simp! [$a,*]) => `(tactic| simp only [$a,*, Pb, aD, aH, av, az])
local macro_rules | `(tactic| dsimp! [$a,*]) => `(tactic| simp only [$a,*, Pb])
local macro_rules | `(tactic| simp_all! [$a,*]) => `(tactic| simp only [$a,*, Out.bind_ok, cM, dy])
def we(e:Qo d j)(o:∀k∈j,IsT n k)(u:j.length<=100000)(hd:(SetT.n_ (j.map EV)).length<=66):
  fw.p [d] s=.ok (.tup ((cU (SetT.n_ (j.map EV))).map kD)) s:=by
 rw[rM (by rfl)];delta g6
 have q:=gf (ws:=[]) (ws':=[]) (env:=ki 1 [d]) (s:=s) (fm:=[]) (i:=ba (ac 0)) (t:=mh) (e:=(be (aa (o_ uH (aa (ac 0) a_)) (aa (o_ uC (aa (ac 0) a_)) a_)))) (ds:=j.map kD) (λ_=>I) (λx=>match jP x with|some k=>kD (EV k)|none=>.non) (by simp[ki,e]) (by simpa using u) (λx z=>by
   obtain⟨k,g,rfl⟩:=mx.mp z;obtain⟨a,b,rfl,_⟩:=o k g
   simp[kD,Kh,Ki,jP,b9,EV])
 have e2:(((j.map kD).filter λ_=>I).map λx=>match jP x with|some k=>kD (EV k)|none=>.non)=(j.map EV).map kD:=by rw[dC,zi,zi];refine HM λk g=>?_;obtain⟨a,b,rfl,_⟩:=o k g;rfl
 rw[e2]at q
 have y:=Nm ⟨λk g=>by
  obtain⟨r,l,rfl⟩:=mx.mp g;obtain⟨a,b,rfl,_⟩:=o r l
  simp[EV],hd⟩
 rw[de,cF,av,cF,av,q];dsimp![az,y,Pf,oX,Pg,PU.dA]
def am(n:Int)(a:R7):D:=.tup [.int n,.tup (a.map kD)]
def qa:∀(e:R7),(∀k∈e,∃a b:Int,k=[a,b]/\0<=a/\a<b/\b<n)->(((e.map kD).filter λx=>match x with|.tup [.int a,.int b]=>decide (b=v)|_=>T).map λx=>match x with|.tup [.int a,.int b]=>.int a|_=>.non)=(below v e).map D.int:=by
 intro e
 induction e with
 |nil=>intro _;rfl
 |cons k e j =>
  intro i;obtain⟨a,b,rfl,_⟩:=i k (by simp)
  have:=j λk g=>i k (oh _ g)
  by_cases z:b=v<;>simp[below,kD,z]at this ⊢<;>exact this
def pU:∀(e:R7),(∀k∈e,∃a b:Int,k=[a,b]/\0<=a/\a<b/\b<n)->(((e.map kD).filter λx=>match x with|.tup [.int a,.int b]=>decide (a=v)|_=>T).map λx=>match x with|.tup [.int a,.int b]=>.int b|_=>.non)=(above v e).map D.int:=by
 intro e
 induction e with
 |nil=>intro _;rfl
 |cons k e j =>
  intro i;obtain⟨a,b,rfl,_⟩:=i k (by simp)
  have:=j λk g=>i k (oh _ g)
  by_cases z:a=v<;>simp[above,kD,z]at this ⊢<;>exact this
def C4(v:Int)(a:R7):R6:=below v a++above v a
def Hw(w:j_ n ks)(z:0<=v)(hv:v<n):dq.p [am n ks,.int v] s=.ok (.lst ((C4 v ks).map .int)) s:=by
 have l:ks.length<=66:=gK w.n12 w.tie w.nd;rw[ut (by rfl)];delta iV
 have o:=nU (ws:=[]) (ws':=[]) (env:=[J (am n ks),J (.int v),Y,Y]) (s:=s) (fm:=[1]) (i:=ba (ak mf (ac 0) (xC (.int 1)))) (t:=xB (ak C3 (ac 1) (ac 2))) (e:=ac 0) (ds:=ks.map kD) (λx=>match x with|.tup [.int a,.int b]=>decide (b=v)|_=>T) (λx=>match x with|.tup [.int a,.int b]=>.int a|_=>.non) (by simp[am]) (by simp;ext) (λx g=>by
   obtain⟨k,j,rfl⟩:=mx.mp g;obtain⟨a,b,rfl,_⟩:=w.tie k j
   exact⟨.int a,.int b,rfl,by simp[kD],λ_=>by simp[kD]⟩)
 have r:=nU (ws:=[]) (ws':=[]) (env:=[J (am n ks),J (.int v),J (.lst ((below v ks).map .int)),Y]) (s:=s) (fm:=[1]) (i:=ba (ak mf (ac 0) (xC (.int 1)))) (t:=xB (ak C3 (ac 0) (ac 2))) (e:=ac 1) (ds:=ks.map kD) (λx=>match x with|.tup [.int a,.int b]=>decide (a=v)|_=>T) (λx=>match x with|.tup [.int a,.int b]=>.int b|_=>.non) (by simp[am]) (by simp;ext) (λx g=>by
   obtain⟨k,j,rfl⟩:=mx.mp g;obtain⟨a,b,rfl,_⟩:=w.tie k j
   exact⟨.int a,.int b,rfl,by simp[kD],λ_=>by simp[kD]⟩)
 rw[qa ks w.tie]at o;rw[pU ks w.tie]at r;have bl:(below v ks).length<=66:=tx (Nv _ _) l;have B:(above v ks).length<=66:=tx (Nv _ _) l;have u:(cT (aB aZ (aa (ak mf (ac 0) (xC (.int 0))) (aa (ac 1) a_))):Xd []).p (ki 4 [am n ks,.int v]) s=.nx [J (am n ks),J (.int v),Y,Y] s:=by simp[ki,am,nO z hv]
 rw[au,u,PU.aq,au,bB,o,Pg,PU.aq,au,bB];show(((bz 2 [1] _ _ _ _ _ _).p [J (am n ks),J (.int v),J (.lst ((below v ks).map .int)),Y] s).go _ _ |>.then _).fin=_;rw[r];simp[dP (x:=(below v ks).map .int) (y:=(above v ks).map .int) (by simp;ext),C4]
def mD(n:Nat):dI 0 n=(jj n).map .int:=by simp[dI,jj]
def BM(n:Nat):(jj n).Pairwise (·<=·):=by exact List.Pairwise.map _ (λa b h=>by ext) Nx
def tQ(a:ns.length<64):xq.p [.lst (ns.map .int)]=J (.lst ((cB ns).map .int)):=by
 have e:∀ns:R6,b9 (ns.map .int)=J ns:=λns=>by
  induction ns with
  |nil=>rfl
  |cons i k g=>rw[wj,b9,g];rfl
 show(uI (ns.map .int)).map _=_;simp only[uI,e];rw[c_ a];rfl
def vL(pm:qs.Perm (jj n)):cB qs=jj n:=jV (oQ _) (BM n) ((d4 qs).trans pm)
def yC{n:Nat}{g:R7}{a:R6}{s:h8}(B:n<=12)(pm:a.Perm (jj n)):hZ.p [am n g,.lst (a.map .int)] s=.ok (.bl I) s:=by
 have l:a.length=n:=by have:=pm.length_eq;simpa [jj]using this
 rw[oJ (by rfl)];delta ib
 have q:=gf (ws:=[]) (ws':=[]) (env:=[J (am n g),J (.lst (a.map .int))]) (s:=s) (fm:=[0]) (i:=ba (ac 1)) (t:=mh) (e:=(aB dD (aa (ak mf (ac 1) (xC (.int 0))) (aa (ac 0) a_)))) (ds:=a.map .int) (λ_=>I) (λ_=>.bl I) (by simp) (by simp;ext) (λx z=>by
   obtain⟨i,o,rfl⟩:=mx.mp z
   have:=bO.mp (pm.mem_iff.mp o)
   exact⟨rfl,λ_=>by simp[am,qQ,this.1,this.2]⟩)
 have e2:(((a.map D.int).filter λ_=>I).map λ_=>D.bl I)=List.replicate n (.bl I):=by rw[dC,zi];exact La.mpr ⟨by simp[l],by simp⟩
 rw[e2]at q;have u:∀m,gs (List.replicate m (.bl I))=J (List.replicate m I):=λm=>by
  induction m with
  |zero=>rfl
  |succ m r=>rw[HK,HK,gs,r];rfl
 have e3:vJ.p [.lst (List.replicate n (.bl I))]=J (.bl I):=by show((J (List.replicate n (D.bl I))).bind gs).map _=_;rw[Ej,u];simp
 have j:ki 2 [am n g,.lst (a.map .int)]=[J (am n g),J (.lst (a.map .int))]:=rfl;have y:(Cs (hJ (xB (C8 (fF ["list"]) (ac 1)))) (bG (xC (.bl T))) ky:Xd []).p [J (am n g),J (.lst (a.map .int))] s=.nx [J (am n g),J (.lst (a.map .int))] s:=by simp[cL]
 rw[j,au,y,PU.aq,au,dG,mW,g9,cF,av,q];simp![e3,Pf,Pl,Ez,Pg,pu,if_false,eP,PU.aq,de,aY,cF];rw[tQ (by ext),vL pm];dsimp![Pf,am,cO,bY,qw,ux,az];rw[Ht (by ext),Dn,mD];simp[pk]
def uj{n:Nat}{g:R7}{a:R6}{s:h8}(e:n<=12)(pm:a.Perm (jj n)):fg.p [am n g,.lst (a.map .int)] s=.ok .non s:=by rw[kw (by rfl)];delta fy;simp[ki,yC e pm]
def jb{ns:R6}{j:Nat}(a:j<=ns.length):jX (ns.map D.int) (J (j:Int)) Y=(ns.drop j).map .int:=by delta jX;rw[HT.uY,tu,HT.xI,OJ a,OO];exact HH (by simp)
def js:(gG ds).length=ds.length:=by simp[gG]
def jH{a:R9}{j:Nat}{d:D}(e:(gG a)[j]?=J d):∃x,a[j]?=J x/\d=.tup [.int (j:Int),x]:=by
 unfold gG at e;rw[yT,List.getElem?_zipIdx]at e
 cases e1:a[j]? with
 |none=>rw[e1]at e;cases e
 |some x=>rw[e1]at e;simp at e;exact⟨x,rfl,e.symm⟩
def dQ(e1:a.p env s=.ok as s1)(e2:env[i]?=J (J (.lst ds)))(e3:o.p ds as=J (r,ds')):(Db o i a hi hz).p env s=.nx (env.set i (J (.lst ds'))) s1:=by rw[Na,A4 e1 e2 e3]
def kR{ns:R6}{j:Nat}{x:D}(e:(ns.map D.int)[j]?=J x):x=.int (ns.getD j 0)/\j<ns.length:=by rw[yT,y9]at e;obtain⟨i,e1,rfl⟩:=e;obtain⟨a,g⟩:=mw.mp e1;exact⟨by simp[e1],a⟩
def GB{ns:R6}{s:h8}(H:ns.length<=12):fx.p [.lst (ns.map .int)] s=.ok (.lst ((bR ns ns.length).map kD)) s:=by
 rw[rn (by rfl)];delta g8;have B:ki 4 [D.lst (ns.map .int)]=[J (.lst (ns.map .int)),Y,Y,Y]:=rfl;obtain⟨y,a,e,l,o,rfl,E⟩:=cI (g:=(C_ (pa (i_ 2) (pa (i_ 3) C9)) 2:Xg [1]).p) (b:=(Db cV 1 (aa (bz 1 [3] (ba (Du (ac 0) (Dt (ak bE (ac 2) (xC (.int 1)))) Dr)) (ws':=[]) (i_ 0) mh (be (aa (ac 1) (aa (ac 0) a_)))) a_):Xd [1]).p)
  (λj env a=>∃l o,env=[J (.lst (ns.map .int)),J (.lst ((bR ns j).map kD)),l,o]/\a=s) (gG (ns.map .int)) 0 [J (.lst (ns.map .int)),J (.lst []),Y,Y] s ⟨Y,Y,rfl,rfl⟩ (λj env a d ⟨l,o,u,F⟩ hd=>by
   rw[zu]at u ⊢;subst u F;obtain⟨x,z,rfl⟩:=jH hd;obtain⟨rfl,L⟩:=kR z;have C:=k9 H j
   have q:=gf (ws:=[1]) (ws':=[]) (env:=[J (.lst (ns.map .int)),J (.lst ((bR ns j).map kD)),J (.int (j:Int)),J (.int (ns.getD j 0))]) (s:=a) (fm:=[3]) (i:=(ba (Du (ac 0) (Dt (ak bE (ac 2) (xC (.int 1)))) Dr))) (t:=mh) (e:=(be (aa (ac 1) (aa (ac 0) a_)))) (ds:=(ns.drop (j+1)).map .int) (λ_=>I) (λx=>.tup [.int (ns.getD j 0),x]) (by
     have:=jb (ns:=ns) (j:=j+1) (by ext)
     push_cast at this
     simp[this]) (by simp;ext) (λx z=>⟨rfl,λ_=>by simp⟩)
   have e2:((((ns.drop (j+1)).map D.int).filter λ_=>I).map λx=>D.tup [.int (ns.getD j 0),x])=((ns.drop (j+1)).map λb=>[ns.getD j 0,b]).map kD:=by rw[dC,zi,zi];rfl
   rw[e2]at q;refine⟨[J (.lst (ns.map .int)),J (.lst ((bR ns j).map kD)),J (.int (j:Int)),J (.int (ns.getD j 0))],_,a,by simp,dQ (s1:=a) (as:=[.lst (((ns.drop (j+1)).map λb=>[ns.getD j 0,b]).map kD)]) (ds:=(bR ns j).map kD) (ds':=(bR ns (j+1)).map kD) (r:=.non) (by rw[av,q];dsimp![az]) rfl ?_,_,_,rfl,rfl⟩
   rw[jG (by simp;ext),v7,Ek])
 rw[js,tu,zu,E]at e;have G:(dZ 1 (bC a_):Xd [1]).p [J (.lst (ns.map .int)),Y,Y,Y] s=.nx [J (.lst (ns.map .int)),J (.lst []),Y,Y] s:=by simp
 rw[B,au,G,PU.aq,au,cD,gc,av];dsimp![aD,az,Gw,Pf,Pg];rw[e,PU.aq,ko (d:=.lst ((bR ns ns.length).map kD)) rfl,PU.dA]
def GC(a:ns.length<=12):fx.p [.lst (ns.map .int)] s=.ok (.lst ((bR ns ns.length).map kD)) s:=GB a
def Hx(left:R6)(x:D):Bool:=match x with
 |.int i=>decide (i∈left)
 |_=>T
def GD(v:Int)(x:D):Bool:=match jP x with
 |some k=>!decide (v∈k)
 |none=>T
def GF(k:R6):jP (kD k)=J k:=by
 have:=lN [k]
 simp only[wj,OP,fV]at this;revert this
 cases jP (kD k) with
 |none=>intro h;cases h
 |some y=>intro h;simp at h;rw[h]
@[simp]theorem Rr:Hx left (.int i)=decide (i∈left):=rfl
@[simp]theorem Qp:GD v (kD k)=!decide (v∈k):=by simp[GD,GF]
def EY(v:Int)(a:R7):R7:=a.filter λk=>!decide (v∈k)
def DL(left:R6)(v:Int)(a:R7):R6:=(C4 v a).filter λx=>decide (x∈left)
def o4(left:R6)(v:Int)(a:R7):R7:=cU (SetT.n_ (EY v a++bR (DL left v a) (DL left v a).length))
def mY(w:j_ n e):(DL left v e).Pairwise (·<·)/\(∀x∈DL left v e,0<=x/\x<n)/\(DL left v e).length<=12:=by
 obtain⟨nd,j⟩:=Kb w;have ris:=Gx (v:=v) w;have lt:(C4 v e).Pairwise (·<·):=by
  refine(ris.and nd).imp λ{a b} h=>?_
  grind
 refine⟨lt.filter _,λx i=>j x (E4.mp i).1,?_⟩;have g:(DL left v e).Nodup:=nd.filter _
 have:=List.Nodup.length_le_of_subset (l₂:=jj 12) g λx i=>by
  rw[bO]
  have:=j x (E4.mp i).1
  have:=w.n12
  ext
 simpa [jj]using this
def j9(w:j_ n e):∀k∈EY v e++bR (DL left v e) (DL left v e).length,∃a b:Int,k=[a,b]/\0<=a/\a<b/\b<n:=λk j=>by
 obtain⟨g,i,l⟩:=mY w;rcases n9.mp j with q|q
 .exact w.tie k (E4.mp q).1
 .exact zy g i k q
def x4(l:0<=n)(e:n<=12)(i:∀k∈g,∃a b:Int,k=[a,b]/\0<=a/\a<b/\b<n):j_ n (cU (SetT.n_ g)) :=
 ⟨l,e,λk j=>i k ((SetT.j0 k g).mp ((eJ _).mem_iff.mp j)),kN _,(eJ _).symm.nodup (mZ g)⟩
def AG(e:n<=12)(i:∀k∈g,∃a b:Int,k=[a,b]/\0<=a/\a<b/\b<n):(SetT.n_ g).length<=66 :=
 gK e (λk j=>i k ((SetT.j0 k g).mp j)) (mZ g)
def qM{n:Int}{e:R7}(g:∀k∈e,∃a b:Int,k=[a,b]/\0<=a/\a<b/\b<n):e.map EV=e:=by
 have:e.map EV=e.map id:=HM λk i=>by
  obtain⟨a,b,rfl,_,lt,_⟩:=g k i;exact Ka lt
 rw[this,List.map_id]
def Bs{n:Int}{e:R7}(i:∀k∈e,∃a b:Int,k=[a,b]/\0<=a/\a<b/\b<n):∀k∈e,IsT n k:=λk l=>by
 obtain⟨a,b,rfl,g,o,j⟩:=i k l;exact⟨a,b,rfl,g,by ext,by ext,j,by ext⟩
def GG(w:j_ n ks):j_ n (o4 left v ks):=x4 w.n0 w.n12 (j9 w)
def vc:∀(e:R7),(((e.map kD).filter (GD v)).map λx=>x)=(EY v e).map kD
 |[]=>rfl
 |k::e=>by
  have a:=vc (v:=v) e;unfold EY at a ⊢;by_cases z:v∈k
  .simp[z]at a ⊢;exact a
  .simp[z]at a ⊢;exact a
def jh:∀(ns:R6),(((ns.map D.int).filter (Hx left)).map λx=>x)=(ns.filter λx=>decide (x∈left)).map D.int
 |[]=>rfl
 |i::ns=>by
  have a:=jh (left:=left) ns;by_cases z:i∈left<;>simp[z]at a ⊢<;>exact a
def GH(w:j_ n ks)(o:0<=v)(hv:v<n):hU.p [am n ks,.lst (left.map .int),.int v] s=.ok (.lst ((bR (DL left v ks) (DL left v ks).length).map kD)) s:=by
 obtain⟨r,u,g⟩:=mY w;have y:(C4 v ks).length<=132:=by
  have:=gK w.n12 w.tie w.nd
  have a:(below v ks).length<=ks.length:=Nv _ _;have b:(above v ks).length<=ks.length:=Nv _ _;simp[C4];ext
 rw[r6 (by rfl)];delta g7;have l:ki 3 [am n ks,.lst (left.map .int),.int v]=[J (am n ks),J (.lst (left.map .int)),J (.int v)]:=rfl
 have q:=gf (ws:=[]) (ws':=[]) (env:=[J (am n ks),J (.lst (left.map .int)),J (.int v)]) (s:=s) (fm:=[1]) (i:=ba (aB dq (aa (ac 0) (aa (ac 2) a_)))) (t:=xB (ak (Ea T) (ac 0) (ac 1))) (e:=ac 0) (ds:=(C4 v ks).map .int) (Hx left) (λx=>x) (by simp[Hw w o hv]) (by simp;ext) (λx j=>by
   obtain⟨i,z,rfl⟩:=mx.mp j
   exact⟨by simp[j7 (d:=.lst (left.map .int)) rfl],λ_=>by simp⟩)
 rw[jh]at q;rw[l,de,bn,av,q]
 have:=GC (s:=s) g
 dsimp![az];unfold DL at this ⊢;rw[this];simp
def Co{n:Int}{left:R6}{s:h8}(h:∀x∈left,0<=x/\x<n):bw.p [.int n,.lst (left.map .int)] s=.ok .non s:=by
 rw[gh (by rfl)];delta dz;obtain⟨o,a,e,z,rfl,u⟩:=cI (g:=(i_ 2:Xg []).p) (b:=(cT (aB aZ (aa (ac 0) (aa (ac 2) a_))):Xd []).p)
  (λj env a=>∃z,env=[J (.int n),J (.lst (left.map .int)),z]/\a=s) (left.map .int) 0 [J (.int n),J (.lst (left.map .int)),Y] s ⟨Y,rfl,rfl⟩ (λj env a d ⟨z,t,r⟩ hd=>by
   subst t r;obtain⟨i,l,rfl⟩:=mx.mp (Dm hd)
   exact⟨[J (.int n),J (.lst (left.map .int)),J (.int i)],[J (.int n),J (.lst (left.map .int)),J (.int i)],a,rfl,by simp[nO (h i l).1 (h i l).2],_,rfl,rfl⟩)
 rw[show ki 3 [D.int n,.lst (left.map .int)]=[J (.int n),J (.lst (left.map .int)),Y]from rfl,cD]
 simp_all
def wq{n v:Int}{left:R6}{a:R7}{s:h8}(w:j_ n a)(j:0<=v)(hv:v<n)(g:∀x∈left,0<=x/\x<n):fX.p [am n a,.lst (left.map .int),.int v] s=.ok (am n (o4 left v a)) s:=by
 have u:=gK w.n12 w.tie w.nd;obtain⟨E,F,l⟩:=mY (v:=v) (left:=left) w;have C:=k9 l (DL left v a).length;have H:(EY v a).length<=66:=tx (QF _ _) u;rw[uc (by rfl)];delta iS;have o:ki 4 [am n a,.lst (left.map .int),.int v]=[J (am n a),J (.lst (left.map .int)),J (.int v),Y]:=rfl
 have q:=gf (ws:=[]) (ws':=[]) (env:=[J (am n a),J (.lst (left.map .int)),J (.int v),Y]) (s:=s) (fm:=[2]) (i:=ba (ak mf (ac 0) (xC (.int 1)))) (t:=xB (ak (Ea I) (ac 1) (ac 0))) (e:=ac 0) (ds:=a.map kD) (GD v) (λx=>x) (by simp[am]) (by simp;ext) (λx B=>by
   obtain⟨k,G,rfl⟩:=mx.mp B
   exact⟨by simp[j7 (d:=kD k) (xs:=k) rfl],λ_=>by simp⟩)
 rw[vc]at q;have r:=we (n:=n) (d:=.lst ((EY v a++bR (DL left v a) (DL left v a).length).map kD)) (s:=s) rfl (Bs (j9 w)) (by simp;ext) (by rw[qM (j9 (v:=v) (left:=left) w)];exact AG w.n12 (j9 w));rw[qM (j9 (v:=v) (left:=left) w)]at r;have y:(cT (aB aZ (aa (ak mf (ac 0) (xC (.int 0))) (aa (ac 2) a_))):Xd []).p [J (am n a),J (.lst (left.map .int)),J (.int v),Y] s=.nx [J (am n a),J (.lst (left.map .int)),J (.int v),Y] s:=by simp[am,nO j hv]
 have z:(cT (aB bw (aa (ak mf (ac 0) (xC (.int 0))) (aa (ac 1) a_))):Xd []).p [J (am n a),J (.lst (left.map .int)),J (.int v),Y] s=.nx [J (am n a),J (.lst (left.map .int)),J (.int v),Y] s:=by simp[am,Co g]
 rw[o,au,y,PU.aq,au,z,PU.aq,au,bB,q];simp![Pg,PU.aq,q_,tr,de,gN,aY,cO,bY,bn,GH w j hv];rw[dP (by simp;ext)];rw[Ek]at r;dsimp![Pf,r,az,am,qw,ux];simp[o4]
def fJ(e:R7)(a:R6):Nat->R7
 |0=>e
 |j+1=>o4 (a.drop j) (a.getD j 0) (fJ e a j)
def eT(a:R7)(e:R6):Nat->R7
 |0=>a
 |j+1=>eT a e j++fJ a e (j+1)
def ar(e:R7)(a:R6):R7:=cU (SetT.n_ (eT e a a.length))
def kz(w:j_ n ks):∀j,j_ n (fJ ks qs j)
 |0=>w
 |j+1=>GG (kz w j)
def nJ(w:j_ n g):∀j,(∀k∈eT g qs j,∃a b:Int,k=[a,b]/\0<=a/\a<b/\b<n)/\(eT g qs j).length<=66+66*j
 |0=>⟨w.tie,by have:=gK w.n12 w.tie w.nd;simpa [eT]using this⟩
 |j+1=>by
  obtain⟨a,b⟩:=nJ (qs:=qs) w j;have e:=kz (qs:=qs) w (j+1)
  have:=gK e.n12 e.tie e.nd
  refine⟨λk i=>?_,by rw[eT,DO];ext⟩;rcases n9.mp i with q|q
  .exact a k q
  .exact e.tie k q
def iP(w:j_ n ks):j_ n (ar ks qs):=x4 w.n0 w.n12 (nJ w _).1
structure Ord(n:Nat)(qs:R6):Prop where
 n12:n<=12
 pm:qs.Perm (jj n)
def Ord.len(o:Ord n qs):qs.length=n:=by have:=o.pm.length_eq;simpa [jj]using this
def Ord.bd(o:Ord n e):∀q∈e,0<=q/\q<(n:Int):=λq a=>bO.mp (o.pm.mem_iff.mp a)
def Ord.at(o:Ord n qs)(a:j<qs.length):0<=qs.getD j 0/\qs.getD j 0<(n:Int):=o.bd _ (by
 have:qs.getD j 0=qs[j]:=by simp[a]
 rw[this];exact Ex a)
def BW{n:Nat}{t:R7}{a:R6}{s:h8}(w:j_ n t)(o:Ord n a):kE.p [am n t,.lst (a.map .int)] s=.ok (am n (ar t a)) s:=by
 have W:t.length<=66:=gK w.n12 w.tie w.nd;have ql:=o.len;have n12:=o.n12;rw[sw (by rfl)];delta kZ;have L:ki 6 [am n t,.lst (a.map .int)]=[J (am n t),J (.lst (a.map .int)),Y,Y,Y,Y]:=rfl
 obtain⟨H,y,e,C,z,rfl,O⟩:=cI (g:=(C_ (pa (i_ 4) (pa (i_ 5) C9)) 2:Xg [2]).p) (b:=(aG (bu 3 (aB fX (aa (ac 3) (aa (Du (ac 1) (Dt (ac 4)) Dr) (aa (ac 5) a_)))))
 (Db cV 2 (aa (ak mf (ac 3) (xC (.int 1))) a_)):Xd [2]).p)
  (λj env y=>∃C z,env=[J (am n t),J (.lst (a.map .int)),J (.lst ((eT t a j).map kD)),J (am n (fJ t a j)),C,z]/\y=s) (gG (a.map .int)) 0 [J (am n t),J (.lst (a.map .int)),J (.lst (t.map kD)),J (am n t),Y,Y] s ⟨Y,Y,rfl,rfl⟩ (λj env y d ⟨C,z,G,P⟩ hd=>by
   rw[zu]at G ⊢;subst G P;obtain⟨x,E,rfl⟩:=jH hd;obtain⟨rfl,F⟩:=kR E;have R:=kz (qs:=a) w j;have u:=kz (qs:=a) w (j+1);have Z:=(nJ (qs:=a) w j).2;have X:=gK u.n12 u.tie u.nd;have st:=wq (left:=a.drop j) (s:=y) R (o.at F).1 (o.at F).2 (λx E=>o.bd x (HJ E));have S:=jb (ns:=a) (j:=j) (by ext);refine⟨[J (am n t),J (.lst (a.map .int)),J (.lst ((eT t a j).map kD)),J (am n (fJ t a j)),J (.int (j:Int)),J (.int (a.getD j 0))],[J (am n t),J (.lst (a.map .int)),J (.lst ((eT t a (j+1)).map kD)),J (am n (fJ t a (j+1))),J (.int (j:Int)),J (.int (a.getD j 0))],y,by simp,?_,_,_,rfl,rfl⟩;rw[au,bB];simp![bn,yN,yZ,yX,y0,S,Pf,st,Pg,q_,tr,PU.aq]
   rw[dQ (s1:=y) (as:=[.tup ((fJ t a (j+1)).map kD)]) (ds:=(eT t a j).map kD) (ds':=(eT t a (j+1)).map kD) (r:=.non) (by simp[am,fJ]) rfl (by
    rw[Af (by simp;ext),eT,Ek])]
   rfl)
 rw[js,tu,zu,O]at e;obtain⟨at',al⟩:=nJ (qs:=a) w a.length;have r:=we (n:=n) (d:=.lst ((eT t a a.length).map kD)) (s:=s) rfl (Bs at') (by ext) (by rw[qM at'];exact AG w.n12 at');rw[qM at']at r;rw[L,au,xi,bn,av];simp![uj o.n12 o.pm,Pg,PU.aq];rw[au,dw,cF,av,aY];dsimp![aD,cO,bY,am,qw,Mf,Pf,az];rw[wU (by simp;ext)];simp![Pf,Pg,q_,tr,PU.aq,au,bB,cD,gc,Gw];unfold am at e;rw[e];simp![PU.aq,de,gN,aY,cO,bY,qw,ux,Pf,ye];rw[r];have M:Eo (D.tup ((cU (SetT.n_ (eT t a a.length))).map kD))=I:=by
  have U:∀k:R6,r_ (k.map .int)=I:=λk=>by
   induction k with
   |nil=>rfl
   |cons i k B=>simp[r_,flat,B]
  have Q:∀l:R7,r_ (l.map kD)=I:=λl=>by
   induction l with
   |nil=>rfl
   |cons i k B=>simp[r_,flat,B,kD,U]
  simp[Eo,flat,Q]
 simp[M,ar]
def pg:(dI lo c).length=c:=by simp[dI]
def pc(h:(dI 0 c)[i]?=J x):x=.int (i:Int)/\i<c:=by unfold dI at h;rw[yT,y9]at h;obtain⟨k,e,rfl⟩:=h;obtain⟨a,b⟩:=mw.mp e;simp at a b;subst b;exact⟨by simp,a⟩
def GJ{n:Nat}{s:h8}(E:n<=12):∃i l,mK.p [.pen,.int n] s=.ok (.lst (i.map .int)) l/\Ord n i:=by
 rw[zw (by rfl)];delta nh;have u:ki 4 [D.pen,.int n]=[J .pen,J (.int n),Y,Y]:=rfl;obtain⟨t,l,e,z,i,rfl,pm⟩:=cI (g:=(i_ 3:Xg [2]).p) (b:=(Db rV 2 (aa (aB ci (aa (ac 0) (aa (ak bE (ac 3) (xC (.int 1))) a_))) (aa (ac 3) a_)):Xd [2]).p)
  (λj env l=>∃z i,env=[J .pen,J (.int n),J (.lst ((i:R6).map .int)),z]/\i.Perm (jj j)) (dI 0 n) 0 [J .pen,J (.int n),J (.lst []),Y] s ⟨Y,[],rfl,by simp[jj]⟩ (λj env l d ⟨z,i,C,pm⟩ hd=>by
   rw[zu]at pm ⊢;subst C;obtain⟨rfl,G⟩:=pc hd;have B:i.length=j:=by have:=pm.length_eq;simpa [jj]using this
   obtain⟨d,o,y,H,F⟩:=iT (s:=l) (size:=(j:Int)+1) (by ext) (by ext);obtain⟨k,rfl⟩:=e8 y;refine⟨[J .pen,J (.int n),J (.lst (i.map .int)),J (.int (j:Int))],[J .pen,J (.int n),J (.lst ((i.take k++(j:Int)::i.drop k).map .int)),J (.int (j:Int))],o,rfl,?_,_,i.take k++(j:Int)::i.drop k,rfl,?_⟩
   .rw[dQ (s1:=o) (as:=[.int (k:Int),.int (j:Int)]) (ds':=(i.take k++(j:Int)::i.drop k).map .int) (r:=.non) (by simp[F]) rfl (by
     rw[Al (by simp;ext) (by simp;ext)];simp)]
    rfl
   .have:(i.take k++((j:Int))::i.drop k).Perm (((j:Int))::i):=by
     have:=KC (a:=(j:Int)) (l₁:=i.take k) (l₂:=i.drop k)
     rwa [Fc]at this
    refine this.trans ((pm.cons _).trans ?_);have e1:jj (j+1)=jj j++[(j:Int)]:=by simp[jj,List.range_succ]
    rw[e1]
    exact(Ot _ _).symm)
 rw[pg,zu]at pm;refine⟨i,l,?_,E,pm⟩;rw[u,au,dw];simp![dg,Do,vl,if_true,Pg,q_,tr,PU.aq,au,cD,gc];rw[uD (by ext),Dn,Pf,Pg,e,PU.aq,ko rfl,PU.dA]
def Kd(d:D):Prop:=∃t,EJ d=J t
def Om:D->Bool
 |.int _=>I
 |_=>T
def u_(n:Int):D->Bool
 |.int i=>decide (0<=i)&&decide (i<n)
 |_=>T
def GK(h:Kd d):ir.p [d] s=.ok (.bl (Om d)) s:=by rw[oB (by rfl)];delta ic;obtain⟨t,a⟩:=h;cases d<;>first | (done) | (done) | (simp[ki,cL,Om,EJ]at a ⊢)
def qX(h:Kd d):dD.p [.int n,d] s=.ok (.bl (u_ n d)) s:=by
 cases d with
 |int i=>exact qQ
 |_ =>
  rw[oE (by rfl)];delta im;simp[ki,GK h,Om,u_]
def t4(h:Kd d)(a:u_ n d=T):aZ.p [.int n,d] s=.exc "NoPlace" s:=by rw[gB (by rfl)];delta dL;simp[ki,qX h,a]
def xP:∀(bs:List Bool),gs (bs.map .bl)=J bs
 |[]=>rfl
 |b::bs=>by rw[wj,gs,xP bs];rfl
def uO:∀{ds:R9},(∀d∈ds,Om d=I)->∃a:R6,ds=a.map .int
 |[],_=>⟨[],rfl⟩
 |d::ds,h=>by
  obtain⟨a,rfl⟩:=uO λd hd=>h d (oh _ hd)
  have:=h d (by simp)
  cases d with
  |int i=>exact⟨i::a,rfl⟩
  |_=>cases this
def Rs(n:Nat)(e:R9):Prop:=∃a:R6,e=a.map .int/\a.Perm (jj n)
open Classical in
def jU(n:Nat):D->Bool
 |.lst a=>decide (Rs n a)
 |_=>T
def wS:∀{a b:R6},a.map D.int=b.map D.int->a=b
 |[],[],_=>rfl
 |x::a,y::b,e=>by
  injection e with e1 e2
  injection e1 with e1
  rw[e1,wS e2]
def CU:Rs n (qs.map .int)↔cB qs=jj n:=by
 constructor
 .rintro⟨a,e,pm⟩;rw[wS e];exact vL pm
 .intro h;exact⟨qs,rfl,by rw[<-h];exact(d4 qs).symm⟩
def Th(d:D):Prop:=Kd d/\∀a,d=.lst a->a.length<=60/\∀x∈a,Kd x
def No{d:D}{env:aE}{s:h8}{i:Nat}(h:Kd d)(e:env[i]?=J (J d)):(xB (C8 (fF ["list"]) (ac i)):Xt []).p env s=.ok (match d with|.lst _=>I|_=>T) s:=by obtain⟨t,a⟩:=h;simp only[g9,yF,nD e];cases d<;>first | (cases a;done) | (simp[cL]) | skip
def yL{n:Nat}{j:R7}{d:D}{s:h8}(F:n<=12)(h:Th d):hZ.p [am n j,d] s=.ok (.bl (jU n d)) s:=by
 rw[oJ (by rfl)];delta ib;rw[show ki 2 [am n j,d]=[J (am n j),J d]from rfl];have B:=No (env:=[J (am n j),J d]) (s:=s) (i:=1) h.1 rfl;rw[au,dG,mW,B]
 cases d with
 |lst a =>
  obtain⟨r,C⟩:=h.2 a rfl;dsimp![Ez,Pg,pu,if_false,eP,PU.aq];have q:=gf (ws:=[]) (ws':=[]) (env:=[J (am n j),J (.lst a)]) (s:=s) (fm:=[0]) (i:=ba (ac 1)) (t:=mh) (e:=(aB dD (aa (ak mf (ac 1) (xC (.int 0))) (aa (ac 0) a_)))) (ds:=a) (λ_=>I) (λx=>.bl (u_ n x)) (by simp) (by ext) (λx g=>⟨rfl,λ_=>by simp[am,qX (C x g)]⟩);rw[dC]at q;have e3:vJ.p [.lst (a.map λx=>.bl (u_ n x))]=J (.bl ((a.map (u_ n)).all id)):=by
   show((J (a.map λx=>D.bl (u_ n x))).bind gs).map _=_
   have:(a.map λx=>D.bl (u_ n x))=(a.map (u_ n)).map .bl:=by rw[zi];rfl
   rw[this,Ej,xP];rfl
  rw[au,dG,mW,g9,cF,av,q];dsimp![az,e3,Pf,Pl];by_cases z:∀x∈a,u_ n x=I
  .have o:(a.map (u_ n)).all id=I:=by rw[OQ];exact HR.mpr λx g=>z x g
   obtain⟨l,rfl⟩:=uO (ds:=a) λx g=>by
    have:=z x g
    cases x with
    |int i=>rfl
    |_=>cases this
   simp![o,Ez,Pg,pu,if_false,eP,PU.aq,de,aY,cF];rw[tQ (by rw[tu]at r;ext)];dsimp![Pf,am,cO,bY,qw,ux,az];rw[Ht (by ext),Dn,mD]
   have:decide (cB l=jj n)=jU n (.lst (l.map .int)):=by exact decide_eq_decide.mpr CU.symm
   simp[pk,this]
  .have o:(a.map (u_ n)).all id=T:=by
    rw[OQ];refine Bool.eq_false_iff.mpr λy=>z λx g=>HR.mp y x g
   have E:jU n (.lst a)=T:=by
    unfold jU;refine @decide_eq_false _ (_) λ⟨l,e,pm⟩=>z λx g=>?_;rw[e]at g;obtain⟨i,u,rfl⟩:=mx.mp g
    have:=bO.mp (pm.mem_iff.mp u)
    simp[u_,this.1,this.2]
   simp[o,E]
 |_=>simp[jU]
def Td(e:R7)(a b:Int):Prop:=[a,b]∈e\/[b,a]∈e
def Td.symm(h:Td ks a b):Td ks b a:=h.elim .inr .inl
inductive Wy(ks:R7)(P:Int->Prop):Int->Int->Prop where
 |tie{a b:Int}:Td ks a b->Wy ks P a b
 |thru{a b c:Int}:Wy ks P a c->P c->Wy ks P c b->Wy ks P a b
def Wy.symm(h:Wy ks P a b):Wy ks P b a:=by
 induction h with
 |tie t=>exact .tie t.symm
 |thru _ p _ i j=>exact .thru j p i
def Wy.mono(e:∀x,P x->Q x)(h:Wy ks P a b):Wy ks Q a b:=by
 induction h with
 |tie t=>exact .tie t
 |thru _ p _ i j=>exact .thru i (e _ p) j
def Wy.cut(l:∀x,Q x->P x\/x=v)(h:Wy ks Q a b):Wy ks P a b\/(Wy ks P a v/\Wy ks P v b):=by
 induction h with
 |tie t=>exact .inl (.tie t)
 |@thru a b c _ p _ i j =>
  rcases l _ p with p|rfl
  .rcases i with i|⟨e,r⟩<;>rcases j with j|⟨o,g⟩
   .exact .inl (.thru i p j)
   .exact .inr ⟨.thru i p o,g⟩
   .exact .inr ⟨e,.thru r p j⟩
   .exact .inr ⟨e,g⟩
  .exact .inr ⟨i.elim id (·.1),j.elim id (·.2)⟩
def Hy(w:j_ n ks)(h:Td ks a b):a≠b/\(0<=a/\a<n)/\0<=b/\b<n:=by rcases h with h|h<;>obtain⟨x,y,e,g,i,j⟩:=w.tie _ h<;>injection e with e1 e<;>injection e with e2 _<;>subst e1 e2<;>ext
def iF(w:j_ n ks):x∈C4 v ks↔Td ks v x:=by
 delta C4 Td below above;rw[n9,Ev,Ev];constructor
 .rintro (⟨k,g,e⟩|⟨k,g,e⟩)<;>obtain⟨a,b,rfl,_⟩:=w.tie k g
  .by_cases z:b=v
   .simp[z]at e;subst e z;exact .inr g
   .simp[z]at e
  .by_cases z:a=v
   .simp[z]at e;subst e z;exact .inl g
   .simp[z]at e
 .rintro (h|h)
  .exact .inr ⟨_,h,by simp⟩
  .exact .inl ⟨_,h,by simp⟩
def yu(s:ns.Pairwise (·<·)):[a,b]∈bR ns ns.length↔a∈ns/\b∈ns/\a<b:=by
 delta bR;rw[OF];constructor
 .rintro⟨i,g,h⟩;rw[Ey]at g;obtain⟨c,o,e⟩:=mx.mp h;injection e with e1 e
  injection e with e2 _
  subst e1 e2;have e1:ns.getD i 0=ns[i]:=by simp[g]
  rw[e1];obtain⟨j,l,r⟩:=NC o;rw[E3]at l;rw[HN]at r;have lt:=G1.mp s i (i+1+j) g (by ext) (by ext);rw[r]at lt;exact⟨Ex g,HJ o,lt⟩
 .rintro⟨t,u,lt⟩;obtain⟨i,g,rfl⟩:=NC t;obtain⟨j,l,rfl⟩:=NC u;have y:i<j:=by
   rcases Nat.lt_trichotomy i j with z|z | z
   .exact z
   .subst z;ext
   .have:=G1.mp s j i l g z;ext
  refine⟨i,Ey.mpr g,mx.mpr ⟨ns[j],?_,by simp[g]⟩⟩;rw[NB];exact⟨j-(i+1),by rw[E3];ext,by rw[HN];congr 1;ext⟩
def A7(w:j_ n ks):Td (o4 left v ks) x y↔(Td ks x y/\x≠v/\y≠v)\/(x≠y/\x∈left/\y∈left/\Td ks v x/\Td ks v y):=by
 obtain⟨r,s,t⟩:=mY w;have mem:∀a b:Int,[a,b]∈o4 left v ks↔([a,b]∈ks/\a≠v/\b≠v)\/(a<b/\a∈left/\b∈left/\Td ks v a/\Td ks v b):=λa b=>by
  delta o4;rw[(eJ _).mem_iff,SetT.j0,n9,yu r];delta EY DL;rw[E4,E4,E4,iF w,iF w];simp only[nk,Ew,or_false,G4,decide_eq_false_iff_not,decide_eq_true_eq,not_or];constructor
  .rintro (⟨q,g,j⟩|⟨⟨i,o⟩,⟨e,l⟩,lt⟩)
   .exact .inl ⟨q,λz=>g z.symm,λz=>j z.symm⟩
   .exact .inr ⟨lt,o,l,i,e⟩
  .rintro (⟨q,g,j⟩|⟨lt,o,l,i,e⟩)
   .exact .inl ⟨q,λz=>g z.symm,λz=>j z.symm⟩
   .exact .inr ⟨⟨i,o⟩,⟨e,l⟩,lt⟩
 delta Td;rw[mem,mem];constructor
 .rintro ((⟨q,g,j⟩|⟨lt,o,l,i,e⟩)|⟨q,g,j⟩|⟨lt,o,l,i,e⟩)
  .exact .inl ⟨.inl q,g,j⟩
  .exact .inr ⟨by ext,o,l,i,e⟩
  .exact .inl ⟨.inr q,j,g⟩
  .exact .inr ⟨by ext,l,o,e,i⟩
 .rintro (⟨q|q,g,j⟩|⟨ne,o,l,i,e⟩)
  .exact .inl (.inl ⟨q,g,j⟩)
  .exact .inr (.inl ⟨q,j,g⟩)
  .rcases Int.lt_or_gt_of_ne ne with lt|lt
   .exact .inl (.inr ⟨lt,o,l,i,e⟩)
   .exact .inr (.inr ⟨lt,l,o,e,i⟩)
def pr{n:Nat}(w:j_ n ks)(nd:qs.Nodup):∀j,j<=qs.length->(∀x y:Int,x≠y->x∈qs.drop j->y∈qs.drop j->(Td (fJ ks qs j) x y↔Wy ks (·∈qs.take j) x y))/\∀x y:Int,x∈qs.take j->¬Td (fJ ks qs j) x y
 |0,_=>by
  refine⟨λx y _ _ _=>⟨.tie,λh=>?_⟩,λx y h=>by simp at h⟩
  have:∀a b,Wy ks (·∈qs.take 0) a b->Td ks a b:=λa b h=>by
   induction h with
   |tie t=>exact t
   |thru _ p=>simp at p
  exact this _ _ h
 |j+1,W=>by
  obtain⟨s,R⟩:=pr w nd j (by ext);have g:j<qs.length:=by ext
  have E:=kz (qs:=qs) w j;have Q:qs.getD j 0=qs[j]:=by simp[List.getD,g]
  have C:qs.drop j=qs[j]::qs.drop (j+1):=Ox g;have u:qs.take (j+1)=qs.take j++[qs[j]]:=by rw[KG];simp[g]
  have G:qs[j]∉qs.drop (j+1):=by
   have:=List.Nodup.sublist (List.drop_sublist j qs) nd
   rw[C]at this;exact(Lg.mp this).1
  have U:∀x,x∈qs.take j->x∉qs.drop j:=λx l o=>by
   have:=nd
   rw[<-Fc j qs,G3]at this;exact this.2.2 x l x o rfl
  have mv:qs[j]∈qs.drop j:=by rw[C];exact BD
  have i:∀x,x∈qs.drop (j+1)->x∈qs.drop j:=λx h=>by rw[C];exact oh _ h
  have P:∀x,x∈qs.take (j+1)->x∈qs.take j\/x=qs[j]:=λx h=>by
   rw[u]at h;rcases n9.mp h with h|h
   .exact .inl h
   .exact .inr (by simpa using h)
  have B:∀x,x∈qs.take j->x∈qs.take (j+1):=λx h=>by rw[u];exact C7 _ h
  have S:qs[j]∈qs.take (j+1):=by rw[u];exact n4 _ BD
  refine⟨λx y ne e r=>?_,λx y e h=>?_⟩
  .have M:x≠qs[j]:=λz=>G (z▸e);have F:y≠qs[j]:=λz=>G (z▸r);rw[fJ,A7 E,Q];have H:=s x y ne (i x e) (i y r);have L:=s qs[j] x (Ne.symm M) mv (i x e);have O:=s qs[j] y (Ne.symm F) mv (i y r);constructor
   .rintro (⟨h,_⟩|⟨_,_,_,l,o⟩)
    .exact (H.mp h).mono B
    .exact .thru ((L.mp l).mono B).symm S ((O.mp o).mono B)
   .intro h;rcases h.cut P with h|⟨l,o⟩
    .exact .inl ⟨H.mpr h,M,F⟩
    .exact .inr ⟨ne,i x e,i y r,L.mpr l.symm,O.mpr o⟩
  .rw[fJ,A7 E,Q]at h;rcases P x e with e|rfl
   .rcases h with⟨h,_⟩|⟨_,h,_⟩
    .exact R x y e h
    .exact U x e h
   .rcases h with⟨_,h,_⟩|⟨_,_,_,h,_⟩
    .exact h rfl
    .exact (Hy E h).1 rfl
def u8:∀j,k∈eT ks qs j↔∃i≤j,k∈fJ ks qs i
 |0=>⟨λh=>⟨0,i3 _,h⟩,λ⟨i,a,h⟩=>by
  have z:i=0:=by ext
  subst z;exact h⟩
 |j+1=>by
  rw[eT,n9,u8 j]
  grind
def Bm{n:Nat}(w:j_ n ks)(nd:qs.Nodup){i j:Nat}{a b:Int}(r:qs[i]?=J a)(l:qs[j]?=J b)(ne:a≠b):Td (ar ks qs) a b↔Wy ks (·∈qs.take (min i j)) a b:=by
 obtain⟨B,G⟩:=mw.mp l;have o:∀{m i:Nat}{a:Int},qs[i]?=J a->m<=i->a∈qs.drop m:=λ{m i a} h s=>by
  obtain⟨g,e⟩:=mw.mp h;rw[NB];exact⟨i-m,by rw[E3];ext,by rw[HN,<-e];congr 1;ext⟩
 have mt:∀{m i:Nat}{a:Int},qs[i]?=J a->i<m->a∈qs.take m:=λ{m i a} h s=>by
  obtain⟨g,e⟩:=mw.mp h;rw[NB];exact⟨i,by rw[HP];ext,by rw[List.getElem_take];exact e⟩
 have mem:∀k,k∈ar ks qs↔∃m≤qs.length,k∈fJ ks qs m:=λk=>by
  delta ar;rw[(eJ _).mem_iff,SetT.j0,u8]
 have y:Td (ar ks qs) a b↔∃m≤qs.length,Td (fJ ks qs m) a b:=by
  delta Td;rw[mem,mem];constructor
  .rintro (⟨m,g,e⟩|⟨m,g,e⟩)
   .exact⟨m,g,.inl e⟩
   .exact⟨m,g,.inr e⟩
  .rintro⟨m,g,e|e⟩
   .exact .inl ⟨m,g,e⟩
   .exact .inr ⟨m,g,e⟩
 rw[y];constructor
 .rintro⟨m,s,h⟩;obtain⟨u,t⟩:=pr w nd m s;have E:m<=i:=OG λz=>t a b (mt r z) h;have C:m<=j:=OG λz=>t b a (mt l z) h.symm;exact((u a b ne (o r E) (o l C)).mp h).mono λx F=>(List.take_subset_take_left qs (by ext)) F
 .intro h;obtain⟨u,t⟩:=pr w nd (min i j) (by ext);exact⟨min i j,by ext,(u a b ne (o r (by ext)) (o l (by ext))).mpr h⟩
def aV(a:R6)(x:Int):Nat:=(iY x a).getD 0
def cq:∀{e:R6}{x:Int},x∈e->iY x e=J (aV e x)/\e[aV e x]?=J x
 |q::e,x,h=>by
  delta aV;by_cases z:q=x
  .simp[iY,z]
  .have g:x∈e:=by
    rcases nk.mp h with h|h
    .exact absurd h.symm z
    .exact h
   obtain⟨a,b⟩:=cq g;simp[iY,z,a,b]
def Np{a:R8}{N:Nat}{t:Xt a}{b:Xd a}(e:∀{Z h n},cE t.m b.m n Z h≠.bad->E6 t.m b.m Z h=cE t.m b.m n Z h){env:aE}{s:h8}:(M1 N t b e).p env s=eD t.p b.p N env s:=rfl
def cj:SV->D
 |none=>.non
 |some x=>.int x
def bW(F:R7)(a:R6)(v:Int):SV:=(a.drop (aV a v+1)).find? λx=>decide (x∈C4 v F)
def bh(n:Nat)(F:R7)(a:R6)(j:Nat):R9:=(jj n).map λv=>if aV a v<j then cj (bW F a v)else .non
def bV(n:Nat)(F:R7)(a:R6):D:=.lst ((jj n).map λv=>cj (bW F a v))
def db:(bh n F qs j).length=n:=by simp[bh,jj]
def eB(nd:qs.Nodup)(a:j<qs.length):aV qs qs[j]=j:=by have e:=(cq (Ex a)).2;obtain⟨g,i⟩:=mw.mp e;exact(List.getElem?_inj g nd).mp (by rw[e,C5 a])
def tj(l:R6):l.find? p=(l.filter p).head?:=by rw[List.head?_filter]
def yn(o:Ord n qs)(a:j<qs.length):bh n F qs (j+1)=(bh n F qs j).set (qs[j]).toNat (cj (bW F qs qs[j])):=by
 have nd:=o.pm.symm.nodup (fR n);have b:=o.bd _ (Ex a);apply G7;intro i;by_cases g:i<n
 .have e1:∀m,(bh n F qs m)[i]?=J (if aV qs (i:Int)<m then cj (bW F qs (i:Int))else .non):=λm=>by simp[bh,jj,g]
  rw[e1];by_cases z:(qs[j]).toNat=i
  .have l:(i:Int)=qs[j]:=by ext
   rw[z,BO (by rw[db];exact g),l,eB nd a,c_ (by ext)]
  .rw[pq z]
   have ne:aV qs (i:Int)≠j:=λh=>z (by
    have e:=(cq (o.pm.mem_iff.mpr (bO.mpr ⟨by ext,show(i:Int)<n by ext⟩))).2;rw[h,C5 a]at e;injection e with e
    ext)
   grind
 .rw[Eh (by rw[db];ext),Eh (by rw[List.length_set,db];ext)]
def xy(o:Ord n qs):bh n F qs n=(jj n).map λv=>cj (bW F qs v):=by
 refine HM λv hv=>?_;have e:=(cq (o.pm.mem_iff.mpr hv)).2
 have:=(mw.mp e).1
 rw[c_ (by rw[o.len]at this;exact this)]
def Bj{n:Nat}{l:R7}{a:R6}{s:h8}(w:j_ n l)(o:Ord n a):jw.p [am n l,.lst (a.map .int)] s=.ok (bV n (ar l a) a) s:=by
 have ql:=o.len;have n12:=o.n12;have wf:=iP (qs:=a) w;have nd:a.Nodup:=o.pm.symm.nodup (fR n);rw[qj (by rfl)];delta ju;rw[show ki 8 [am n l,.lst (a.map .int)]=[J (am n l),J (.lst (a.map .int)),Y,Y,Y,Y,Y,Y]from rfl]
 obtain⟨S,r,e,L,G,E,B,rfl,u⟩:=cI (g:=(C_ (pa (i_ 4) (pa (i_ 5) C9)) 2:Xg [3]).p) (b:=(aG (bu 6 (aB dq (aa (ac 2) (aa (ac 5) a_))))
 (aG (bu 7 (bz 1 [6] (ba (Du (ac 1) (Dt (ak bE (ac 4) (xC (.int 1)))) Dr)) (ws':=[]) (i_ 0) (xB (ak (Ea T) (ac 0) (ac 1))) (ac 0)))
 (Cs (Oj (ac 7)) (uN 3 (ak mf (ac 7) (xC (.int 0))) (ac 5)) ky)):Xd [3]).p)
  (λj env r=>∃L G E B,env=[J (am n l),J (.lst (a.map .int)),J (am n (ar l a)),J (.lst (bh n (ar l a) a j)),L,G,E,B]/\r=s) (gG (a.map .int)) 0 [J (am n l),J (.lst (a.map .int)),J (am n (ar l a)),J (.lst (bh n (ar l a) a 0)),Y,Y,Y,Y] s ⟨Y,Y,Y,Y,rfl,rfl⟩ (λj env r d ⟨L,G,E,B,Q,W⟩ hd=>by
   rw[zu]at Q ⊢;subst Q W;obtain⟨x,O,rfl⟩:=jH hd;obtain⟨rfl,C⟩:=kR O;have ev:a.getD j 0=a[j]:=by simp[List.getD,C]
   have b:=o.bd _ (Ex C);rw[ev];have nb:=Hw (s:=r) wf b.1 b.2;have R:=jb (ns:=a) (j:=j+1) (by ext);push_cast at R
   have q:=gf (ws:=[3]) (ws':=[]) (env:=[J (am n l),J (.lst (a.map .int)),J (am n (ar l a)),J (.lst (bh n (ar l a) a j)),J (.int (j:Int)),J (.int a[j]),J (.lst ((C4 a[j] (ar l a)).map .int)),B]) (s:=r) (fm:=[6]) (i:=ba (Du (ac 1) (Dt (ak bE (ac 4) (xC (.int 1)))) Dr)) (t:=xB (ak (Ea T) (ac 0) (ac 1))) (e:=ac 0) (ds:=(a.drop (j+1)).map .int) (Hx (C4 a[j] (ar l a))) (λx=>x) (by simp[R]) (by simp;ext) (λx O=>by
     obtain⟨i,P,rfl⟩:=mx.mp O
     exact⟨by simp[j7 (d:=.lst ((C4 a[j] (ar l a)).map .int)) rfl],λ_=>by simp⟩)
   rw[jh]at q;have Z:bW (ar l a) a a[j]=((a.drop (j+1)).filter λx=>decide (x∈C4 a[j] (ar l a))).head?:=by delta bW;rw[eB nd C,tj]
   have u:=yn (F:=ar l a) o C;rw[Z]at u;generalize ((a.drop (j+1)).filter λx=>decide (x∈C4 a[j] (ar l a)))=bs at q u;refine⟨[J (am n l),J (.lst (a.map .int)),J (am n (ar l a)),J (.lst (bh n (ar l a) a j)),J (.int (j:Int)),J (.int a[j]),E,B],[J (am n l),J (.lst (a.map .int)),J (am n (ar l a)),J (.lst (bh n (ar l a) a (j+1))),J (.int (j:Int)),J (.int a[j]),J (.lst ((C4 a[j] (ar l a)).map .int)),J (.lst (bs.map .int))],r,by simp,?_,_,_,_,_,rfl,rfl⟩;rw[au,bB];simp![bn,nb,Pg,q_,tr,PU.aq];rw[au,bB,q];simp only[Pg,q_,tr,PU.aq];rw[dG]
   cases bs with
   |nil =>
    have M:bh n (ar l a) a (j+1)=bh n (ar l a) a j:=by
     rw[u];apply G7;intro i;by_cases z:(a[j]).toNat=i
     .subst z;rw[BO (by rw[db];ext)]
      have:(bh n (ar l a) a j)[(a[j]).toNat]?=J (if aV a a[j]<j then cj (bW (ar l a) a a[j])else .non):=by
       have ei:(((a[j]).toNat:Nat):Int)=a[j]:=by ext
       have P:(a[j]).toNat<n:=by ext
       simp[bh,jj,P,ei]
      rw[this,eB nd C,f_ (by ext)];rfl
     .rw[pq z]
    rw[M];simp[rm]
   |cons y H =>
    have X:yU (bh n (ar l a) a j).length a[j]=J (a[j]).toNat:=by obtain⟨k,hk⟩:=e8 b.1;rw[hk,db,oi (by ext)];simp
    have tt:(Oj (ac 7):Xt [3]).p [J (am n l),J (.lst (a.map .int)),J (am n (ar l a)),J (.lst (bh n (ar l a) a j)),J (.int (j:Int)),J (.int a[j]),J (.lst ((C4 a[j] (ar l a)).map .int)),J (.lst ((y::H).map .int))] r=.ok I r:=by simp[rm]
    rw[tt,Pg,c_ rfl,Ab,rL (v:=.int y) (s1:=r) (j:=a[j]) (s2:=r) (ds:=bh n (ar l a) a j) (n:=(a[j]).toNat) (by simp) (by simp) rfl X,u]
    rfl)
 rw[js,tu,zu,u]at e;have e3:Gq.p (.lst [.non]) (.int (n:Int))=J (.lst (bh n (ar l a) a 0)):=by
  have er:(List.replicate n [D.non]).flatten=bh n (ar l a) a 0:=by
   delta bh;rw[show((jj n).map λv=>if aV a v<0 then cj (bW (ar l a) a v)else D.non)=List.replicate n .non from La.mpr ⟨by simp[jj],by simp⟩];clear e
   induction n with
   |zero=>rfl
   |succ n U=>simp[HK]at U ⊢
  show(if _ then _ else _)=_;rw[Dn,er,c_ ⟨by ext,by rw[db];ext⟩]
 rw[au,bB];simp![bn,BW w o,Pg,q_,tr,PU.aq];have i0:mf.p (am n l) (.int 0)=J (.int (n:Int)):=rfl;rw[au,dw];dsimp![aY,dg,av,cO,mV,az,C1,Do,show(0+1:Nat)<=100000 by decide,if_true,aD,bY,i0,Pf,e3,Pg,q_,tr,PU.aq];rw[au,cD];simp![gc,Gw,Pf,Pg];rw[e,PU.aq,ko (d:=.lst (bh n (ar l a) a a.length)) rfl,PU.dA,ql,xy o];rfl
inductive Ch(F:R7)(qs:R6):SV->R6->Prop where
 |nil:Ch F qs Y []
 |cons{x:Int}{l:R6}:Ch F qs (bW F qs x) l->Ch F qs (J x) (x::l)
def kO{n:Nat}(wf:j_ n F)(nd:a.Nodup){u x:Int}(s:u∈a)(h:bW F a u=J x):x∈a/\aV a u<aV a x/\Td F u x/\∀y∈a,aV a u<aV a y->Td F u y->aV a x<=aV a y:=by
 obtain⟨p,i,g,e,o⟩:=List.find?_eq_some_iff_getElem.mp h;have l:=g;rw[E3]at l;have ex:aV a x=aV a u+1+i:=by rw[HN]at e;rw[<-e];exact eB nd ⋯
 refine⟨by rw[<-e];exact HJ (Ex g),⋯,(iF wf).mp (of_decide_eq_true p),λy j lt t=>?_⟩;refine OG λz=>?_
 have:=o (aV a y-(aV a u+1)) ⋯
 obtain⟨B,r⟩:=mw.mp (cq j).2;rw[HN]at this;have e2:a[aV a u+1+(aV a y-(aV a u+1))]'⋯=y:=by
  have e3:aV a u+1+(aV a y-(aV a u+1))=aV a y:=by lia
  simp only[e3];exact r
 rw[e2]at this;simp[(iF wf).mpr t]at this
def B5{n:Nat}{e:R7}{a:R6}(w:j_ n e)(nd:a.Nodup){u x:Int}(g:u∈a)(i:x∈a)(lt:aV a u<aV a x):Td (ar e a) u x↔Wy e (·∈a.take (aV a u)) u x:=by
 have:=Bm w nd (cq g).2 (cq i).2 (λz=>by subst z;lia)
 grind
abbrev Rt:Xt [2]:=xB (ak (DZ I) (ac 3) (xC .non))
abbrev Ru:Xd [2]:=(aG (Db fO 2 (aa (ac 3) a_)) (bu 3 (ak mf (ac 0) (ac 3))))
def wc{n:Nat}{x:Int}(a:0<=x)(e:x<n):nw ((jj n).map λv=>cj (bW F qs v)) x=J (cj (bW F qs x)):=by obtain⟨k,rfl⟩:=e8 a;exact L2.cY (by simp[jj,show k<n by lia])
def zU{n:Nat}{F:R7}{g:R6}{z:SF}{s:h8}(wf:j_ n F)(i:Ord n g):∀(d N:Nat)(o:SV)(a:R6),(∀x,o=J x->x∈g/\n-aV g x<=d)->d+1<=N->a.length+d<=1000 ->
  ∃l,Ch F g o l/\eD Rt.p Ru.p N [J (bV n F g),z,J (.lst (a.map .int)),J (cj o)] s=.nx [J (bV n F g),z,J (.lst ((a++l).map .int)),J .non] s:=by
 have nd:g.Nodup:=i.pm.symm.nodup (fR n);intro d
 induction d with
 |zero =>
  intro N o a t hN _;obtain⟨N,rfl⟩:∃k,N=k+1:=⟨N-1,⋯⟩
  cases o with
  |none=>exact⟨[],.nil,by rw[eD];simp[cj,DZ]⟩
  |some x =>
   obtain⟨j,h⟩:=t x rfl
   have:=(mw.mp (cq j).2).1
   rw[i.len]at this;lia
 |succ d C =>
  intro N o a t hN O;obtain⟨N,rfl⟩:∃k,N=k+1:=⟨N-1,⋯⟩
  cases o with
  |none=>exact⟨[],.nil,by rw[eD];simp[cj,DZ]⟩
  |some x =>
   obtain⟨j,h⟩:=t x rfl;have u:=i.bd x j;have H:=(mw.mp (cq j).2).1;rw[i.len]at H;have M:=wc (F:=F) (qs:=g) u.1 u.2
   obtain⟨l,c,e⟩:=C N (bW F g x) (a++[x]) (λy B=>by
    obtain⟨E,P,_⟩:=kO wf nd j B
    exact⟨E,⋯⟩) ⋯ (by simp;lia)
   refine⟨x::l,.cons c,?_⟩;have G:Rt.p [J (bV n F g),z,J (.lst (a.map .int)),J (cj (J x))] s=.ok I s:=by simp[cj,DZ]
   have bb:Ru.p [J (bV n F g),z,J (.lst (a.map .int)),J (cj (J x))] s=.nx [J (bV n F g),z,J (.lst ((a++[x]).map .int)),J (cj (bW F g x))] s:=by rw[au,dQ (s1:=s) (as:=[.int x]) (ds:=a.map .int) (ds':=(a++[x]).map .int) (r:=.non) (by simp[show cj (J x)=.int x from rfl]) rfl (by rw[jd (by simp;lia)];simp),PU.aq];have L:cj (J x)=.int x:=rfl;simp[L,bV,M]
   rw[eD,G,Pg,c_ rfl,bb];refine e.trans ?_;simp
def nP{n:Nat}{F:R7}{a:R6}{u:Int}{s:h8}(wf:j_ n F)(o:Ord n a)(i:0<=u)(g:u<n):∃l,Ch F a (bW F a u) l/\eO.p [bV n F a,.int u] s=.ok (.lst (l.map .int)) s:=by have nd:=o.pm.symm.nodup (fR n);have j:=o.pm.mem_iff.mpr (bO.mpr ⟨i,g⟩);obtain⟨l,c,e⟩:=zU wf o n 400 (bW F a u) [] (λx r=>⟨(kO wf nd j r).1,⋯⟩) (by have:=o.n12;lia) (by have:=o.n12;simp;lia);refine⟨l,c,?_⟩;rw[qI (by rfl)];delta gw;rw[show ki 4 [bV n F a,.int u]=[J (bV n F a),J (.int u),Y,Y]from rfl];have t:=wc (F:=F) (qs:=a) i g;rw[au,dw];dsimp![dg,az,Do,vl,if_true,Pg,q_,PU.aq,au,bB,aY,aH,aD,bV,nV,t];refine(congrArg (λz:PS=>(z.then _).fin) e).trans ?_;rw[PU.aq,ko (d:=.lst (l.map .int)) rfl,PU.dA]
def wC(a:n<=12)(h:Th d)(e:jU n d=T):jw.p [am n ks,d] s=.exc "NoOrder" s:=by
 have c:fg.p [am n ks,d] s=.exc "NoOrder" s:=by rw[kw (by rfl)];delta fy;simp[ki,yL a h,e]
 have f:kE.p [am n ks,d] s=.exc "NoOrder" s:=by rw[sw (by rfl)];delta kZ;rw[show ki 6 [am n ks,d]=[J (am n ks),J d,Y,Y,Y,Y]from rfl];simp[c]
 rw[qj (by rfl)];delta ju;rw[show ki 8 [am n ks,d]=[J (am n ks),J d,Y,Y,Y,Y,Y,Y]from rfl];simp[f]
def Kj{ns:R6}{k:Int}(a:0<=k):jX (ns.map D.int) Y (J k)=(ns.take k.toNat).map .int:=by
 obtain⟨j,rfl⟩:=e8 a;delta jX;rw[HT.uY,tu,HT.xI,Dn,List.drop_zero,Nat.sub_zero,ON];by_cases z:j<=ns.length
 .rw[OJ z]
 .rw[Nat.min_eq_right ⋯,HH (by simp),HH (by simp;lia)]
abbrev yz(ks:R7):D:=.tup (ks.map kD)
def DM(v:Int)(a:R7):R6:=above v a++below v a
def GL(w:j_ n ks):x∈DM v ks↔Td ks v x:=by
 have:=iF (v:=v) (x:=x) w
 unfold C4 at this;delta DM;rw[n9]at this ⊢;exact⟨λh=>this.mp h.symm,λh=>(this.mpr h).symm⟩
def vd(w:j_ n ks):(DM v ks).Nodup/\(DM v ks).length<=12:=by
 obtain⟨a,_,g⟩:=mY w;have e:DL (C4 v ks) v ks=C4 v ks:=List.filter_eq_self.mpr λx i=>by simpa using i
 rw[e]at a g;have pm:(C4 v ks).Perm (DM v ks):=OB;exact⟨pm.nodup (a.imp λh=>by lia),by rw[<-pm.length_eq];exact g⟩
def BJ(w:j_ n ks):i4.p [yz ks,.int v] s=.ok (.lst ((DM v ks).map .int)) s:=by
 have y:=gK w.n12 w.tie w.nd;rw[Bo (by rfl)];delta o7;rw[show ki 2 [yz ks,.int v]=[J (yz ks),J (.int v)]from rfl]
 have o:=nU (ws:=[]) (ws':=[]) (env:=[J (yz ks),J (.int v)]) (s:=s) (fm:=[1]) (i:=ba (ac 0)) (t:=xB (ak C3 (ac 0) (ac 2))) (e:=ac 1) (ds:=ks.map kD) (λx=>match x with|.tup [.int a,.int b]=>decide (a=v)|_=>T) (λx=>match x with|.tup [.int a,.int b]=>.int b|_=>.non) (by simp) (by simp;lia) (λx g=>by
   obtain⟨k,j,rfl⟩:=mx.mp g;obtain⟨a,b,rfl,_⟩:=w.tie k j
   exact⟨.int a,.int b,rfl,by simp[kD],λ_=>by simp[kD]⟩)
 have r:=nU (ws:=[]) (ws':=[]) (env:=[J (yz ks),J (.int v)]) (s:=s) (fm:=[1]) (i:=ba (ac 0)) (t:=xB (ak C3 (ac 1) (ac 2))) (e:=ac 0) (ds:=ks.map kD) (λx=>match x with|.tup [.int a,.int b]=>decide (b=v)|_=>T) (λx=>match x with|.tup [.int a,.int b]=>.int a|_=>.non) (by simp) (by simp;lia) (λx g=>by
   obtain⟨k,j,rfl⟩:=mx.mp g;obtain⟨a,b,rfl,_⟩:=w.tie k j
   exact⟨.int a,.int b,rfl,by simp[kD],λ_=>by simp[kD]⟩)
 have o:=o.trans (congrArg (λl=>PR.ok (D.lst l) s) (pU ks w.tie));have r:=r.trans (congrArg (λl=>PR.ok (D.lst l) s) (qa ks w.tie));have u:=(vd (v:=v) w).2;unfold DM at u ⊢;rw[DO]at u;rw[de,aY,o,Pb,r,Pb,dP (by simp;lia)];simp
structure Se(n:Nat)(ks:R7)(P:Int->Prop)(v:Int)(m:Nat)(fs:R6):Prop where
 nd:fs.Nodup
 bd:∀x∈fs,0<=x/\x<(n:Int)
 hd:fs[0]?=J v
 le:m<=fs.length
 so:∀x∈fs,x=v\/Wy ks P v x
 cl:∀i x,i<m->fs[i]?=J x->i=0\/P x->∀y,Td ks x y->y∈fs
def Se.len(h:Se n ks P v m fs):fs.length<=n:=by
 have:=List.Nodup.length_le_of_subset h.nd λx a=>bO.mpr (h.bd x a)
 simpa [jj]using this
def Se.no(h:Se n ks P v m fs)(g:fs[m]?=J x)(c:¬(m=0\/P x)):Se n ks P v (m+1) fs :=
 ⟨h.nd,h.bd,h.hd,(mw.mp g).1,h.so,λi y j a d z t=>by
  by_cases e:i=m
  .subst e
   grind
  .exact h.cl i y ⋯ a d z t⟩
def Se.step{n:Nat}{v x:Int}{m:Nat}(w:j_ n ks)(h:Se n ks P v m fs)(l:fs[m]?=J x)(c:m=0\/P x):Se n ks P v (m+1) (fs++(DM x ks).filter λy=>!decide (y∈fs)):=by
 have B:=(mw.mp l).1;have j:∀y,y∈(DM x ks).filter (λy=>!decide (y∈fs))↔Td ks x y/\y∉fs:=λy=>by rw[E4,GL w];simp
 have r:∀y,Td ks x y->y=v\/Wy ks P v y:=λy t=>by
  rcases c with c|c
  .subst c;have e:=h.hd;rw[l]at e;cases e;exact .inr (.tie t)
  .rcases h.so x (Dm l)with e|e
   .subst e;exact .inr (.tie t)
   .exact .inr (.thru e c (.tie t))
 refine⟨G3.mpr ⟨h.nd,(vd w).1.filter _,λa s b o e=>?_⟩,λy g=>?_,?_,by simp;lia,λy g=>?_,λi y u g d z t=>?_⟩
 .subst e;exact((j a).mp o).2 s
 .rcases n9.mp g with g|g
  .exact h.bd y g
  .exact (Hy w ((j y).mp g).1).2.2
 .rw[yS ⋯];exact h.hd
 .rcases n9.mp g with g|g
  .exact h.so y g
  .exact r y ((j y).mp g).1
 .rw[yS ⋯]at g;by_cases e:i=m
  .grind
  .exact C7 _ (h.cl i y ⋯ g d z t)
def Se.all(h:Se n ks P v fs.length fs)(r:x≠v):x∈fs↔Wy ks P v x:=by
 refine⟨λm=>(h.so x m).resolve_left r,λe=>?_⟩;have g:=h.cl 0 v (mw.mp h.hd).1 h.hd (.inl rfl);have key:∀a b,Wy ks P a b->(∀y,Td ks a y->y∈fs)->b∈fs/\(P b->∀y,Td ks b y->y∈fs):=λa b e=>by
  have ex:∀b,b∈fs->P b->∀y,Td ks b y->y∈fs:=λb o p=>by
   obtain⟨i,l⟩:=C6.mp o;exact h.cl i b (mw.mp l).1 l (.inr p)
  induction e with
  |tie t=>exact λH=>⟨H _ t,ex _ (H _ t)⟩
  |thru _ p _ i j=>exact λH=>j ((i H).2 p)
 exact(key v x e g).1
abbrev Oo:Xt [3]:=xB (ak JY (ac 4) (o_ jT (aa (ac 3) a_)))
abbrev Rv:Xt [3]:=(Fa (xB (ak C3 (ac 4) (xC (.int 0)))) (xB (ak (Ea T) (ak mf (ac 3) (ac 4)) (Du (ac 1) Dr (Dt (ac 2))))))
abbrev RW:Xe [3]:=(bz 1 [3] (ba (aB i4 (aa (ac 0) (aa (ak mf (ac 3) (ac 4)) a_)))) (ws':=[1]) (i_ 0) (xB (ak (Ea I) (ac 0) (ac 1))) (ac 0))
abbrev Op:Xd [3]:=(aG (Cs Rv (Db cV 3 (aa RW a_)) ky)
 (bu 4 (ak bE (ac 4) (xC (.int 1)))))
abbrev Et(ks:R7)(qs:R6)(j:Nat)(fs:R6)(m:Nat):aE:=[J (yz ks),J (.lst (qs.map .int)),J (.int (j:Int)),J (.lst (fs.map .int)),J (.int (m:Int))]
def Kk{n:Nat}{a:R7}{g:R6}{j:Nat}{v:Int}{s:h8}(w:j_ n a)(o:Ord n g):∀(d N m:Nat)(fs:R6),n-m<=d->d+1<=N->Se n a (·∈g.take j) v m fs ->
  ∃l,eD Oo.p Op.p N (Et a g j fs m) s=.nx (Et a g j l l.length) s/\Se n a (·∈g.take j) v l.length l:=by
 have n12:=o.n12;have stop:∀(N m:Nat)(fs:R6),¬m<fs.length->Se n a (·∈g.take j) v m fs->∃l,eD Oo.p Op.p (N+1) (Et a g j fs m) s=.nx (Et a g j l l.length) s/\Se n a (·∈g.take j) v l.length l:=λN m fs P h=>by
  have:=h.le
  have em:m=fs.length:=by lia
  subst em;refine⟨fs,?_,h⟩;rw[eD]
  have:Oo.p (Et a g j fs fs.length) s=.ok T s:=by simp
  rw[this,Pg,f_ (by simp)]
 intro d
 induction d with
 |zero =>
  intro N m fs hd hN h;obtain⟨N,rfl⟩:∃k,N=k+1:=⟨N-1,⋯⟩
  have:=h.len
  exact stop N m fs ⋯ h
 |succ d B =>
  intro N m fs hd hN h;obtain⟨N,rfl⟩:∃k,N=k+1:=⟨N-1,⋯⟩;have L:=h.len;by_cases em:m<fs.length
  .have u:fs[m]?=J fs[m]:=C5 em;generalize fs[m]=x at u;have C:nw (fs.map D.int) (m:Int)=J (.int x):=L2.cY (by simp[u]);have ct:=Kj (ns:=g) (k:=(j:Int)) ⋯;rw[Dn]at ct;have F:=j7 (neg:=T) (x:=x) (d:=.lst ((g.take j).map .int)) (xs:=g.take j) rfl;have G:Oo.p (Et a g j fs m) s=.ok I s:=by simp[em]
   have to:Rv.p (Et a g j fs m) s=.ok (decide (m=0\/x∈g.take j)) s:=by
    by_cases z:m=0
    .simp[z]
    .have H:¬(m:Int)=0:=by lia
     dsimp![uA,g9,aY,aH,aD,cO,bY,Hu,AM,H,decide_false,pu,if_false,Pf,Pl,nV,C,yN,yX,yZ,y0,ct,Nd,F,z,false_or]
   have E:=vd (v:=x) w
   have q:=gf (ws:=[3]) (ws':=[1]) (env:=Et a g j fs m) (s:=s) (fm:=[3]) (i:=ba (aB i4 (aa (ac 0) (aa (ak mf (ac 3) (ac 4)) a_)))) (t:=xB (ak (Ea I) (ac 0) (ac 1))) (e:=ac 0) (ds:=(DM x a).map .int) (λd=>!Hx fs d) (λd=>d) (by
     simp![eY,bn,aY,nV,C,Pf,BJ w,gU]) (by rw[tu];lia) (λd hd=>by
     obtain⟨i,M,rfl⟩:=mx.mp hd
     exact⟨by simp[j7 (d:=.lst (fs.map .int)) rfl,Hx],λ_=>by simp⟩)
   have e3:(((DM x a).map D.int).filter (λd=>!Hx fs d)).map (λd=>d)=((DM x a).filter λy=>!decide (y∈fs)).map .int:=by rw[List.filter_map,zi];rfl
   rw[e3]at q;have O:((DM x a).filter λy=>!decide (y∈fs)).length<=12:=tx (QF _ _) E.2;rw[eD,G,Pg,c_ rfl];by_cases c:m=0\/x∈g.take j
   .have bb:Op.p (Et a g j fs m) s=.nx (Et a g j (fs++(DM x a).filter λy=>!decide (y∈fs)) (m+1)) s:=by
     rw[au,dG,to,Pg,c_ (by simp[c]),dQ (s1:=s) (as:=[.lst (((DM x a).filter λy=>!decide (y∈fs)).map .int)]) (ds:=fs.map .int) (ds':=(fs++(DM x a).filter λy=>!decide (y∈fs)).map .int) (r:=.non) (by rw[av,q];rfl) rfl (by rw[jG (by simp;lia),Ek]),PU.aq];simp
    rw[bb];exact B N (m+1) _ ⋯ ⋯ (h.step w u c)
   .have bb:Op.p (Et a g j fs m) s=.nx (Et a g j fs (m+1)) s:=by
     rw[au,dG,to,Pg,f_ (by simpa using c),eP,PU.aq];simp
    rw[bb];exact B N (m+1) _ ⋯ ⋯ (h.no u c)
  .exact stop N m fs em h
def Nq(e:R7)(a:R6)(j:Nat)(v:Int):R6:=(a.drop (j+1)).filter λx=>decide (x∈C4 v (ar e a))
def GN{n:Nat}{l:R7}{a:R6}{j:Nat}{s:h8}(w:j_ n l)(o:Ord n a)(r:j<a.length):jL.p [yz l,.lst (a.map .int),.int (j:Int)] s=.ok (.lst ((Nq l a j a[j]).map .int)) s:=by
 have n12:=o.n12;have P:=o.len;have nd:a.Nodup:=o.pm.symm.nodup (fR n);have wf:=iP (qs:=a) w;have B:=o.bd _ (Ex r);have hv:a[j]∈a:=Ex r;have y:=eB nd r;generalize L:a[j]=v at B hv y ⊢;obtain⟨fs,e,h⟩:=Kk (j:=j) (v:=v) (s:=s) w o n 400 0 [v] ⋯ ⋯ ⟨by simp,λx g=>by rw[G2.mp g];exact B,rfl,by simp,λx g=>.inl (G2.mp g),λi x F=>by lia⟩;have C:=jb (ns:=a) (j:=j+1) ⋯;push_cast at C
 have q:=gf (ws:=[3]) (ws':=[1]) (env:=Et l a j fs fs.length) (s:=s) (fm:=[3]) (i:=ba (Du (ac 1) (Dt (ak bE (ac 2) (xC (.int 1)))) Dr)) (t:=xB (ak (Ea T) (ac 0) (ac 1))) (e:=ac 0) (ds:=(a.drop (j+1)).map .int) (Hx fs) (λx=>x) (by simp[C]) (by simp;lia) (λx g=>by
   obtain⟨i,F,rfl⟩:=mx.mp g
   exact⟨by simp[j7 (d:=.lst (fs.map .int)) rfl],λ_=>by simp⟩)
 rw[jh]at q;have O:((a.drop (j+1)).filter λx=>decide (x∈fs))=Nq l a j v:=by
  refine List.filter_congr λx g=>?_;obtain⟨m,H,e⟩:=NB.mp g;rw[HN]at e;have u:j+1+m<a.length:=by simp at H;lia
  have G:aV a x=j+1+m:=by rw[<-e];exact eB nd u
  have M:x∈a:=HJ g;have ne:x≠v:=λz=>by rw[z,y]at G;lia
  rw[decide_eq_decide,h.all ne,iF wf,B5 w nd hv M ⋯,y]
 rw[O]at q;rw[za (by rfl)];delta mH;rw[show ki 5 [yz l,.lst (a.map .int),.int (j:Int)]=[J (yz l),J (.lst (a.map .int)),J (.int (j:Int)),Y,Y]from rfl];have E:nw (a.map D.int) (j:Int)=J (.int v):=L2.cY (by simp[r,L]);rw[au,dw];simp![dg,aY,nV,E,Pf,C1,Do,show(0+1:Nat)<=100000 by decide,if_true,Pg,q_,tr,PU.aq,au,bB,cO,bY];refine(congrArg (λz:PS=>(z.then _).fin) e).trans ?_;rw[PU.aq,de,q];rfl
abbrev RX:Xd [2]:=(aG (bu 5 (aB jL (aa (ac 0) (aa (ac 1) (aa (ac 3) a_)))))
 (Cs (xB (ak EI (ac 5) (bC a_))) (uN 2 (ak mf (ac 5) (xC (.int 0))) (ac 4)) ky))
abbrev K3(n:Nat)(ks:R7)(qs:R6)(j:Nat)(z3 z4 z5:SF):aE:=[J (yz ks),J (.lst (qs.map .int)),J (.lst (bh n (ar ks qs) qs j)),z3,z4,z5]
def Br{n:Nat}{l:R7}{a:R6}{s:h8}(w:j_ n l)(o:Ord n a):m4.p [yz l,.lst (a.map .int)] s=.ok (bV n (ar l a) a) s:=by
 have U:=o.len;have n12:=o.n12;have nd:a.Nodup:=o.pm.symm.nodup (fR n);have M:=gf (ws:=[2]) (ws':=[]) (env:=[J (yz l),J (.lst (a.map .int)),Y,Y,Y,Y]) (s:=s) (fm:=[]) (i:=ba (ac 1)) (t:=mh) (e:=xC .non) (ds:=a.map .int) (λ_=>I) (λ_=>.non) (by simp) (by simp;ext) (λx R=>⟨rfl,λ_=>by simp⟩);have X:(((a.map D.int).filter λ_=>I).map λ_=>D.non)=bh n (ar l a) a 0:=by rw[dC,zi];have a1:a.map ((λ_=>D.non)∘D.int)=List.replicate n .non:=La.mpr ⟨by simp[U],by simp⟩;have W:bh n (ar l a) a 0=List.replicate n .non:=La.mpr ⟨db,by simp[bh]⟩;rw[a1,W]
 rw[X]at M;obtain⟨S,u,e,G,H,E,rfl,C⟩:=cI (g:=(C_ (pa (i_ 3) (pa (i_ 4) C9)) 2:Xg [2]).p) (b:=RX.p)
  (λj env u=>∃G H E,env=K3 n l a j G H E/\u=s) (gG (a.map .int)) 0 (K3 n l a 0 Y Y Y) s ⟨Y,Y,Y,rfl,rfl⟩ (λj env u d ⟨G,H,E,P,hS⟩ hd=>by
   rw[zu]at P ⊢;subst P hS;obtain⟨x,R,rfl⟩:=jH hd;obtain⟨rfl,B⟩:=kR R;have ev:a.getD j 0=a[j]:=by simp[List.getD,B]
   have b:=o.bd _ (Ex B);rw[ev];have Q:=GN (s:=u) w o B;have pf:bW (ar l a) a a[j]=(Nq l a j a[j]).head?:=by delta bW Nq;rw[eB nd B,tj]
   have C:=yn (F:=ar l a) o B;rw[pf]at C;generalize Nq l a j a[j]=bs at Q C;refine⟨K3 n l a j (J (.int (j:Int))) (J (.int a[j])) E,K3 n l a (j+1) (J (.int (j:Int))) (J (.int a[j])) (J (.lst (bs.map .int))),u,by simp,?_,_,_,_,rfl,rfl⟩;rw[au,bB];simp![bn,Q,Pg,q_,tr,PU.aq];have O:=pk (neg:=I) (xs:=bs) (ys:=[]);rw[OP]at O;rw[dG];dsimp![g9,aY,aH,aD,dg,az,Do,vl,if_true,yG,O,Pf,Pl,Pg];delta K3
   cases bs with
   |nil =>
    have L:bh n (ar l a) a (j+1)=bh n (ar l a) a j:=by
     rw[C];apply G7;intro i;by_cases z:(a[j]).toNat=i
     .subst z;rw[BO (by rw[db];ext)]
      have:(bh n (ar l a) a j)[(a[j]).toNat]?=J (if aV a a[j]<j then cj (bW (ar l a) a a[j])else .non):=by
       have ei:(((a[j]).toNat:Nat):Int)=a[j]:=by ext
       have Z:(a[j]).toNat<n:=by ext
       simp[bh,jj,Z,ei]
      rw[this,eB nd B,f_ (by ext)];rfl
     .rw[pq z]
    rw[L];simp
   |cons y r =>
    have ix:yU (bh n (ar l a) a j).length a[j]=J (a[j]).toNat:=by obtain⟨k,hk⟩:=e8 b.1;rw[hk,db,oi (by ext)];simp
    rw[c_ (by simp),Ab,rL (v:=.int y) (s1:=u) (j:=a[j]) (s2:=u) (ds:=bh n (ar l a) a j) (n:=(a[j]).toNat) (by simp) (by simp) rfl ix,C]
    rfl)
 rw[js,tu,zu,C]at e;rw[yx (by rfl)];delta lV;rw[show ki 6 [yz l,.lst (a.map .int)]=[J (yz l),J (.lst (a.map .int)),Y,Y,Y,Y]from rfl];rw[au,dw,M];simp only[Pg,q_,tr,PU.aq];rw[au,cD];simp![gc,Gw,Pf,Pg];refine(congrArg (λz:PS=>(z.then _).fin) e).trans ?_;rw[PU.aq,U];delta K3;rw[ko (d:=.lst (bh n (ar l a) a n)) rfl,PU.dA,xy o];rfl
def Ch.det(h:Ch F qs o l)(a:Ch F qs o l'):l=l':=by
 induction h generalizing l' with
 |nil=>cases a;rfl
 |cons _ e =>
  cases a with
  |cons c=>rw[e c]
def Ch.len{n:Nat}{F:R7}{a:R6}(wf:j_ n F)(g:Ord n a){o:SV}{l:R6}(h:Ch F a o l):∀u∈a,bW F a u=o->aV a u+l.length+1<=n/\∀x∈l,x∈a:=by
 have nd:=g.pm.symm.nodup (fR n)
 induction h with
 |nil =>
  intro u i _
  have:=(mw.mp (cq i).2).1
  rw[g.len]at this;exact⟨by simp;ext,by simp⟩
 |@cons x l c j =>
  intro u i e;obtain⟨r,s,_⟩:=kO wf nd i e
  grind
def Qq(F:R7)(a:R6)(u:Int):R6:=Classical.epsilon λl=>Ch F a (bW F a u) l
def wu(h:Ch F qs (bW F qs u) l):Qq F qs u=l:=Ch.det (Classical.epsilon_spec ⟨l,h⟩) h
def dR(a:R6)(p:Int×Int):Int:=if aV a p.1<aV a p.2 then p.1 else p.2
def wh(F:R7)(a:R6)(e:SH):R6:=e.flatMap λp=>dR a p::Qq F a (dR a p)
abbrev jn(p:Int×Int):D:=.tup [.int p.1,.int p.2]
def DN(n:Nat)(a:SH):Prop:=∀p∈a,(0<=p.1/\p.1<(n:Int))/\0<=p.2/\p.2<(n:Int)
def Hz{F:R7}{a:R6}{g:SH}{m:Nat}{p:Int×Int}(e:g[m]?=J p):wh F a (g.take (m+1))=wh F a (g.take m)++dR a p::Qq F a (dR a p):=by delta wh;rw[KG,e];simp
def u6(h:DN n ps)(e:p∈ps):0<=dR qs p/\dR qs p<(n:Int):=by
 obtain⟨a,b⟩:=h p e;delta dR;split
 .exact a
 .exact b
def GO(o:Ord n qs)(hv:0<=v/\v<(n:Int)):du.p (qs.map .int) [.int v]=J (.int (aV qs v:Int)):=by
 have a:=o.pm.mem_iff.mpr (bO.mpr hv);have e:b9 (qs.map .int)=J qs:=by
  clear a o
  induction qs with
  |nil=>rfl
  |cons i k g=>rw[wj,b9,g];rfl
 show(b9 (qs.map .int)).bind _=_;rw[e,Ej,(cq a).1];rfl
def iC{n:Nat}(wf:j_ n F)(o:Ord n a)(i:∀u,0<=u/\u<(n:Int)->∃l,Ch F a (bW F a u) l):∀{ps:SH},DN n ps->(wh F a ps).length<=n*ps.length/\∀x∈wh F a ps,0<=x/\x<(n:Int)
 |[],_=>by simp[wh]
 |p::ps,h=>by
  obtain⟨t,r⟩:=iC wf o i λq j=>h q (oh _ j);have b:=u6 (qs:=a) h (BD);obtain⟨l,c⟩:=i _ b;obtain⟨y,s⟩:=c.len wf o _ (o.pm.mem_iff.mpr (bO.mpr b)) rfl;have e:wh F a (p::ps)=dR a p::l++wh F a ps:=by delta wh;rw[List.flatMap_cons,wu c]
  rw[e];refine⟨?_,λx g=>?_⟩
  .rw[DO,C1,C1,Nat.mul_succ];ext
  .rcases n9.mp g with g|g
   .rcases nk.mp g with rfl|g
    .exact b
    .exact o.bd x (s x g)
   .exact r x g
def HA{n:Int}{left:R6}{s:h8}(h:∀x∈left,0<=x/\x<n):bw.p [.int n,.tup (left.map .int)] s=.ok .non s:=by
 rw[gh (by rfl)];delta dz;obtain⟨o,a,e,z,rfl,u⟩:=cI (g:=(i_ 2:Xg []).p) (b:=(cT (aB aZ (aa (ac 0) (aa (ac 2) a_))):Xd []).p)
  (λj env a=>∃z,env=[J (.int n),J (.tup (left.map .int)),z]/\a=s) (left.map .int) 0 [J (.int n),J (.tup (left.map .int)),Y] s ⟨Y,rfl,rfl⟩ (λj env a d ⟨z,t,r⟩ hd=>by
   subst t r;obtain⟨i,l,rfl⟩:=mx.mp (Dm hd)
   exact⟨[J (.int n),J (.tup (left.map .int)),J (.int i)],[J (.int n),J (.tup (left.map .int)),J (.int i)],a,rfl,by simp[nO (h i l).1 (h i l).2],_,rfl,rfl⟩)
 rw[show ki 3 [D.int n,.tup (left.map .int)]=[J (.int n),J (.tup (left.map .int)),Y]from rfl]
 simp_all
abbrev K4:Xd [5]:=(cT (aB bw (aa (ak mf (ac 0) (xC (.int 0))) (aa (ac 3) a_))))
def zO{n:Nat}{ks:R7}{r:SH}{z1 z2 z3 z4 z5 z6 z7 z8:SF}{s:h8}(h:DN n r):∃l,xv (i_ 3:Xg [5]).p K4.p (r.map jn) [J (am n ks),z1,z2,z3,z4,z5,z6,z7,z8] s=.nx [J (am n ks),z1,z2,l,z4,z5,z6,z7,z8] s:=by
 obtain⟨t,i,e,l,rfl,u⟩:=cI (g:=(i_ 3:Xg [5]).p) (b:=K4.p) (λ_ env i=>∃l,env=[J (am n ks),z1,z2,l,z4,z5,z6,z7,z8]/\i=s) (r.map jn) 0 [J (am n ks),z1,z2,z3,z4,z5,z6,z7,z8] s ⟨z3,rfl,rfl⟩ (λj env i d ⟨l,z,y⟩ hd=>by
  subst z y;obtain⟨p,C,rfl⟩:=mx.mp (Dm hd);have c:=HA (s:=i) λx o=>by
   obtain⟨a,b⟩:=h p C;rcases nk.mp o with rfl|o
   .exact a
   .rw[G2.mp o];exact b
  have c:bw.p [.int (n:Int),jn p] i=.ok .non i:=c;have B:mf.p (am n ks) (.int 0)=J (.int (n:Int)):=rfl
  exact⟨[J (am n ks),z1,z2,J (jn p),z4,z5,z6,z7,z8],[J (am n ks),z1,z2,J (jn p),z4,z5,z6,z7,z8],i,rfl,by simp[B,c],_,rfl,rfl⟩)
 rw[u]at e;exact⟨l,e⟩
abbrev RY:Xd [5]:=(aG (bu 8 (Gn (xB (ak JY (Ep du (ac 1) (aa (ac 6) a_)) (Ep du (ac 1) (aa (ac 7) a_)))) (ac 6) (ac 7) I))
 (Db cV 5 (aa (ak bE (bC (aa (ac 8) a_)) (aB eO (aa (ac 4) (aa (ac 8) a_)))) a_)))
def tE{n:Nat}{i:R7}{a:R6}{ps:SH}{s:h8}(w:j_ n i)(o:Ord n a)(h:DN n ps)(h5:ps.length<=5):bU.p [am n i,.lst (a.map .int),.lst (ps.map jn)] s=.ok (.lst ((cB (SetT.cQ (wh (ar i a) a ps))).map .int)) s:=by
 have n12:=o.n12;have wf:=iP (qs:=a) w;have G:∀u,0<=u/\u<(n:Int)->∃l,Ch (ar i a) a (bW (ar i a) a u) l:=λu L=>by
  obtain⟨l,c,_⟩:=nP (s:=s) wf o L.1 L.2;exact⟨l,c⟩
 have O:∀m,(wh (ar i a) a (ps.take m)).length<=60:=λm=>by
  have:=(iC wf o G (ps:=ps.take m) λp B=>h p (NA B)).1
  have h2:(ps.take m).length<=5:=by rw[HP];ext
  have:=OL n12 h2
  ext
 obtain⟨t,U⟩:=zO (ks:=i) (z1:=J (.lst (a.map .int))) (z2:=J (.lst (ps.map jn))) (z3:=Y) (z4:=Y) (z5:=Y) (z6:=Y) (z7:=Y) (z8:=Y) (s:=s) h;obtain⟨Q,j,e,F,E,y,rfl,Z⟩:=cI (g:=(C_ (pa (i_ 6) (pa (i_ 7) C9)) 2:Xg [5]).p) (b:=RY.p)
  (λm env j=>∃F E y,env=[J (am n i),J (.lst (a.map .int)),J (.lst (ps.map jn)),t,J (bV n (ar i a) a),J (.lst ((wh (ar i a) a (ps.take m)).map .int)),F,E,y]/\j=s) (ps.map jn) 0 [J (am n i),J (.lst (a.map .int)),J (.lst (ps.map jn)),t,J (bV n (ar i a) a),J (.lst []),Y,Y,Y] s ⟨Y,Y,Y,rfl,rfl⟩ (λm env j d ⟨F,E,y,M,hS⟩ hd=>by
   rw[zu]at M ⊢;subst M hS;rw[yT,y9]at hd;obtain⟨p,R,rfl⟩:=hd;have B:=Dm R;obtain⟨ha,hb⟩:=h p B;have H:=GO o ha;have P:=GO o hb;have C:=u6 (qs:=a) h B;obtain⟨l,c,S⟩:=nP (s:=j) wf o C.1 C.2;have c1:=(c.len wf o _ (o.pm.mem_iff.mpr (bO.mpr C)) rfl).1;have W:=O m;refine⟨[J (am n i),J (.lst (a.map .int)),J (.lst (ps.map jn)),t,J (bV n (ar i a) a),J (.lst ((wh (ar i a) a (ps.take m)).map .int)),J (.int p.1),J (.int p.2),y],[J (am n i),J (.lst (a.map .int)),J (.lst (ps.map jn)),t,J (bV n (ar i a) a),J (.lst ((wh (ar i a) a (ps.take (m+1))).map .int)),J (.int p.1),J (.int p.2),J (.int (dR a p))],j,by simp,?_,_,_,_,rfl,rfl⟩;have s8:(Gn (xB (ak JY (Ep du (ac 1) (aa (ac 6) a_)) (Ep du (ac 1) (aa (ac 7) a_)))) (ac 6) (ac 7) I:Xe [5]).p [J (am n i),J (.lst (a.map .int)),J (.lst (ps.map jn)),t,J (bV n (ar i a) a),J (.lst ((wh (ar i a) a (ps.take m)).map .int)),J (.int p.1),J (.int p.2),y] j=.ok (.int (dR a p)) j:=by
    delta dR;by_cases z:aV a p.1<aV a p.2
    .simp[H,P,z]
    .simp[H,P,z]
   rw[au,bB,s8];simp only[Pg,q_,tr,PU.aq]
   rw[dQ (s1:=j) (as:=[.lst ((dR a p::l).map .int)]) (ds:=(wh (ar i a) a (ps.take m)).map .int) (ds':=(wh (ar i a) a (ps.take (m+1))).map .int) (r:=.non) (by
    simp![aY,dg,C1,Do,show(0+1:Nat)<=100000 by decide,if_true,bn,S];rw[dP (by simp;ext)]
    rfl) rfl (by rw[jG (by simp;ext),Hz R,wu c,Ek])]
   rfl)
 rw[tu,zu,KD,Z]at e;obtain⟨W,X⟩:=iC wf o G h;have si:=Hv (ns:=wh (ar i a) a ps) ⟨by have:=O ps.length;rw[KD]at this;ext,λx hx=>by have:=X x hx;ext⟩;rw[kK (by rfl)];delta jJ;rw[show ki 9 [am n i,.lst (a.map .int),.lst (ps.map jn)]=[J (am n i),J (.lst (a.map .int)),J (.lst (ps.map jn)),Y,Y,Y,Y,Y,Y]from rfl];rw[au,cD];dsimp![eY,aH,aD,gU,Pf,Pg];refine(congrArg (λz:PS=>(z.then _).fin) U).trans ?_;rw[PU.aq,au,bB];simp![bn,Bj w o,Pg,q_,tr,PU.aq];rw[au,dw];dsimp![dg,az,Do,vl,if_true,Pg,q_,tr,PU.aq];rw[au,cD];dsimp![eY,aH,aD,gU,Pf,Pg];refine(congrArg (λz:PS=>(z.then _).fin) e).trans ?_;simp![PU.aq,de,cF,si,Pf,Pg,PU.dA]
abbrev Qr:Xt [4]:=xB (ak (DZ I) (ac 7) (xC .non))
abbrev Qs:Xd [4]:=(aG (Db fO 4 (aa (ac 7) a_))
 (bu 7 (ak mf (ac 3) (ac 7))))
abbrev Nr(n:Nat)(F:R7)(qs:R6)(x0 x1 x2 x5 x6:SF)(acc:R6)(o:SV):aE:=[x0,x1,x2,J (bV n F qs),J (.lst (acc.map .int)),x5,x6,J (cj o)]
def Kl{n:Nat}{F:R7}{g:R6}{x0 x1 x2 x5 x6:SF}{s:h8}(wf:j_ n F)(i:Ord n g):∀(d N:Nat)(o:SV)(a:R6),(∀x,o=J x->x∈g/\n-aV g x<=d)->d+1<=N->a.length+d<=1000 ->
  ∃l,Ch F g o l/\eD Qr.p Qs.p N (Nr n F g x0 x1 x2 x5 x6 a o) s=.nx (Nr n F g x0 x1 x2 x5 x6 (a++l) Y) s:=by
 have nd:g.Nodup:=i.pm.symm.nodup (fR n);intro d
 induction d with
 |zero =>
  intro N o a t hN _;obtain⟨N,rfl⟩:∃k,N=k+1:=⟨N-1,by ext⟩
  cases o with
  |none=>exact⟨[],.nil,by rw[eD];simp[cj,DZ]⟩
  |some x =>
   obtain⟨j,h⟩:=t x rfl
   have:=(mw.mp (cq j).2).1
   rw[i.len]at this;ext
 |succ d B =>
  intro N o a t hN L;obtain⟨N,rfl⟩:∃k,N=k+1:=⟨N-1,by ext⟩
  cases o with
  |none=>exact⟨[],.nil,by rw[eD];simp[cj,DZ]⟩
  |some x =>
   obtain⟨j,h⟩:=t x rfl;have u:=i.bd x j;have O:=(mw.mp (cq j).2).1;have H:=wc (F:=F) (qs:=g) u.1 u.2
   obtain⟨l,c,e⟩:=B N (bW F g x) (a++[x]) (λy z=>by
    obtain⟨C,M,_⟩:=kO wf nd j z
    exact⟨C,by ext⟩) (by ext) (by simp;ext)
   refine⟨x::l,.cons c,?_⟩;have E:Qr.p (Nr n F g x0 x1 x2 x5 x6 a (J x)) s=.ok I s:=by simp[cj,DZ]
   have bb:Qs.p (Nr n F g x0 x1 x2 x5 x6 a (J x)) s=.nx (Nr n F g x0 x1 x2 x5 x6 (a++[x]) (bW F g x)) s:=by rw[au,dQ (s1:=s) (as:=[.int x]) (ds:=a.map .int) (ds':=(a++[x]).map .int) (r:=.non) (by simp[show cj (J x)=.int x from rfl]) rfl (by rw[jd (by simp;ext)];simp),PU.aq];have G:cj (J x)=.int x:=rfl;simp[G,bV,H]
   rw[eD,E,Pg,c_ rfl,bb];refine e.trans ?_;simp
abbrev RZ:Xd [4]:=(aG (bu 7 (ak mf (ac 1) (o_ Gr (aa (Ep du (ac 1) (aa (ac 5) a_)) (aa (Ep du (ac 1) (aa (ac 6) a_)) a_)))))
 (M1 400 Qr Qs m8))
def GP{n:Nat}{i:R7}{a:R6}{j:SH}{s:h8}(w:j_ n i)(o:Ord n a)(h:DN n j)(h5:j.length<=5):ss.p [yz i,.lst (a.map .int),.lst (j.map jn)] s=.ok (.lst ((cB (SetT.cQ (wh (ar i a) a j))).map .int)) s:=by
 have n12:=o.n12;have wf:=iP (qs:=a) w;have H:∀u,0<=u/\u<(n:Int)->∃l,Ch (ar i a) a (bW (ar i a) a u) l:=λu L=>by
  obtain⟨l,c,_⟩:=nP (s:=s) wf o L.1 L.2;exact⟨l,c⟩
 have P:∀m,(wh (ar i a) a (j.take m)).length<=60:=λm=>by
  have:=(iC wf o H (ps:=j.take m) λp B=>h p (NA B)).1
  have h2:(j.take m).length<=5:=by rw[HP];ext
  have:=OL n12 h2
  ext
 obtain⟨R,r,e,C,F,t,rfl,hs⟩:=cI (g:=(C_ (pa (i_ 5) (pa (i_ 6) C9)) 2:Xg [4]).p) (b:=RZ.p)
  (λm env r=>∃C F t,env=[J (yz i),J (.lst (a.map .int)),J (.lst (j.map jn)),J (bV n (ar i a) a),J (.lst ((wh (ar i a) a (j.take m)).map .int)),C,F,t]/\r=s) (j.map jn) 0 [J (yz i),J (.lst (a.map .int)),J (.lst (j.map jn)),J (bV n (ar i a) a),J (.lst []),Y,Y,Y] s ⟨Y,Y,Y,rfl,rfl⟩ (λm env r d ⟨C,F,t,O,hS⟩ hd=>by
   rw[zu]at O ⊢;subst O hS;rw[yT,y9]at hd;obtain⟨p,S,rfl⟩:=hd;have B:=Dm S;obtain⟨Q,M⟩:=h p B;have Z:=GO o Q;have r2:=GO o M;have bf:=u6 (qs:=a) h B;have U:dR a p∈a:=o.pm.mem_iff.mpr (bO.mpr bf);have t1:=P m;obtain⟨l',c',e'⟩:=Kl (x0:=J (yz i)) (x1:=J (.lst (a.map .int))) (x2:=J (.lst (j.map jn))) (x5:=J (.int p.1)) (x6:=J (.int p.2)) (s:=r) wf o n 400 (J (dR a p)) (wh (ar i a) a (j.take m)) (λx E=>by cases E;exact⟨U,by ext⟩) (by ext) (by ext);obtain⟨l,rfl,c⟩:∃l,l'=dR a p::l/\Ch (ar i a) a (bW (ar i a) a (dR a p)) l:=by
    cases c' with
    |cons c=>exact⟨_,rfl,c⟩
   refine⟨[J (yz i),J (.lst (a.map .int)),J (.lst (j.map jn)),J (bV n (ar i a) a),J (.lst ((wh (ar i a) a (j.take m)).map .int)),J (.int p.1),J (.int p.2),t],[J (yz i),J (.lst (a.map .int)),J (.lst (j.map jn)),J (bV n (ar i a) a),J (.lst ((wh (ar i a) a (j.take (m+1))).map .int)),J (.int p.1),J (.int p.2),J .non],r,by simp,?_,_,_,_,rfl,rfl⟩;have s7:(ak mf (ac 1) (o_ Gr (aa (Ep du (ac 1) (aa (ac 5) a_)) (aa (Ep du (ac 1) (aa (ac 6) a_)) a_))):Xe [4]).p [J (yz i),J (.lst (a.map .int)),J (.lst (j.map jn)),J (bV n (ar i a) a),J (.lst ((wh (ar i a) a (j.take m)).map .int)),J (.int p.1),J (.int p.2),t] r=.ok (cj (J (dR a p))) r:=by
    have g1:=(cq (o.pm.mem_iff.mpr (bO.mpr Q))).2;have W:=(cq (o.pm.mem_iff.mpr (bO.mpr M))).2;have a1:nw (a.map D.int) (aV a p.1:Int)=J (.int p.1):=L2.cY (by simp[g1]);have G:nw (a.map D.int) (aV a p.2:Int)=J (.int p.2):=L2.cY (by simp[W]);have ox:∀x:Int,cj (J x)=.int x:=λ_=>rfl;rw[ox];delta dR;simp![aY,cF,Ng,Z,r2,Pf,Gu,nV];by_cases z:aV a p.1<aV a p.2
    .rw[f_ (by ext),c_ z,a1,Pf]
    .by_cases y:aV a p.2<aV a p.1
     .rw[c_ (by ext),f_ z,G,Pf]
     .have X:aV a p.1=aV a p.2:=by ext
      rw[f_ (by ext),f_ z,X,G,Pf]
   rw[au,bB,s7];simp only[Pg,q_,tr,PU.aq];rw[Np m8];refine e'.trans ?_;rw[Hz S,wu c]
   rfl)
 rw[tu,zu,KD,hs]at e;obtain⟨t1,t2⟩:=iC wf o H h;have si:=Hv (ns:=wh (ar i a) a j) ⟨by have:=P j.length;rw[KD]at this;ext,λx E=>by have:=t2 x E;ext⟩;rw[BV (by rfl)];delta rE;rw[show ki 8 [yz i,.lst (a.map .int),.lst (j.map jn)]=[J (yz i),J (.lst (a.map .int)),J (.lst (j.map jn)),Y,Y,Y,Y,Y]from rfl];rw[au,bB];simp![bn,Br w o,Pg,q_,tr,PU.aq];rw[au,dw];dsimp![dg,az,Do,vl,if_true,Pg,q_,tr,PU.aq];rw[au,cD];dsimp![eY,aH,aD,gU,Pf,Pg];refine(congrArg (λz:PS=>(z.then _).fin) e).trans ?_;simp![PU.aq,de,cF,si,Pf,Pg,PU.dA]
def GQ{n:Nat}(a:Kd x)(j:Kd y)(h:u_ n x=T\/u_ n x=I/\u_ n y=T):bw.p [.int n,.tup [x,y]] s=.exc "NoPlace" s:=by
 have ok:∀{d:D},Kd d->u_ n d=I->aZ.p [.int n,d] s=.ok .non s:=λ{d} hd l=>by
  rw[gB (by rfl)];delta dL;simp[ki,qX hd,l]
 rw[gh (by rfl)];delta dz;rw[show ki 3 [D.int n,.tup [x,y]]=[J (.int n),J (.tup [x,y]),Y]from rfl,cD,eY];dsimp![aH,aD,show(D.tup [x,y]).items=J [x,y]from rfl,Pf,Pg];have g:∀(z:SF)(d:D),(i_ 2:Xg []).p d [J (.int n),J (.tup [x,y]),z]=J [J (.int n),J (.tup [x,y]),J d]:=λ_ _=>rfl;have b:∀(d:D),(cT (aB aZ (aa (ac 0) (aa (ac 2) a_))):Xd []).p [J (.int n),J (.tup [x,y]),J d] s=(aZ.p [.int n,d] s).go [J (.int n),J (.tup [x,y]),J d] λ_ env s=>.nx env s:=λd=>by
  rw[xi];simp
 rw[xv,g];dsimp only;rw[b];rcases h with h|⟨e,i⟩
 .rw[t4 a h];rfl
 .rw[ok a e,Pg,PU.fN,xv,g];dsimp only;rw[b,t4 j i];rfl
def Au:∀{l:SH},DN n l->∀g:SF,∃i,xv (i_ 3:Xg [5]).p K4.p (l.map jn++rest) [J (am n ks),z1,z2,g,z4,z5,z6,z7,z8] s=xv (i_ 3:Xg [5]).p K4.p rest [J (am n ks),z1,z2,i,z4,z5,z6,z7,z8] s
 |[],_,g=>⟨g,rfl⟩
 |p::l,h,g=>by
  obtain⟨i,e⟩:=Au (λq o=>h q (oh _ o)) (J (jn p));refine⟨i,?_⟩;have c:=HA (s:=s) λx j=>by
   obtain⟨a,b⟩:=h p BD;rcases nk.mp j with rfl|j
   .exact a
   .rw[G2.mp j];exact b
  have c:bw.p [.int (n:Int),jn p] s=.ok .non s:=c;have r:mf.p (am n ks) (.int 0)=J (.int (n:Int)):=rfl;have b:K4.p [J (am n ks),z1,z2,J (jn p),z4,z5,z6,z7,z8] s=.nx [J (am n ks),z1,z2,J (jn p),z4,z5,z6,z7,z8] s:=by simp[r,c]
  rw[wj,List.cons_append,xv,show(i_ 3:Xg [5]).p (jn p) [J (am n ks),z1,z2,g,z4,z5,z6,z7,z8]=J [J (am n ks),z1,z2,J (jn p),z4,z5,z6,z7,z8]from rfl];dsimp only;rw[b,PU.fN,e]
def lM(h:DN n ps)(j:Kd x)(g:Kd y)(i:u_ n x=T\/u_ n x=I/\u_ n y=T):bU.p [am n ks,d,.lst (ps.map jn++[.tup [x,y]])] s=.exc "NoPlace" s:=by
 obtain⟨a,e⟩:=Au (rest:=[.tup [x,y]]) (ks:=ks) (z1:=J d) (z2:=J (.lst (ps.map jn++[.tup [x,y]]))) (z4:=Y) (z5:=Y) (z6:=Y) (z7:=Y) (z8:=Y) (s:=s) h Y;have l:mf.p (am n ks) (.int 0)=J (.int (n:Int)):=rfl;have c:=GQ (s:=s) j g i;have b:xv (i_ 3:Xg [5]).p K4.p [.tup [x,y]] [J (am n ks),J d,J (.lst (ps.map jn++[.tup [x,y]])),a,Y,Y,Y,Y,Y] s=.exc "NoPlace" [J (am n ks),J d,J (.lst (ps.map jn++[.tup [x,y]])),J (.tup [x,y]),Y,Y,Y,Y,Y] s:=by rw[xv,show(i_ 3:Xg [5]).p (.tup [x,y]) [J (am n ks),J d,J (.lst (ps.map jn++[.tup [x,y]])),a,Y,Y,Y,Y,Y]=J [J (am n ks),J d,J (.lst (ps.map jn++[.tup [x,y]])),J (.tup [x,y]),Y,Y,Y,Y,Y]from rfl];simp[l,c]
 rw[kK (by rfl)];delta jJ;rw[show ki 9 [am n ks,d,.lst (ps.map jn++[.tup [x,y]])]=[J (am n ks),J d,J (.lst (ps.map jn++[.tup [x,y]])),Y,Y,Y,Y,Y,Y]from rfl];rw[au,cD];dsimp![eY,aH,aD,gU,Pf,Pg];refine(congrArg (λz:PS=>(z.then _).fin) (e.trans b)).trans ?_;rfl
def ur(g:n<=12)(h:DN n ps)(a:Th d)(i:jU n d=T):bU.p [am n ks,d,.lst (ps.map jn)] s=.exc "NoOrder" s:=by obtain⟨j,e⟩:=zO h;rw[kK (by rfl)];refine(congrArg (λz:PS=>(z.then _).fin) e).trans ?_;simp[wC g a i]
def lO{w d p:D}{s:h8}{c u:Str}(a:c="NoPlace"/\u="place"\/c="NoOrder"/\u="order")(h:bU.p [w,d,p] s=.exc c s):dB.p [w,d,p] s=.ok (.str u) s:=by
 rw[zj (by rfl)];delta mm;rw[show ki 6 [w,d,p]=[J w,J d,J p,Y,Y,Y]from rfl,au,bB];simp only[cO,mV,Pg,q_,tr,PU.aq];have t:(MZ ["NoOrder","NoPlace"] 3 4 (cT (aB bU (aa (ac 0) (aa (ac 1) (aa (ac 2) a_))))):Xd []).p [J w,J d,J p,J .non,Y,Y] s=.nx [J w,J d,J p,J (.exc c),Y,Y] s:=by
  have b:(cT (aB bU (aa (ac 0) (aa (ac 1) (aa (ac 2) a_)))):Xd []).p [J w,J d,J p,J .non,Y,Y] s=.exc c [J w,J d,J p,J .non,Y,Y] s:=by simp_all
  show(match(cT (aB bU (aa (ac 0) (aa (ac 1) (aa (ac 2) a_)))):Xd []).p _ s with|.exc c e s=>_|.rse _ _ _=>_|r=>r)=_;rw[b];dsimp only;rw[c_ (by rcases a with⟨rfl,_⟩|⟨rfl,_⟩<;>simp)];rfl
 rw[au,t];rcases a with⟨rfl,rfl⟩|⟨rfl,rfl⟩<;>rfl
def A6(a:PyData.strOk x=I):DK neg (.str x) (.str x)=J (.bl (!neg)):=by cases neg<;>simp[DK,py,Ct,SeqAt.shaped,PyData.canLay0,PyData.depth,PyData.eqv,a]
abbrev Oq:Xd []:=(Cs (Fa (xB (ak EI (aB dB (aa (ac 0) (aa (o_ ff (aa (ac 1) a_)) (aa (ak bE (ac 2) (bC (aa (ac 6) a_))) a_)))) (xC (.str "place")))) (xB (ak EI (aB dB (aa (ac 0) (aa (xC .non) (aa (bC (aa (ac 6) a_)) a_)))) (xC (.str "place"))))) (bG (xC (.bl T))) ky)
def Km{n:Nat}{g:R7}{a:R6}{e:SH}{x y:D}{o r j:SF}{s:h8}(B:a.length<=12)(h:DN n e)(z:e.length<=5)(t:Kd x)(i:Kd y)(l:u_ n x=T\/u_ n x=I/\u_ n y=T):
  Oq.p [J (am n g),J (.lst (a.map .int)),J (.lst (e.map jn)),o,r,j,J (.tup [x,y])] s=.nx [J (am n g),J (.lst (a.map .int)),J (.lst (e.map jn)),o,r,j,J (.tup [x,y])] s:=by
 have C:=lO (.inl ⟨rfl,rfl⟩) (lM (ks:=g) (d:=.lst (a.map .int)) (s:=s) h t i l);have u:=lO (.inl ⟨rfl,rfl⟩) (lM (ks:=g) (d:=.non) (ps:=[]) (s:=s) (λ_ h=>nomatch h) t i l);have E:DK I (.str "place") (.str "place")=J (.bl T):=A6 (by decide +kernel);rw[dG];simp![uA,g9,aY,bn,cF,nX (show(a.map D.int).length<=100000 by simp;ext),dg,C1,Do,show(0+1:Nat)<=100000 by decide,if_true];rw[dP (by simp;ext)]
 simp_all
def Qt{n:Nat}{o:R7}{e:R6}{a:SH}{x:D}{j i C:SF}{s:h8}(n0:0<n)(t:e.length<=12)(h:DN n a)(r:a.length<=5)(l:Kd x)(u:u_ n x=T):
  (dU (ba (be (aa (be (aa (ac 4) (aa (ac 4) a_))) (aa (be (aa (xC (.int 0)) (aa (ac 4) a_))) (aa (be (aa (ac 4) (aa (xC (.int 0)) a_))) a_))))) (i_ 6) Oq:Xd []).p [J (am n o),J (.lst (e.map .int)),J (.lst (a.map jn)),j,J x,i,C] s=.nx [J (am n o),J (.lst (e.map .int)),J (.lst (a.map jn)),j,J x,i,J (.tup [x,.int 0])] s:=by
 have y:Kd (.int 0):=⟨_,rfl⟩;have B:u_ n (.int 0)=I:=by simp[u_];ext
 rw[cD];simp![eY,gN,cO,bY,C1,Do,show(0+1+1:Nat)<=100000 by decide,show(0+1+1+1:Nat)<=100000 by decide,if_true,show(D.tup [.tup [x,x],.tup [.int 0,x],.tup [x,.int 0]]).items=J [.tup [x,x],.tup [.int 0,x],.tup [x,.int 0]]from rfl,Pf,Pg];have g:∀(z:SF)(d:D),(i_ 6:Xg []).p d [J (am n o),J (.lst (e.map .int)),J (.lst (a.map jn)),j,J x,i,z]=J [J (am n o),J (.lst (e.map .int)),J (.lst (a.map jn)),j,J x,i,J d]:=λ_ _=>rfl;rw[xv,g];dsimp only;rw[Km t h r l l (.inl u),PU.fN,xv,g];dsimp only;rw[Km t h r y l (.inr ⟨B,u⟩),PU.fN,xv,g];dsimp only;rw[Km t h r l y (.inl u),PU.fN,xv]
open Classical in
theorem AL(h:ds.length≠n):jU n (.lst ds)=T:=by refine decide_eq_false λ⟨a,e,pm⟩=>h ?_;rw[e,tu,pm.length_eq];simp[jj]
open Classical in
theorem HD{n:Nat}(a:x∈ds)(h:u_ n x=T):jU n (.lst ds)=T:=by
 refine decide_eq_false λ⟨j,e,pm⟩=>?_;rw[e]at a;obtain⟨i,g,rfl⟩:=mx.mp a
 have:=bO.mp (pm.mem_iff.mp g)
 simp[u_]at h;ext
def GR{a:R6}(h:a.length<=60):Th (.lst (a.map .int)):=⟨⟨_,rfl⟩,λ_ e=>by cases e;exact⟨by simpa using h,λx g=>by obtain⟨i,_,rfl⟩:=mx.mp g;exact⟨_,rfl⟩⟩⟩
abbrev Rw:Xd []:=(Cs (xB (ak EI (aB dB (aa (ac 0) (aa (ac 5) (aa (o_ ff (aa (ac 2) a_)) a_)))) (xC (.str "order")))) (bG (xC (.bl T))) ky)
def m5{n:Nat}{e:R7}{g:R6}{a:SH}{d:D}{l i j:SF}{s:h8}(r:n<=12)(z:a.length<=5)(h:DN n a)(o:Th d)(u:jU n d=T):
  Rw.p [J (am n e),J (.lst (g.map .int)),J (.lst (a.map jn)),l,i,J d,j] s=.nx [J (am n e),J (.lst (g.map .int)),J (.lst (a.map jn)),l,i,J d,j] s:=by
 have t:=lO (.inr ⟨rfl,rfl⟩) (ur (ks:=e) (s:=s) r h o u);have y:DK I (.str "order") (.str "order")=J (.bl T):=A6 (by decide +kernel);rw[dG];simp![g9,aY,bn,cF,nX (show(a.map jn).length<=100000 by simp;ext),Pf,t,cO,vU,yG,y,Pl,Pg,pu,if_false,eP]
def xw(E:SF->aE):∀(a:R9)(z:SF),(∀d∈a,∀z,g d (E z)=J (E (J d))/\b (E (J d)) s=.nx (E (J d)) s)->∃y,xv g b a (E z) s=.nx (E y) s
 |[],z,_=>⟨z,rfl⟩
 |d::a,z,h=>by
  obtain⟨e1,e2⟩:=h d BD z;obtain⟨y,e⟩:=xw E a (J d) λd hd=>h d (oh _ hd);exact⟨y,by rw[xv,e1];dsimp only;rw[e2,PU.fN,e]⟩
abbrev R0:Xe []:=(be (aa (ac 3) (aa (C8 J0 (xC (.int 1))) (aa (xC (.bl I)) (aa (xC .non) (aa (xC (.str "0")) (aa (be (aa (xC (.int 0)) a_)) (aa (bC (aa (xC (.int 0)) a_)) (aa EU (aa (ak JZ (xC (.int 10)) (xC (.int 60))) a_))))))))))
abbrev R1:Xe []:=(be (aa (xC .non) (aa (o_ kc (aa (ac 1) a_)) (aa (ak bE (ac 1) (bC (aa (xC (.int 0)) a_))) (aa (ak bE (Du (ac 1) (Dt (xC (.int 1))) Dr) (bC (aa (ac 3) a_))) (aa (Du (ac 1) (Dt (xC (.int 1))) Dr) (aa (ak bE (Du (ac 1) (Dt (xC (.int 1))) Dr) (bC (aa (bC (aa (xC (.int 0)) a_)) a_))) (aa EU (aa (xC (.str "order")) a_)))))))))
def AY{n:Nat}{ks:R7}{a:R6}{r:SH}{s:h8}(n0:0<n)(o:Ord n a)(h:DN n r)(u:r.length<=5):gE.p [am n ks,.lst (a.map .int),.lst (r.map jn)] s=.ok (.bl I) s:=by
 have n12:=o.n12;have Z:=o.len;have i0:mf.p (am n ks) (.int 0)=J (.int (n:Int)):=rfl;have en:J0.p (.int 1)=J (.int (-1)):=rfl;have ep:JZ.p (.int 10) (.int 60)=J (.int (10^60)):=c_ ⟨by decide,by decide,by decide⟩;have W:R0.p [J (am n ks),J (.lst (a.map .int)),J (.lst (r.map jn)),J (.int (n:Int)),Y,Y,Y] s=.ok (.tup [.int n,.int (-1),.bl I,.non,.str "0",.tup [.int 0],.lst [.int 0],.dic,.int (10^60)]) s:=by simp![gN,yF,cO,bY,Hs,mV,vU,en,Pf,C1,Do,show(0+1:Nat)<=100000 by decide,if_true,dg,A0,aY,ep,show(0+1+1+1+1+1+1+1+1+1:Nat)<=100000 by decide]
 obtain⟨E,C,e1⟩:∃E C,xv (i_ 4:Xg []).p (dU (ba (be (aa (be (aa (ac 4) (aa (ac 4) a_))) (aa (be (aa (xC (.int 0)) (aa (ac 4) a_))) (aa (be (aa (ac 4) (aa (xC (.int 0)) a_))) a_))))) (i_ 6) Oq:Xd []).p [.int n,.int (-1),.bl I,.non,.str "0",.tup [.int 0],.lst [.int 0],.dic,.int (10^60)] [J (am n ks),J (.lst (a.map .int)),J (.lst (r.map jn)),J (.int (n:Int)),Y,Y,Y] s=.nx [J (am n ks),J (.lst (a.map .int)),J (.lst (r.map jn)),J (.int (n:Int)),E,Y,C] s:=by
  have key:∀(t:R9)(G F:SF),(∀d∈t,Kd d/\u_ n d=T)->∃E C,xv (i_ 4:Xg []).p (dU (ba (be (aa (be (aa (ac 4) (aa (ac 4) a_))) (aa (be (aa (xC (.int 0)) (aa (ac 4) a_))) (aa (be (aa (ac 4) (aa (xC (.int 0)) a_))) a_))))) (i_ 6) Oq:Xd []).p t [J (am n ks),J (.lst (a.map .int)),J (.lst (r.map jn)),J (.int (n:Int)),G,Y,F] s=.nx [J (am n ks),J (.lst (a.map .int)),J (.lst (r.map jn)),J (.int (n:Int)),E,Y,C] s:=by
   intro t
   induction t with
   |nil=>intro G F _;exact⟨G,F,rfl⟩
   |cons d t U =>
    intro G F hd;obtain⟨k,b⟩:=hd d BD;obtain⟨E,C,e⟩:=U (J d) (J (.tup [d,.int 0])) λx B=>hd x (oh _ B);refine⟨E,C,?_⟩;rw[xv,show(i_ 4:Xg []).p d [J (am n ks),J (.lst (a.map .int)),J (.lst (r.map jn)),J (.int (n:Int)),G,Y,F]=J [J (am n ks),J (.lst (a.map .int)),J (.lst (r.map jn)),J (.int (n:Int)),J d,Y,F]from rfl];dsimp only;rw[Qt n0 (by ext) h u k b,PU.fN,e]
  refine key _ _ _ λd hd=>?_;simp only[nk,Ew,or_false]at hd;rcases hd with rfl|rfl|rfl|rfl|rfl|rfl|rfl|rfl|rfl<;>refine⟨⟨_,rfl⟩,?_⟩<;>simp[u_]<;>ext
 have c1:=jb (ns:=a) (j:=1) (by ext);have Q:jX (a.map D.int) (J 1) Y=(a.drop 1).map .int:=c1;have X:R1.p [J (am n ks),J (.lst (a.map .int)),J (.lst (r.map jn)),J (.int (n:Int)),E,Y,C] s=.ok (.tup [.non,.tup (a.map .int),.lst (a.map .int++[.int 0]),.lst ((a.drop 1).map .int++[.int n]),.lst ((a.drop 1).map .int),.lst ((a.drop 1).map .int++[.lst [.int 0]]),.dic,.str "order"]) s:=by simp![gN,cO,bY,mV,vU,cF,oX,Pf,aY,dg,C1,Do,show(0+1:Nat)<=100000 by decide,if_true,yN,yZ,yX,y0,Q,A0];rw[dP (by simp;ext),dP (by simp;ext),dP (by simp;ext)];dsimp![Pf,C1,Do,show(0+1+1+1+1+1+1+1+1:Nat)<=100000 by decide,if_true]
 obtain⟨y5,e2⟩:=xw (g:=(i_ 5:Xg []).p) (b:=Rw.p) (s:=s) (λz=>[J (am n ks),J (.lst (a.map .int)),J (.lst (r.map jn)),J (.int (n:Int)),E,z,C]) [.non,.tup (a.map .int),.lst (a.map .int++[.int 0]),.lst ((a.drop 1).map .int++[.int n]),.lst ((a.drop 1).map .int),.lst ((a.drop 1).map .int++[.lst [.int 0]]),.dic,.str "order"] Y λd hd z=>by
  refine⟨rfl,?_⟩;have L:∀{t:R9},t.length<=60->(∀x∈t,Kd x)->Th (.lst t):=λO P=>⟨⟨_,rfl⟩,λ_ e=>by cases e;exact⟨O,P⟩⟩;have S:∀{ns:R6}{x:D},x∈ns.map D.int->Kd x:=λB=>by obtain⟨i,_,rfl⟩:=mx.mp B;exact⟨_,rfl⟩
  have H:∀{d:D},Kd d->(∀t,d≠.lst t)->Th d:=λO P=>⟨O,λt e=>absurd e (P t)⟩;have dl:(a.drop 1).length=n-1:=by simp[Z]
  have hd:d=.non\/d=.tup (a.map .int)\/d=.lst (a.map .int++[.int 0])\/d=.lst ((a.drop 1).map .int++[.int n])\/d=.lst ((a.drop 1).map .int)\/d=.lst ((a.drop 1).map .int++[.lst [.int 0]])\/d=.dic\/d=.str "order":=by simpa using hd
  have M:∀{ns:R6}{y:D},Kd y->∀x∈ns.map D.int++[y],Kd x:=λR x B=>by
   rcases n9.mp B with B|B
   .exact S B
   .rw[G2.mp B];exact R
  rcases hd with rfl|rfl|rfl|rfl|rfl|rfl|rfl|rfl
  .exact m5 n12 u h (H ⟨_,rfl⟩ λ_ e=>by cases e) rfl
  .exact m5 n12 u h (H ⟨_,rfl⟩ λ_ e=>by cases e) rfl
  .exact m5 n12 u h (L (by simp;ext) (M ⟨_,rfl⟩)) (AL (by simp;ext))
  .exact m5 n12 u h (L (by simp;ext) (M ⟨_,rfl⟩)) (HD (x:=.int n) (by simp) (by simp[u_]))
  .exact m5 n12 u h (GR (by ext)) (AL (by rw[tu,dl];ext))
  .exact m5 n12 u h (L (by simp;ext) (M ⟨_,rfl⟩)) (HD (x:=.lst [.int 0]) (by simp) rfl)
  .exact m5 n12 u h (H ⟨_,rfl⟩ λ_ e=>by cases e) rfl
  .exact m5 n12 u h (H ⟨_,rfl⟩ λ_ e=>by cases e) rfl
 rw[vR (by rfl)];delta jQ;rw[show ki 7 [am n ks,.lst (a.map .int),.lst (r.map jn)]=[J (am n ks),J (.lst (a.map .int)),J (.lst (r.map jn)),Y,Y,Y,Y]from rfl];rw[au,bB];dsimp![aY,aH,aD,cO,bY,i0,Pf,Pg,q_,tr,PU.aq];rw[au,cD,eY,W];dsimp![show(D.tup [.int n,.int (-1),.bl I,.non,.str "0",.tup [.int 0],.lst [.int 0],.dic,.int (10^60)]).items=J [.int n,.int (-1),.bl I,.non,.str "0",.tup [.int 0],.lst [.int 0],.dic,.int (10^60)]from rfl,Pf,Pg];refine(congrArg (λz:PS=>(z.then _).fin) e1).trans ?_;rw[PU.aq,au,cD,eY,X];dsimp![show ∀l:R9,(D.tup l).items=J l from λ_=>rfl,Pf,Pg];refine(congrArg (λz:PS=>(z.then _).fin) e2).trans ?_;simp only[PU.aq,de,cO,Hs,Pg,PU.dA]
def HE(k e:R6):Prop:=∃a b c d:Int,k=[a,b]/\e=[c,d]/\(a<c\/(a=c/\b<d))
def GU(h:HE k k'):bZ k' k=T:=by
 obtain⟨a,b,c,d,rfl,rfl,h⟩:=h;simp only[bZ];by_cases z:c=a
 .rw[c_ z];simp;ext
 .rw[f_ z];simp;ext
def Kn(h:HE k k'):k≠k':=by
 obtain⟨a,b,c,d,rfl,rfl,h⟩:=h;intro e;injection e with e1 e
 injection e with e2 _
 ext
def su(S:aE->Prop)(f:D->D):∀(j:R9)(env:aE)(s:h8),S env ->
  (∀x∈j,∀env s,S env->∃a,g x env=J a/\S a/\∃b l,t a s=.ok b l/\(b=I->e a l=.ok (f x) l))->∃(xs:R9)(F:h8),fb g t e j env s=.ok (xs.map f) F/\xs.Sublist j
 |[],env,s,z,i=>⟨[],s,rfl,List.Sublist.refl _⟩
 |x::j,env,s,z,i=>by
  obtain⟨a,e1,u,b,l,e2,e3⟩:=i x (by simp) env s z;have o:=λy E=>i y (oh x E);obtain⟨r,B,e5,C⟩:=su S f j a l u o;rw[fb,e1];dsimp only;rw[e2,Pb]
  cases b with
  |true=>exact⟨x::r,B,by dsimp![e3 rfl,e5];rfl,C.cons_cons x⟩
  |false=>exact⟨r,B,by simp only[pu,if_false,e5],C.cons x⟩
def A5{ws ws':R8}{env:aE}{s s0:h8}{fm:R8}{i:Xi ws}{t:Xt ws'}{e:Xe ws'}{ds:R9}(f:D->D)(C:i.p env s=.ok ds s0)(B:ds.length<=100000)(a:∀x∈ds,∀s,∃b j,t.p (J x::fm.map λi=>(env[i]?).getD Y) s=.ok b j/\(b=I->e.p (J x::fm.map λi=>(env[i]?).getD Y) j=.ok (f x) j))(u:ws'.contains 0=T:=by exact ys rfl)(E:Fb 1 fm ws=ws':=by exact ys rfl)(o:e.fz=I:=by exact ys rfl):
  ∃(xs:R9)(l:h8),(bz 1 fm i (i_ 0 u) t e E o).p env s=.ok (.lst (xs.map f)) l/\xs.Sublist ds:=by
 obtain⟨r,l,e1,F⟩:=su (g:=(i_ 0 u:Xg ws').p) (λv=>∃z,v=z::fm.map λi=>(env[i]?).getD Y) f ds (BB 1 fm env) s0 ⟨Y,rfl⟩ λx G y s ⟨z,o⟩=>by
  subst o;obtain⟨b,j,e2,e3⟩:=a x G s;exact⟨_,rfl,⟨J x,rfl⟩,b,j,e2,e3⟩
 refine⟨r,l,?_,F⟩;rw[yk,C,Pb,c_ B,e1]
abbrev R3:Xe [3]:=(bz 1 [4,0,2] (eU Of (aa (ak bE (ac 4) (xC (.int 1))) (aa (ac 1) a_))) (ws':=[]) (i_ 0) (xB (ak C3 (aB ci (aa (ac 2) (aa (ac 3) a_))) (xC (.int 0)))) (be (aa (ac 1) (aa (ac 0) a_))))
def Ko{n:Nat}{m:Int}{s:h8}(hn:n<=12)(U:0<m)(h1:m<=5):∃o B,o3.p [.pen,.int n,.int m] s=.ok (yz o) B/\j_ n o:=by
 obtain⟨O,B,e,L,o,rfl,lt,tie,P⟩:=cI (g:=(i_ 4:Xg [3]).p) (b:=(Db cV 3 (aa R3 a_):Xd [3]).p)
  (λa env B=>∃L o,env=[J .pen,J (.int n),J (.int m),J (.lst ((o:R7).map kD)),L]/\o.Pairwise HE/\(∀k∈o,∃x y:Int,k=[x,y]/\0<=x/\x<y/\y<n/\x<a)/\o.length<=12*a) (dI 0 n) 0 [J .pen,J (.int n),J (.int m),J (.lst []),Y] s ⟨Y,[],rfl,.nil,by simp,by simp⟩ (λa env B d ⟨L,o,R,lt,tie,P⟩ hd=>by
   subst R;obtain⟨rfl,ha⟩:=pc hd
   obtain⟨xs,C,c,sub⟩:=A5 (ws:=[3]) (ws':=[]) (env:=[J .pen,J (.int n),J (.int m),J (.lst (o.map kD)),J (.int (a:Int))]) (s:=B) (s0:=B) (fm:=[4,0,2]) (i:=eU Of (aa (ak bE (ac 4) (xC (.int 1))) (aa (ac 1) a_))) (t:=xB (ak C3 (aB ci (aa (ac 2) (aa (ac 3) a_))) (xC (.int 0)))) (e:=be (aa (ac 1) (aa (ac 0) a_))) (ds:=dI ((a:Int)+1) (n-1-a)) (λx=>.tup [.int (a:Int),x]) (by
     simp![gc,aY,cO,bY,w9,Pf]
     rw[Nc ⟨by ext,by ext⟩,show((n:Int)-((a:Int)+1)).toNat=n-1-a by ext,Pf]) (by rw[pg];ext) (λx X s=>by
     obtain⟨d,C,_,_,Z⟩:=iT (s:=s) (size:=m) U (by ext);refine⟨decide (d=0),C,?_,λ_=>?_⟩
     .show (xB (ak C3 (aB ci (aa (ac 2) (aa (ac 3) a_))) (xC (.int 0))):Xt []).p [J x,J (.int (a:Int)),J .pen,J (.int m)] s=_;simp[Z]
     .show (be (aa (ac 1) (aa (ac 0) a_)):Xe []).p [J x,J (.int (a:Int)),J .pen,J (.int m)] C=_
      simp)
   have W:dI ((a:Int)+1) (n-1-a)=(List.range (n-1-a)).map λi=>.int ((a:Int)+1+(i:Nat)):=rfl;rw[W]at sub;obtain⟨l,F,rfl⟩:=List.sublist_map_iff.mp sub;have S:l.Pairwise (·<·):=Nx.sublist F;have ll:l.length<=n-1-a:=by have:=F.length_le;simpa using this
   have e2:(l.map λi=>D.int ((a:Int)+1+(i:Nat))).map (λx=>D.tup [.int (a:Int),x])=(l.map λi:Nat=>[(a:Int),(a:Int)+1+i]).map kD:=by rw[zi,zi];rfl
   rw[e2]at c;refine⟨[J .pen,J (.int n),J (.int m),J (.lst (o.map kD)),J (.int (a:Int))],[J .pen,J (.int n),J (.int m),J (.lst ((o++l.map λi:Nat=>[(a:Int),(a:Int)+1+i]).map kD)),J (.int (a:Int))],C,rfl,?_,_,_,rfl,?_,?_,?_⟩
   .rw[dQ (s1:=C) (as:=[.lst ((l.map λi:Nat=>[(a:Int),(a:Int)+1+i]).map kD)]) (ds:=o.map kD) (ds':=(o++l.map λi:Nat=>[(a:Int),(a:Int)+1+i]).map kD) (r:=.non) (by rw[av,c];rfl) rfl (by rw[jG (by simp;ext),Ek])];rfl
   .refine Ny.mpr ⟨lt,?_,λk u k' M=>?_⟩
    .rw[G6];exact S.imp λ{i j} h=>⟨_,_,_,_,rfl,rfl,.inr ⟨rfl,by ext⟩⟩
    .obtain⟨x,y,rfl,_,_,_,X⟩:=tie k u;obtain⟨i,_,rfl⟩:=mx.mp M;exact⟨_,_,_,_,rfl,rfl,.inl (by ext)⟩
   .intro k u;rcases n9.mp u with u|u
    .obtain⟨x,y,rfl,E,H,G,b4⟩:=tie k u;exact⟨x,y,rfl,E,H,G,by ext⟩
    .obtain⟨i,Q,rfl⟩:=mx.mp u
     have:=Ey.mp (F.subset Q)
     exact⟨_,_,rfl,by ext,by ext,by ext,by ext⟩
   .rw[DO,tu];ext)
 refine⟨o,B,?_,⟨by ext,by ext,λk u=>?_,lt.imp GU,lt.imp Kn⟩⟩
 .rw[Av (by rfl)];delta o6;rw[show ki 5 [D.pen,.int n,.int m]=[J .pen,J (.int n),J (.int m),Y,Y]from rfl,au,dw];dsimp![dg,az,Do,vl,if_true,Pg,q_,tr,PU.aq];rw[au,cD,gc,av];dsimp![aH,aD,az];rw[uD (by ext),Dn,Pf,Pg];refine(congrArg (λz:PS=>(z.then _).fin) e).trans ?_;simp![PU.aq,de,cF,oX,Pf,Pg,PU.dA]
 .obtain⟨x,y,rfl,E,H,G,_⟩:=tie k u;exact⟨x,y,rfl,E,H,G⟩
def Kp:∃(n:Nat)(u:h8),oR.p [.pen] s=.ok (.int (n:Int)) u/\n<=12:=by
 obtain⟨d,a,_,_,o⟩:=iT (s:=s) (size:=16) (by decide) (by decide);rw[AE (by rfl)];delta oN;rw[show ki 1 [D.pen]=[J .pen]from rfl,au,dG];dsimp![g9,aY,bn,av,aD,cO,bY,az,o];by_cases z:d=15
 .exact⟨12,a,by simp[z],by decide⟩
 .obtain⟨k,g,i,y,r⟩:=iT (s:=a) (size:=8) (by decide) (by decide);obtain⟨j,rfl⟩:=e8 i;obtain⟨n,e,t⟩:∃n:Nat,n<=12/\[D.int 4,.int 3,.int 5,.int 2,.int 6,.int 1,.int 0,.int 3][j]?=J (.int (n:Int)):=by
   have:j=0\/j=1\/j=2\/j=3\/j=4\/j=5\/j=6\/j=7:=by ext
   rcases this with rfl|rfl|rfl|rfl|rfl|rfl|rfl|rfl
   .exact⟨4,by decide,rfl⟩
   .exact⟨3,by decide,rfl⟩
   .exact⟨5,by decide,rfl⟩
   .exact⟨2,by decide,rfl⟩
   .exact⟨6,by decide,rfl⟩
   .exact⟨1,by decide,rfl⟩
   .exact⟨0,by decide,rfl⟩
   .exact⟨3,by decide,rfl⟩
  have l:=L2.cY t;exact⟨n,g,by simp[z,r,l],e⟩
def Kq:(fD (n+1)).p [.int i,.int i] s=.ok (.bl I) s:=by rw[sB (by rfl)];delta lm;simp[ki,cL,DZ]
def zY{ns:R6}{s:h8}(l:ns.length<=1000):ja.p [.lst (ns.map .int),.lst (ns.map .int)] s=.ok (.bl I) s:=by
 show(fD (7+1)).p _ s=_;rw[sB (by rfl)];delta lm;have g:ki 2 [D.lst (ns.map .int),D.lst (ns.map .int)]=[J (.lst (ns.map .int)),J (.lst (ns.map .int))]:=rfl;have r:rZ (ns.map D.int) (ns.map D.int)=(ns.map D.int).map λx=>.tup [x,x]:=by
  clear l g
  induction ns with
  |nil=>rfl
  |cons i ns a=>rw[wj];show D.tup [.int i,.int i]::rZ _ _=_;rw[a];rfl
 have q:=nU (ws:=[]) (ws':=[]) (env:=[J (.lst (ns.map .int)),J (.lst (ns.map .int))]) (s:=s) (fm:=[]) (i:=eU iZ (aa (ac 0) (aa (ac 1) a_))) (t:=mh) (e:=aB (fD 7) (aa (ac 0) (aa (ac 1) a_))) (ds:=(ns.map D.int).map λx=>.tup [x,x]) (λ_=>I) (λ_=>.bl I) (by simp[r]) (by simp;ext) (λx z=>by
   obtain⟨y,j,rfl⟩:=mx.mp z;obtain⟨i,_,rfl⟩:=mx.mp j
   exact⟨.int i,.int i,rfl,rfl,λ_=>by simp[Kq (n:=6)]⟩)
 have e2:((((ns.map D.int).map λx=>D.tup [x,x]).filter λ_=>I).map λ_=>D.bl I)=List.replicate ns.length (.bl I):=by rw[dC,zi];exact La.mpr ⟨by simp,by simp⟩
 rw[e2]at q;have B:vJ.p [.lst (List.replicate ns.length (.bl I))]=J (.bl I):=by
  have:∀m,gs (List.replicate m (.bl I))=J (List.replicate m I):=λm=>by
   induction m with
   |zero=>rfl
   |succ m a=>rw[HK,gs,a];rfl
  show(gs _).map _=_;rw[this];simp
 rw[g,au,dG];dsimp![g9,aY,aH,aD,cO,mV,show(DZ T).p (.lst (ns.map .int)) .non=J (.bl T)from rfl,Pf,Pl,Pg,pu,if_false,eP,PU.aq];rw[au,dG];dsimp![g9,yF,aH,aD,J6,J7,Lh,Pf,Pl,Pg];rw[c_ (by simp[cL]),au,dG];have o:(Fa (hJ (xB (C8 (fF ["list","tuple"]) (ac 0)))) (xB (ak EI (C8 (fF ["list"]) (ac 0)) (C8 (fF ["list"]) (ac 1)))):Xt []).p [J (.lst (ns.map .int)),J (.lst (ns.map .int))] s=.ok T s:=by simp[cL]
 rw[o,Pg,f_ (by simp),eP,PU.aq,de,Gs];have u:(ak C3 (o_ jT (aa (ac 0) a_)) (o_ jT (aa (ac 1) a_)):Xe []).p [J (.lst (ns.map .int)),J (.lst (ns.map .int))] s=.ok (.bl I) s:=by simp
 rw[u];dsimp![Pl,if_true];rw[cF,av,q];dsimp![az,B,Pf,Pl,Pg,PU.wW,PU.dA]
def GV{qs:R6}{ps:SH}:DK I (.tup [.lst (qs.map .int),.lst (ps.map jn)]) (.tup [.lst (qs.map .int),.lst (ps.map jn)])=J (.bl T):=by
 have e:ps.map jn=(ps.map λp=>[p.1,p.2]).map kD:=by rw[zi];rfl
 rw[e];obtain⟨a,b⟩:=gq qs;obtain⟨l,r⟩:=gr qs;obtain⟨c,d⟩:=vq (ps.map λp=>[p.1,p.2]);obtain⟨j,o⟩:=vb (ps.map λp=>[p.1,p.2]);have g:py (.tup [.lst (qs.map .int),.lst ((ps.map λp=>[p.1,p.2]).map kD)])=J (.tuple [.list (qs.map .int),.list ((ps.map λp=>[p.1,p.2]).map λk=>.tuple (k.map .int))]):=by simp only[py,D_,a,c,Lh]
 have cl:(PyData.tuple [.list (qs.map .int),.list ((ps.map λp=>[p.1,p.2]).map λk=>.tuple (k.map .int))]).canLay0=I:=by simp only[PyData.canLay0,PyData.canLayAll0,l,j,Bool.and_true]
 have i:=m6 cl (by simp only[PyData.depth,PyData.depthAll];ext);delta DK;rw[g];dsimp only;rw[c_ ⟨⟨by simp only[Ct,t3];ext,by simp only[Ct,t3];ext⟩,i,i⟩,SeqAt.eqv_refl _ cl];rfl
set_option maxHeartbeats 1000000
open Classical in
theorem Kr{d:Int}{b:Bool}:Gq.p (.int d) (.int (if b then 1 else 0))=J (.int (if b then d else 0)):=by have ok:IntMulOk d (if b then 1 else 0):=.of_right (by cases b<;>decide);refine(c_ ok).trans ?_;cases b<;>simp
def EZ:R6->Int×Int
 |[a,b]=>(a,b)
 |_=>(0,0)
def Ks{n:Nat}{j:R7}{env:aE}{s:h8}(w:j_ n j)(e1:env[1]?=J (J (.int (n:Int))))(e2:env[2]?=J (J (yz j))):∃o:SH,(ak bE (ak bE (o_ ff (aa (ac 2) a_)) (bz 2 [] (ba (ac 2)) (ws':=[]) (C_ (pa (i_ 0) (pa (i_ 1) C9)) 2) mh (be (aa (ac 1) (aa (ac 0) a_))))) (bz 1 [] (eU J3 (aa (ac 1) a_)) (ws':=[]) (i_ 0) mh (be (aa (ac 0) (aa (ac 0) a_)))):Xe [5,10]).p env s=.ok (.lst (o.map jn)) s/\DN n o/\n<=o.length/\o.length<=1000:=by
 have G:j.length<=66:=gK w.n12 w.tie w.nd;have n12:n<=12:=by have:=w.n12;lia
 have kp:j.map kD=(j.map EZ).map jn:=by rw[zi];refine HM λk g=>?_;obtain⟨a,b,rfl,_⟩:=w.tie k g;rfl
 have u:=nU (ws:=[5,10]) (ws':=[]) (env:=env) (s:=s) (fm:=[]) (i:=ba (ac 2)) (t:=mh) (e:=be (aa (ac 1) (aa (ac 0) a_))) (ds:=j.map kD) (λ_=>I) (λx=>match x with|.tup [a,b]=>.tup [b,a]|x=>x) (by rw[eY,nD e2];rfl) (by simp;lia) (λx z=>by
   obtain⟨k,g,rfl⟩:=mx.mp z;obtain⟨a,b,rfl,_⟩:=w.tie k g
   exact⟨.int a,.int b,rfl,rfl,λ_=>by simp[kD]⟩)
 have F:(((j.map kD).filter λ_=>I).map λx=>match x with|.tup [a,b]=>D.tup [b,a]|x=>x)=(j.map λk=>((EZ k).2,(EZ k).1)).map jn:=by rw[dC,zi,zi];refine HM λk g=>?_;obtain⟨a,b,rfl,_⟩:=w.tie k g;rfl
 rw[F]at u
 have y:=gf (ws:=[5,10]) (ws':=[]) (env:=env) (s:=s) (fm:=[]) (i:=eU J3 (aa (ac 1) a_)) (t:=mh) (e:=be (aa (ac 0) (aa (ac 0) a_))) (ds:=(jj n).map .int) (λ_=>I) (λx=>.tup [x,x]) (by
   rw[gc,av,nD e1];dsimp![az]
   rw[uD ⋯,Dn,mD];rfl) (by simp[jj];lia) (λx z=>⟨rfl,λ_=>by simp⟩)
 have C:((((jj n).map D.int).filter λ_=>I).map λx=>D.tup [x,x])=((jj n).map λv=>(v,v)).map jn:=by rw[dC,zi,zi];rfl
 rw[C]at y;have r:(jj n).length=n:=by simp[jj]
 refine⟨j.map EZ++(j.map λk=>((EZ k).2,(EZ k).1))++(jj n).map λv=>(v,v),?_,?_,by simp[r];lia,by simp[r];lia⟩
 .have c:(o_ ff (aa (ac 2) a_):Xe [5,10]).p env s=.ok (.lst ((j.map EZ).map jn)) s:=by
   rw[cF,av,nD e2];dsimp![az];rw[wU (by simp;lia),kp];rfl
  rw[aY,aY,c,Pb,u,Pb,dP (by simp;lia),Pf,Pb,y,Pb,dP (by simp[r];lia),Pf,Ek,Ek]
 .intro p l;have tb:∀k∈j,(0<=(EZ k).1/\(EZ k).1<(n:Int))/\0<=(EZ k).2/\(EZ k).2<(n:Int):=λk g=>by
   obtain⟨a,b,rfl,B,H,E⟩:=w.tie k g;exact⟨⟨B,by show a<_;lia⟩,by show 0<=b;lia,E⟩
  rcases n9.mp l with l|l
  .rcases n9.mp l with l|l
   .obtain⟨k,g,rfl⟩:=mx.mp l;exact tb k g
   .obtain⟨k,g,rfl⟩:=mx.mp l;exact⟨(tb k g).2,(tb k g).1⟩
  .obtain⟨v,hv,rfl⟩:=mx.mp l
   have:=bO.mp hv
   exact⟨this,this⟩
abbrev Rx:Xd [5,10]:=(Db fO 5 (aa (ak mf (ac 4) (aB ci (aa (ac 0) (aa (o_ jT (aa (ac 4) a_)) a_)))) a_))
def Ku(h:DN n sm)(M:0<c->0<sm.length)(O:sm.length<=1000)(G:c<=5):∃(a:SH)(o:SF)(l:h8),xv (i_ 6:Xg [5,10]).p Rx.p (dI 0 c) [J .pen,x1,x2,x3,J (.lst (sm.map jn)),J (.lst []),z6,Y,Y,Y,Y] s=.nx [J .pen,x1,x2,x3,J (.lst (sm.map jn)),J (.lst (a.map jn)),o,Y,Y,Y,Y] l/\DN n a/\a.length<=5:=by
 obtain⟨z,l,e,a,o,rfl,t,r⟩:=cI (g:=(i_ 6:Xg [5,10]).p) (b:=Rx.p)
  (λm env l=>∃(a:SH)(o:SF),env=[J .pen,x1,x2,x3,J (.lst (sm.map jn)),J (.lst (a.map jn)),o,Y,Y,Y,Y]/\DN n a/\a.length=m) (dI 0 c) 0 [J .pen,x1,x2,x3,J (.lst (sm.map jn)),J (.lst []),z6,Y,Y,Y,Y] s ⟨[],z6,rfl,(λ_ h=>nomatch h),rfl⟩ (λm env l d ⟨a,o,C,t,r⟩ hd=>by
   subst C;obtain⟨rfl,L⟩:=pc hd;obtain⟨k,y,E,H,B⟩:=iT (s:=l) (size:=(sm.length:Int)) ⋯ ⋯;obtain⟨j,rfl⟩:=e8 E;have u:j<sm.length:=by lia
   have F:nw (sm.map jn) (j:Int)=J (jn sm[j]):=L2.cY (by simp[u]);refine⟨[J .pen,x1,x2,x3,J (.lst (sm.map jn)),J (.lst (a.map jn)),J (.int (m:Int)),Y,Y,Y,Y],[J .pen,x1,x2,x3,J (.lst (sm.map jn)),J (.lst ((a++[sm[j]]).map jn)),J (.int (m:Int)),Y,Y,Y,Y],y,rfl,?_,_,_,rfl,λp i=>?_,by simp[r]⟩
   .rw[dQ (s1:=y) (as:=[jn sm[j]]) (ds':=(a++[sm[j]]).map jn) (by
     simp![aY,bn,cF,J9,tu,Pf,B,nV,F]) rfl (by rw[jd (by simp;lia),Ek];rfl)]
    rfl
   .rcases n9.mp i with i|i
    .exact t p i
    .rw[G2.mp i];exact h _ (Ex u))
 rw[pg]at r;exact⟨a,o,l,e,t,⋯⟩
def GW:∃B,jI.p [.pen] s=.ok (.bl I) B:=by
 obtain⟨n,s1,q1,n12⟩:=Kp (s:=s);obtain⟨d,s2,d0,d1,q2⟩:=iT (s:=s1) (size:=5) (by decide) (by decide);obtain⟨i,s3,q3,w⟩:=Ko (n:=n) (m:=1+d) (s:=s2) n12 ⋯ ⋯;obtain⟨e,P,q4,o⟩:=GJ (n:=n) (s:=s3) n12;obtain⟨W,q5,hs,sn,sl⟩:=Ks (env:=[J .pen,J (.int (n:Int)),J (yz i),J (.lst (e.map .int)),Y,Y,Y,Y,Y,Y,Y]) (s:=P) w rfl rfl;obtain⟨R,s5,c0,c1,q6⟩:=iT (s:=P) (size:=6) (by decide) (by decide);have O:=Kr (d:=R) (b:=decide (0<(n:Int)));obtain⟨c,X,U⟩:∃c:Nat,c<=5/\(if decide (0<(n:Int))=I then R else 0)=(c:Int)/\(0<c->0<n):=by
  by_cases z:0<(n:Int)
  .obtain⟨c,rfl⟩:=e8 c0;exact⟨c,⋯,c_ (decide_eq_true z),λ_=>by lia⟩
  .exact⟨0,⋯,f_ (by rw[decide_eq_true_eq];exact z),λh=>by lia⟩
 rw[U.1]at O;obtain⟨j,y6,g,Z,F,E⟩:=Ku (n:=n) (c:=c) (x1:=J (.int (n:Int))) (x2:=J (yz i)) (x3:=J (.lst (e.map .int))) (z6:=Y) (s:=s5) hs (λh=>by have:=U.2 h;lia) sl X;have ql:=o.len;have H:=tE (s:=g) w o F E;have S:=GP (s:=g) w o F E;have G:=tE (s:=g) (ps:=[]) w o (λ_ h=>nomatch h) (by simp);have G:bU.p [am n i,.lst (e.map .int),.lst []] g=.ok (.lst []) g:=G.trans (by simp[wh,SetT.cQ,cB]);have wf:=iP (qs:=e) w;have M:∀u,0<=u/\u<(n:Int)->∃l,Ch (ar i e) e (bW (ar i e) e u) l:=λu Q=>by
  obtain⟨l,c,_⟩:=nP (s:=s) wf o Q.1 Q.2;exact⟨l,c⟩
 have fl:(cB (SetT.cQ (wh (ar i e) e j))).length<=60:=by have a:=(iC wf o M F).1;have b:=SetT.yg (wh (ar i e) e j);have c:=OL n12 E;rw[(d4 _).length_eq];lia
 generalize cB (SetT.cQ (wh (ar i e) e j))=L at H S fl;have C:=zY (ns:=L) (s:=g) ⋯;have t:=zY (ns:=[]) (s:=g) (by simp);have t:ja.p [.lst [],.lst []] g=.ok (.bl I) g:=t;have eh:=GV (qs:=e) (ps:=j);have ld:Eo (.bl I)=I:=rfl;have i0:∀x y:D,mf.p (.tup [x,y]) (.int 0)=J x:=λ_ _=>rfl;have i1:∀x y:D,mf.p (.tup [x,y]) (.int 1)=J y:=λ_ _=>rfl;have wd:D.tup [.int (n:Int),yz i]=am n i:=rfl;have lq:=nX (x:=e.map D.int) (by simp;lia);have lp:=nX (x:=j.map jn) (by simp;lia);have fin:∃B,(JS (ak C3 (ac 1) (xC (.int 0))) (aB gE (aa (ac 7) (aa (ac 3) (aa (ac 5) a_)))):Xe [10]).p [J .pen,J (.int (n:Int)),J (yz i),J (.lst (e.map .int)),J (.lst (W.map jn)),J (.lst (j.map jn)),y6,J (am n i),J (.lst (L.map .int)),J (.tup [.lst (e.map .int),.lst (j.map jn)]),J (.lst (L.map .int++[.int 0]))] g=.ok (.bl I) B:=by
  by_cases z:n=0
  .exact⟨g,by simp[z]⟩
  .have rf:=AY (ks:=i) (s:=g) ⋯ o F E;refine⟨g,?_⟩;simp![J4,aY,cO,bY,Hu,AM,show ¬(n:Int)=0 by lia,decide_false,pu,if_false,Pf,Pl,bn,rf]
 obtain⟨B,fin⟩:=fin;refine⟨B,?_⟩;rw[yE (by rfl)];delta jA;rw[show ki 11 [D.pen]=[J .pen,Y,Y,Y,Y,Y,Y,Y,Y,Y,Y]from rfl];rw[au,bB];dsimp![bn,av,aD,az,q1,Pg,q_,tr,PU.aq];rw[au,bB];simp![bn,aY,cO,bY,q2,w9,Pf,q3,Pg,q_,tr,PU.aq];rw[au,bB];simp![bn,q4,Pg,q_,tr,PU.aq];rw[au,bB,q5];simp only[Pg,q_,tr,PU.aq];rw[au,dw];dsimp![dg,az,Do,vl,if_true,Pg,q_,tr,PU.aq];rw[au,cD];simp![gc,aY,bn,cO,bY,q6,cF,J5,Pf,J8,O];rw[uD ⋯,Dn,Pf,Pg];refine(congrArg (λz:PS=>(z.then _).fin) Z).trans ?_;rw[PU.aq,Nk (x:=.lst (j.map jn)) (d:=.bl I) (s':=B) rfl ?_,PU.dA];rw[au,bB];simp![gN,C1,Do,show(0+1+1:Nat)<=100000 by decide,if_true,wd,Pg,q_,tr,PU.aq];rw[au,bB];simp![bn,S,Pg,q_,tr,PU.aq];rw[au,bB];simp![gN,cF,lq,lp,Pf,C1,Do,show(0+1+1:Nat)<=100000 by decide,if_true,Pg,q_,tr,PU.aq];rw[au,dw];simp![bn,aY,cO,bY,i0,i1,Pf,H,Pg,q_,tr,PU.aq];rw[au,dG];simp![uA,mW,g9,ye,C,ld,if_true,Pl,Ez,pu,if_false,aY,gN,C1,Do,show(0+1+1:Nat)<=100000 by decide,yG,eh,Pf,Pg,eP,PU.aq];rw[au,dQ (s1:=g) (as:=[.int 0]) (ds:=L.map .int) (ds':=L.map .int++[.int 0]) (r:=.non) (by dsimp![av,cO,bY,az]) rfl (by rw[jd (by simp;lia)]),PU.aq];simp only[q_,tr];rw[au,dG];simp![uA,mW,g9,bn,H,C,Pl,Ez,pu,if_false,dg,Do,vl,if_true,G,t,Pg,eP,PU.aq];rw[de,fin,Pg]
set_option maxHeartbeats 1000000
def vx{c:Bool}(em:m Z (h++[.lst [.str a,.str b]])=.ok (.bl c) (h++[.lst [.str a,.str b]])):(ai aL (aR (ae (mC (.str a)) (ae (mC (.str b)) b_))) (lx yY (ae m b_))) Z h=.ok (.str (if c then b else a)) (h++[.lst [.str a,.str b]]):=by have e:(h++[MO.lst [.str a,.str b]])[h.length]?=J (.lst [.str a,.str b]):=jx;have g:nw [PV.str a,PV.str b] 1=J (.str b):=rfl;have i:nw [PV.str a,PV.str b] 0=J (.str a):=rfl;cases c<;>simp[gk,em,yY,iJ e,i,g]
def yd{x u:Str}{i o:PV}{h j:MH}(O:x="NoPlace"/\u="place"\/x="NoOrder"/\u="order")(e:bT [.tup [.int 0,.tup []],i,o] h=.exc ⟨x,[]⟩ j):∃g,cx [.tup [.int 0,.tup []],i,o] h=.ok (.str u) (j++g):=by
 obtain⟨z,B,R,e1,e2,G,E⟩:∃z B:Bool,(["NoOrder","NoPlace"]:R5).contains x=I/\(["NoPlace"]:R5).contains x=z/\(["NoOrder"]:R5).contains x=B/\JoinOk "" [if z then "place" else "",if B then "order" else "",""]=I/\Txt.join "" [if z then "place" else "",if B then "order" else "",""]=u:=by
  rcases O with⟨rfl,rfl⟩|⟨rfl,rfl⟩
  .exact⟨I,T,by decide +kernel,by decide +kernel,by decide +kernel,by decide +kernel,by decide +kernel⟩
  .exact⟨T,I,by decide +kernel,by decide +kernel,by decide +kernel,by decide +kernel,by decide +kernel⟩
 generalize C:j++[MO.exc ⟨x,[]⟩]=H;have eH:H[j.length]?=J (.exc ⟨x,[]⟩):=by rw[<-C];exact jx
 have y:∀(r:R5) (g:MH),bi ["NoOrder","NoPlace"] r (.loc j.length) (H++g)=.ok (.bl (r.contains x)) (H++g):=λr g=>Bc (uE eH) R;have F:=λr=>y r [];rw[G9]at F;delta cx;rw[cW (by rfl)];delta y4;have q:oS ["NoOrder","NoPlace"] 3 4 (bJ (aF bT (ae (af 0) (ae (af 1) (ae (af 2) b_))))) [J (.tup [.int 0,.tup []]),J i,J o,J .non,Y,Y] h=.nx [J (.tup [.int 0,.tup []]),J i,J o,J (.loc j.length),Y,Y] H:=by
  have:bJ (aF bT (ae (af 0) (ae (af 1) (ae (af 2) b_)))) [J (.tup [.int 0,.tup []]),J i,J o,J .non,Y,Y] h=.exc ⟨x,[]⟩ [J (.tup [.int 0,.tup []]),J i,J o,J .non,Y,Y] j:=by simp_all![pi,d8,bj,b7,e];rfl
  rw[FV,this];delta SOut.caught;dsimp only;rw[c_ ⟨rfl,by rcases O with⟨rfl,_⟩|⟨rfl,_⟩<;>decide +kernel⟩,<-C];rfl
 have W:vu (EB (mB (ai (i7 T) (af 3) (mC .non))) (gp (mB (wx (bi ["NoOrder","NoPlace"] ["NoOrder","NoPlace"]) (af 3))))) (aQ (mC (.str ""))) iv [J (.tup [.int 0,.tup []]),J i,J o,J (.loc j.length),Y,Y] H=.nx [J (.tup [.int 0,.tup []]),J i,J o,J (.loc j.length),Y,Y] H:=by
  have L:i7 T (.loc j.length) .non H=.ok (.bl T) H:=by simp[i7]
  simp_all![mE,An,nz,nT,nR,lQ,kY,L,Out.ne_ok,F,R,Ez,pu,if_false,aw,o9]
 have X:aO 5 (wx (bi ["NoOrder","NoPlace"] ([]++([]++([]++([]++([]++([]++([]++([]++([]++[])))))))))) (af 3)) [J (.tup [.int 0,.tup []]),J i,J o,J (.loc j.length),Y,Y] H=.nx [J (.tup [.int 0,.tup []]),J i,J o,J (.loc j.length),Y,J (.bl T)] H:=by simp_all![nQ,lQ,F,Out.ne_ok,aw];rfl
 have P:=vx (a:="") (b:="place") (c:=z) (Z:=[J (.tup [.int 0,.tup []]),J i,J o,J (.loc j.length),Y,J (.bl T)]) (h:=H) (m:=wx (bi ["NoOrder","NoPlace"] ["NoPlace"]) (af 3)) (by simp_all![lQ,y,Out.ne_ok,e1]);have Q:=vx (a:="") (b:="order") (c:=B) (Z:=[J (.tup [.int 0,.tup []]),J i,J o,J (.loc j.length),Y,J (.bl T)]) (h:=H++[.lst [.str "",.str "place"]]) (m:=wx (bi ["NoOrder","NoPlace"] ["NoOrder"]) (af 3)) (by rw[Ei];simp_all![lQ,y,Out.ne_ok,e2]);have M:=vx (a:="") (b:="other") (c:=T) (Z:=[J (.tup [.int 0,.tup []]),J i,J o,J (.loc j.length),Y,J (.bl T)]) (h:=H++[.lst [.str "",.str "place"]]++[.lst [.str "",.str "order"]]) (m:=af 5) rfl;generalize (if z then("place":Str)else "")=s at P G E;generalize (if B then("order":Str)else "")=t at Q G E;rw[f_ (by simp)]at M;have l:(aR (ae (ai aL (aR (ae (mC (.str "")) (ae (mC (.str "place")) b_))) (lx yY (ae (wx (bi ["NoOrder","NoPlace"] ["NoPlace"]) (af 3)) b_))) (ae (ai aL (aR (ae (mC (.str "")) (ae (mC (.str "order")) b_))) (lx yY (ae (wx (bi ["NoOrder","NoPlace"] ["NoOrder"]) (af 3)) b_))) (ae (ai aL (aR (ae (mC (.str "")) (ae (mC (.str "other")) b_))) (lx yY (ae (af 5) b_))) b_)))) [J (.tup [.int 0,.tup []]),J i,J o,J (.loc j.length),Y,J (.bl T)] H=.ok (.loc (H++[MO.lst [PV.str "",.str "place"]]++[MO.lst [PV.str "",.str "order"]]++[MO.lst [PV.str "",.str "other"]]).length) (H++[MO.lst [PV.str "",.str "place"]]++[MO.lst [PV.str "",.str "order"]]++[MO.lst [PV.str "",.str "other"]]++[MO.lst [PV.str s,.str t,.str ""]]):=by rw[kA,bj,P,Out.bind_ok,bj,Q,Out.bind_ok,bj,M,Out.bind_ok,b7];exact gk (by simp)
 have U:∀H:MH,jM "" [.loc H.length] (H++[.lst [.str s,.str t,.str ""]])=.ok (.str u) (H++[.lst [.str s,.str t,.str ""]]):=λH=>by
  have e:(H++[MO.lst [.str s,.str t,.str ""]])[H.length]?=J (.lst [.str s,.str t,.str ""]):=jx;have S:jo [.str s,.str t,.str ""]=J [s,t,""]:=rfl;simp only[jM,e,S,G,if_true,E]
 refine⟨[.exc ⟨x,[]⟩]++[.lst [.str "",.str "place"]]++[.lst [.str "",.str "order"]]++[.lst [.str "",.str "other"]]++[.lst [.str s,.str t,.str ""]],?_⟩;rw[show bA 6 [PV.tup [.int 0,.tup []],i,o]=[J (.tup [.int 0,.tup []]),J i,J o,Y,Y,Y]from rfl,cy];simp only[nQ,kY,aw,q_,tr,MM.aq];rw[cy,q,MM.aq,cy,W,MM.aq,cy,X,MM.aq,xu];simp only[MK,kY,Out.bind_ok];rw[bj,l,Out.bind_ok,b7,Out.bind_ok,Out.bind_ok,U,<-C];simp
def xE(ok:it.ok h)(e1:g x Z h=.nx Z1 h1)(e2:b Z1 h1=.exc c Z2 h2):Dp it g b (x::r) Z h=.exc c Z2 h2:=by unfold Dp;rw[c_ ok,e1];dsimp only;rw[e2]
def CJ:cg [.int 0,.tup [.int 0,.int 0]] h=.exc ⟨"NoPlace",[]⟩ h:=by
 delta cg;rw[cW (by rfl)];delta n3;rw[show bA 3 [PV.int 0,.tup [.int 0,.int 0]]=[J (.int 0),J (.tup [.int 0,.int 0]),Y]from rfl,rQ];have a:b8 (af 1) [J (.int 0),J (.tup [.int 0,.int 0]),Y] h=.ok ⟨[.int 0,.int 0],[]⟩ h:=rfl;have b:(bJ (aF cC (ae (af 0) (ae (af 2) b_)))) [J (.int 0),J (.tup [.int 0,.int 0]),J (.int 0)] h=.exc ⟨"NoPlace",[]⟩ [J (.int 0),J (.tup [.int 0,.int 0]),J (.int 0)] h:=by rfl
 rw[a,aw];exact congrArg SOut.fin (xE (xU.mpr trivial) rfl b)
def B1(e:h[n]?=J (.lst [.tup [.int 0,.int 0]])):bT [.tup [.int 0,.tup []],v,.loc n] h=.exc ⟨"NoPlace",[]⟩ h:=by
 delta bT;rw[cW (by rfl)];delta qv;rw[show bA 9 [PV.tup [.int 0,.tup []],v,.loc n]=[J (.tup [.int 0,.tup []]),J v,J (.loc n),Y,Y,Y,Y,Y,Y]from rfl,cy,rQ,wR,cM,cM,dy,Out.bind_ok,mQ e,aw];have a:aL (.tup [.int 0,.tup []]) (.int 0) h=.ok (.int 0) h:=rfl;have b:(bJ (aF cg (ae (ai aL (af 0) (mC (.int 0))) (ae (af 3) b_)))) [J (.tup [.int 0,.tup []]),J v,J (.loc n),J (.tup [.int 0,.int 0]),Y,Y,Y,Y,Y] h=.exc ⟨"NoPlace",[]⟩ [J (.tup [.int 0,.tup []]),J v,J (.loc n),J (.tup [.int 0,.int 0]),Y,Y,Y,Y,Y] h:=by simp_all![pi,d8,bj,nR,b7,kY,a,Out.ne_ok,CJ];rfl
 exact congrArg (λo:SOut=>(o.then _).fin) (xE (qZ.mpr e) rfl b)
def GX(e:h[k]?=J (.lst [.int 0])):∃g,ip [.tup [.int 0,.tup []],.loc k] h=.ok (.bl T) (h++g):=by
 delta ip;rw[cW (by rfl)];delta ul;have i:DJ h (.loc k)=J "list":=by simp[DJ,e]
 have o:∀h:MH,aL (.tup [.int 0,.tup []]) (.int 0) h=.ok (.int 0) h:=λ_=>rfl
 obtain⟨g,c⟩:=AC (it:=⟨[.int 0],[(k,[.int 0])]⟩) (Z:=[J (.tup [.int 0,.tup []]),J (.loc k)]) (h:=h) (mi:=b8 (af 1)) (gt:=m_ 0) (mt:=oy) (me:=aF fS (ae (ai aL (af 1) (mC (.int 0))) (ae (af 0) b_))) (nv:=1) (fm:=[0]) (by simp[mQ e]) (qZ.mpr e) (by simp) (λ_=>I) (λ_=>.bl T) (λx l a g hv=>by
  have:x=.int 0:=by simpa using l
  subst this
  match a,hv with
  |[_],_=>exact⟨[J (.int 0)],rfl,rfl,[],by rw[G9];rfl,λ_=>⟨[],by
   simp only[G9]
   rfl⟩⟩)
 have e2:(h++MO.lst [.bl T]::g)[h.length]?=J (.lst [.bl T]):=jx;have j:B_ [.loc h.length] (h++MO.lst [.bl T]::g)=.ok (.bl T) (h++MO.lst [.bl T]::g):=by simp[B_,tJ e2,jS]
 refine⟨.lst [.bl T]::g,?_⟩;rw[show bA 2 [PV.tup [.int 0,.tup []],.loc k]=[J (.tup [.int 0,.tup []]),J (.loc k)]from rfl,cy];simp_all![mE,nz,nT,lQ,dS,i,show(["list"].any (cL "list"))=I from rfl,Out.ne_ok,Ez,aw,pu,if_false,o9,MM.aq];rw[cy,mE,nz,nT,zQ,bj,c];simp only[Out.bind_ok,b7];rw[show(List.map (λ_=>PV.bl T) (List.filter (λ_=>I) (⟨[PV.int 0],[(k,[PV.int 0])]⟩:MIt).xs))=[.bl T]from rfl,j];rfl
def CD(e:h[n]?=J (.lst []))(j:h[k]?=J (.lst [.int 0])):∃g,bT [.tup [.int 0,.tup []],.loc k,.loc n] h=.exc ⟨"NoOrder",[]⟩ (h++g):=by
 obtain⟨g,a⟩:=GX j;have co:fc [.tup [.int 0,.tup []],.loc k] h=.exc ⟨"NoOrder",[]⟩ (h++g):=by delta fc;rw[cW (by rfl)];delta n8;rw[show bA 2 [PV.tup [.int 0,.tup []],.loc k]=[J (.tup [.int 0,.tup []]),J (.loc k)]from rfl];simp_all![mE,nz,nT,d8,bj,b7,a];rfl
 have i:lc [.tup [.int 0,.tup []],.loc k] h=.exc ⟨"NoOrder",[]⟩ (h++g):=by delta lc;rw[cW (by rfl)];delta CW;rw[show bA 6 [PV.tup [.int 0,.tup []],.loc k]=[J (.tup [.int 0,.tup []]),J (.loc k),Y,Y,Y,Y]from rfl,cy];simp_all![pi,d8,bj,b7,co];rfl
 have l:jy [.tup [.int 0,.tup []],.loc k] h=.exc ⟨"NoOrder",[]⟩ (h++g):=by delta jy;rw[cW (by rfl)];delta y3;rw[show bA 8 [PV.tup [.int 0,.tup []],.loc k]=[J (.tup [.int 0,.tup []]),J (.loc k),Y,Y,Y,Y,Y,Y]from rfl,cy];simp_all![nQ,d8,bj,b7,i];rfl
 refine⟨g,?_⟩;delta bT;rw[cW (by rfl)];delta qv;rw[show bA 9 [PV.tup [.int 0,.tup []],.loc k,.loc n]=[J (.tup [.int 0,.tup []]),J (.loc k),J (.loc n),Y,Y,Y,Y,Y,Y]from rfl,cy,rQ,wR,cM,cM,dy,Out.bind_ok,mQ e,aw,FN (qZ.mpr e),MM.aq,cy];simp_all![nQ,d8,bj,b7,l];rfl
def yt(h:x∈bX lo c):∃i:Int,x=.int i/\lo<=i/\i<lo+c:=by obtain⟨k,a,rfl⟩:=mx.mp h;rw[Ey]at a;exact⟨_,rfl,by ext,by ext⟩
def xn{ns:R6}{k:Nat}(a:k<ns.length):nw (ns.map PV.int) (k:Int)=J (.int ns[k]):=L2.cY (by simp[a])
def vG:ov (.int 10) (.int 18) h=.ok (.int (10^18)) h:=v4 (by decide)
def BZ:ov (.int 10) (.int 15) h=.ok (.int (10^15)) h:=v4 (by decide)
def Cy{h:MH}{ns:R6}{k:Nat}(U:k<64):∃m c:Int,kj [.frl (ns.map .int),.int k] h=.ok (.loc h.length) (h++[.lst [.int m,.int c,.int 0]]):=by
 have s:∀{i:Int}{h:MH},j3 (.int 7919) (.int i) h=.ok (.int (7919*i)) h:=iw (by decide);have R:∀{i:Int}{h:MH},j3 (.int 48271) (.int i) h=.ok (.int (48271*i)) h:=iw (by decide);have Q:∀{i:Int}{h:MH},j3 (.int 40009) (.int i) h=.ok (.int (40009*i)) h:=iw (by decide);have F:∀{a b c:PV}{h:MH},p_ [a,b,c] h=.ok (.loc h.length) (h++[.lst [a,b,c]]):=gk (by simp)
 have fin:∀cell:Int,∃m c:Int,(aC (vu (mB (ai EM (lx Dz (ae (af 2) b_)) (ai ov (mC (.int 10)) (mC (.int 18))))) (aQ (aR (ae (mC (.int 1)) (ae (lx Dz (ae (af 2) b_)) (ae (mC (.int 0)) b_))))) iv)
   (aQ (aR (ae (mC (.int 0)) (ae (ai ik (ai mn (af 2) (mC (.int 2147483587))) (ai j3 (mC (.int 40009)) (af 1))) (ae (mC (.int 0)) b_)))))) [J (.frl (ns.map .int)),J (.int k),J (.int cell)] h=.rt (.loc h.length) (h++[.lst [.int m,.int c,.int 0]]):=λcell=>by
  by_cases z:(10:Int)^18<=(if cell<0 then -cell else cell)
  .exact⟨1,(if cell<0 then -cell else cell),by simp[vG,F,z,-Int.reducePow]⟩
  .exact⟨0,cell.fmod 2147483587+40009*k,by simp[vG,F,z,Q,gD,-Int.reducePow]⟩
 have l:∀cell:Int,∃m c:Int,((aC (vu (mB (ai EM (lx Dz (ae (af 2) b_)) (ai ov (mC (.int 10)) (mC (.int 18))))) (aQ (aR (ae (mC (.int 1)) (ae (lx Dz (ae (af 2) b_)) (ae (mC (.int 0)) b_))))) iv)
   (aQ (aR (ae (mC (.int 0)) (ae (ai ik (ai mn (af 2) (mC (.int 2147483587))) (ai j3 (mC (.int 40009)) (af 1))) (ae (mC (.int 0)) b_)))))) [J (.frl (ns.map .int)),J (.int k),J (.int cell)] h).fin=.ok (.loc h.length) (h++[.lst [.int m,.int c,.int 0]]):=λcell=>by
  obtain⟨m,c,q⟩:=fin cell;exact⟨m,c,by rw[q];rfl⟩
 have g:∀cell:Int,(aC (aO 2 (ai ik (ai j3 (mC (.int 7919)) (af 1)) (mC (.int 11))))
 (vu (mB (ai Dy (af 1) (lx yW (ae (lx ny (ae (af 0) b_)) (ae (mC (.int 63)) b_))))) (aO 2 (ai aL (af 0) (af 1))) (vu (mB (ai Em (lx ny (ae (af 0) b_)) (mC (.int 0)))) (aO 2 (ai ik (ai mn (ai aL (af 0) (ai mn (af 1) (lx yW (ae (lx ny (ae (af 0) b_)) (ae (mC (.int 63)) b_))))) (ai ov (mC (.int 10)) (mC (.int 15)))) (ai j3 (mC (.int 48271)) (af 1)))) iv))) [J (.frl (ns.map .int)),J (.int k),Y] h=.nx [J (.frl (ns.map .int)),J (.int k),J (.int cell)] h ->
   ∃m c:Int,bc 3 2 BL [.frl (ns.map .int),.int k] h=.ok (.loc h.length) (h++[.lst [.int m,.int c,.int 0]]):=λcell q=>by
  obtain⟨m,c,P⟩:=l cell;refine⟨m,c,(cW (by rfl)).trans ?_⟩;rw[<-P];delta BL;simp only[cy]at q ⊢;have L:bA 3 [PV.frl (ns.map .int),PV.int k]=[J (.frl (ns.map .int)),J (.int k),Y]:=rfl;rw[L];generalize (aO 2 (ai ik (ai j3 (mC (.int 7919)) (af 1)) (mC (.int 11)))) [J (.frl (ns.map .int)),J (.int k),Y] h=G at q ⊢
  cases G with
  |nx S t =>
   simp only[MM.aq,cy]at q ⊢;rw[q];rfl
  |_=>cases q
 have j:∃e:Nat,(if(63:Int)<(ns.length:Int)then(63:Int)else(ns.length:Int))=(e:Int)/\e<=ns.length/\(0<ns.length->0<e):=by
  by_cases z:(63:Int)<(ns.length:Int)
  .exact⟨63,by rw[c_ z];rfl,by ext,by ext⟩
  .exact⟨ns.length,by rw[f_ z],by ext,by ext⟩
 obtain⟨e,B,u,o⟩:=j;by_cases t:k<e
 .refine g (ns[k]'(by ext)) ?_;simp[s,B,t,xn (show k<ns.length by ext)]
 .by_cases r:0<ns.length
  .have y:(e:Int)≠0:=by have:=o r;ext
   have C:k % e<ns.length:=y_ (Nat.mod_lt _ (o r)) u;have M:(k:Int).fmod (e:Int)=((k % e:Nat):Int):=by rw[Ow _ (by ext)];rfl
   refine g ((ns[k % e]'C).fmod (10^15)+48271*k) ?_;have O:((10:Int)^15)≠0:=by decide
   have E:=xn C;rw[Int.natCast_emod]at E;simp[s,B,t,r,gD y,M,E,BZ,gD O,R,-Int.reducePow]
  .have H:ns=[]:=K6.mp (by ext);refine g (7919*k+11) ?_;have z:¬((k:Int)<(e:Int)):=by ext
   simp[s,B,z,r]
def yO(pn:cS h p s):∃a,fP [.loc p] h=.ok (.bl I) a/\∀n:Nat,n<h.length->n≠p->a[n]?=h[n]?:=by
 obtain⟨i,q⟩:=GW (s:=s)
 have k:=jI.ok (q:=p) (h:=h) (O:=[p]) (vs:=[.loc p]) (ds:=[.pen]) (s:=s) (λo g=>by
  have:o=p:=by simpa using g
  subst this;exact bo pn) (by simp) pn ⟨_,_,rfl,rfl,rfl⟩
 rw[q,wF]at k;obtain⟨v,a,e,kb,_,r,_⟩:=k;exact⟨a,by rw[e];rw[show v=PV.bl I from r],kb.2⟩
def AR(a:PyData.strOk z=I):n7 (.str z) (.str z) h=.ok (.bl T) h:=by simp[n7,rd,SeqAt.shaped,PyData.canLay0,PyData.depth,PyData.eqv,a]
def GY{h:MH}{n:Nat}{o a:MO}(e:h[n]?=J a):(h.set n o)[n]?=J o:=BO (mw.mp e).1
def wn{ns:R6}{it:MIt}{n:Nat}(j:∀h,it.ok h):∀(xs:R4)(m:Nat)(z:Option PV)(h:MH),(∀x∈xs,∃k:Nat,x=.int (k:Int)/\k<64)->h[n]?=J (.lst (List.replicate m (.bl I)))->m+xs.length<=100->∃g,BK it n (m_ 0) oy (aF fP (ae (aF kj (ae (af 1) (ae (af 0) b_))) b_)) xs [z,J (.frl (ns.map .int))] h=.ok () g/\g[n]?=J (.lst (List.replicate (m+xs.length) (.bl I)))
 |[],m,z,h,l,e,o=>⟨h,xt (j h),e⟩
 |x::xs,m,z,h,l,e,o=>by
  have B:m+(xs.length+1)<=100:=o;obtain⟨k,rfl,C⟩:=l x (by simp);obtain⟨a,b,u⟩:=Cy (h:=h) (ns:=ns) (k:=k) C;obtain⟨i,E,kb⟩:=yO (h:=h++[.lst [.int a,.int b,.int 0]]) (p:=h.length) (s:=(a,b,0)) (by show(h++[MO.lst [.int a,.int b,.int 0]])[h.length]?=J (.lst [.int a,.int b,.int 0]);exact jx);have F:n<h.length:=(mw.mp e).1;have e3:i[n]?=J (.lst (List.replicate m (.bl I))):=by rw[kb n (by simp;ext) (by ext)];exact uE e
  obtain⟨g,q,t⟩:=wn (ns:=ns) j xs (m+1) (J (.int (k:Int))) (i.set n (.lst (List.replicate m (.bl I)++[.bl I]))) (λy r=>l y (oh _ r)) (by rw[GY e3,List.replicate_succ']) (by ext);refine⟨g,?_,by rw[t,C1,show m+1+xs.length=m+(xs.length+1) by ext]⟩;rw[ym (Z:=[z,J (.frl (ns.map .int))]) (Z1:=[J (.int (k:Int)),J (.frl (ns.map .int))]) (h1:=h) (h2:=h) (v:=.bl I) (h3:=i) (ys:=List.replicate m (.bl I)) (j h) rfl rfl (by simp -implicitDefEqProofs [u,E]) e3 (by simp;ext)];exact q
def E0(ns:R6)(hn:ns.length<=63):∃E,Eg [.frl (ns.map .int)] []=.ok (.bl I) E:=by
 delta Eg;rw[cW (by rfl)];delta EX;rw[show bA 1 [PV.frl (ns.map .int)]=[J (.frl (ns.map .int))]from rfl];have X:∀{h:MH},n7 (.str "place") (.str "place") h=.ok (.bl T) h:=λ{h}=>AR (by decide +kernel);have U:∀{h:MH},n7 (.str "order") (.str "order") h=.ok (.bl T) h:=λ{h}=>AR (by decide +kernel);obtain⟨L,j⟩:=yd (.inl ⟨rfl,rfl⟩) (B1 (v:=.loc 0) (h:=[.lst [],.lst [.tup [.int 0,.int 0]]]) (n:=1) rfl);generalize hH:[MO.lst [],.lst [.tup [.int 0,.int 0]]]++L=H at j;obtain⟨z,C⟩:=CD (h:=H++[.lst [.int 0]]++[.lst []]) (n:=(H++[MO.lst [PV.int 0]]).length) (k:=H.length) jx (uE jx);obtain⟨t,g⟩:=yd (.inr ⟨rfl,rfl⟩) C;generalize hG:H++[.lst [.int 0]]++[.lst []]++z++t=G at g;have n0:∀{h:MH},p_ [] h=.ok (.loc h.length) (h++[.lst []]):=gk (by simp);have r:∀{x:PV} {h:MH},p_ [x] h=.ok (.loc h.length) (h++[.lst [x]]):=gk (by simp);have s:∀{Z:l_} {h:MH},(br (ae (mC (.int 0)) (ae (br b_) b_))) Z h=.ok (.tup [.int 0,.tup []]) h:=by intro Z h;simp -implicitDefEqProofs [wy,sizeLine_eq]
 have F:∀{Z:l_}{h:MH},(br (ae (mC (.int 0)) (ae (mC (.int 0)) b_))) Z h=.ok (.tup [.int 0,.int 0]) h:=by intro Z h;simp -implicitDefEqProofs [wy,sizeLine_eq]
 have ES:(vu (EB (mB (ai n7 (aF cx (ae (br (ae (mC (.int 0)) (ae (br b_) b_))) (ae (aR b_) (ae (aR (ae (br (ae (mC (.int 0)) (ae (mC (.int 0)) b_))) b_)) b_)))) (mC (.str "place")))) (mB (ai n7 (aF cx (ae (br (ae (mC (.int 0)) (ae (br b_) b_))) (ae (aR (ae (mC (.int 0)) b_)) (ae (aR b_) b_)))) (mC (.str "order"))))) (aQ (mC (.bl T))) iv) [J (.frl (ns.map .int))] []=.nx [J (.frl (ns.map .int))] G:=by
  have Q:(ae (br (ae (mC (.int 0)) (ae (br b_) b_))) (ae (aR b_) (ae (aR (ae (br (ae (mC (.int 0)) (ae (mC (.int 0)) b_))) b_)) b_))) [J (.frl (ns.map .int))] []=.ok [.tup [.int 0,.tup []],.loc 0,.loc 1] [.lst [],.lst [.tup [.int 0,.int 0]]]:=by rw[bj,s,Out.bind_ok,bj,kA,b7,Out.bind_ok,n0,Out.bind_ok,bj,kA,bj,F,Out.bind_ok,b7,Out.bind_ok,Out.bind_ok,r,Out.bind_ok,b7];rfl
  have M:(ae (br (ae (mC (.int 0)) (ae (br b_) b_))) (ae (aR (ae (mC (.int 0)) b_)) (ae (aR b_) b_))) [J (.frl (ns.map .int))] H=.ok [.tup [.int 0,.tup []],.loc H.length,.loc (H++[MO.lst [PV.int 0]]).length] (H++[.lst [.int 0]]++[.lst []]):=by rw[bj,s,Out.bind_ok,bj,kA,bj,kY,Out.bind_ok,b7,Out.bind_ok,Out.bind_ok,r,Out.bind_ok,bj,kA,b7,Out.bind_ok,n0,Out.bind_ok,b7];rfl
  rw[mE,An,nT,nR,d8,Q,Out.bind_ok,j];simp -implicitDefEqProofs only[Out.bind_ok,kY,X,Out.ne_ok,pu,if_false];rw[nT,nR,d8,M,Out.bind_ok,g];simp -implicitDefEqProofs only[Out.bind_ok,kY,U,Out.ne_ok,aw,pu,if_false,o9]
 obtain⟨c,hc,W⟩:∃c:Nat,c<=63/\(ae (lx DU (ae (mC (.int 1)) (ae (lx yW (ae (lx ny (ae (af 0) b_)) (ae (mC (.int 8)) b_))) b_))) b_) [J (.frl (ns.map .int))] G=.ok [.int (c:Int)] G:=by
  have e:(ae (lx DU (ae (mC (.int 1)) (ae (lx yW (ae (lx ny (ae (af 0) b_)) (ae (mC (.int 8)) b_))) b_))) b_) [J (.frl (ns.map .int))] G=.ok [.int (if(if(8:Int)<(ns.length:Int)then 8 else(ns.length:Int))>1 then(if(8:Int)<(ns.length:Int)then 8 else(ns.length:Int))else 1)] G:=by simp -implicitDefEqProofs
  have a:0<=(if(if(8:Int)<(ns.length:Int)then 8 else(ns.length:Int))>1 then(if(8:Int)<(ns.length:Int)then 8 else(ns.length:Int))else 1)/\(if(if(8:Int)<(ns.length:Int)then 8 else(ns.length:Int))>1 then(if(8:Int)<(ns.length:Int)then 8 else(ns.length:Int))else 1)<=63:=by constructor<;>(repeat' split)<;>ext
  generalize (if(if(8:Int)<(ns.length:Int)then 8 else(ns.length:Int))>1 then(if(8:Int)<(ns.length:Int)then 8 else(ns.length:Int))else 1)=i at e a;obtain⟨c,rfl⟩:=e8 a.1;exact⟨c,by ext,e⟩
 have u:=P2 W (by ext)
 obtain⟨l,B,P⟩:=wn (ns:=ns) (it:=⟨bX 0 c,[]⟩) (n:=G.length) (λ_=>xU.mpr trivial) (bX 0 c) 0 Y (G++[.lst []]) (λx S=>by
  obtain⟨i,rfl,O,a⟩:=yt S;obtain⟨k,rfl⟩:=e8 O
  exact⟨k,rfl,by ext⟩) jx (by rw[MM.qP];ext)
 have y:bF 1 [0] (gi (ae (lx DU (ae (mC (.int 1)) (ae (lx yW (ae (lx ny (ae (af 0) b_)) (ae (mC (.int 8)) b_))) b_))) b_)) (m_ 0) oy (aF fP (ae (aF kj (ae (af 1) (ae (af 0) b_))) b_)) [J (.frl (ns.map .int))] G=.ok (.loc G.length) l:=by rw[uT,u,Out.bind_ok];refine(congrArg (λo:Out Unit=>o.bind _) B).trans ?_;rfl
 have R:=AI P;refine⟨l,?_⟩;rw[cy,ES,MM.aq,xu,zQ,bj,y,Out.bind_ok,b7,Out.bind_ok,Out.bind_ok,R];rfl
end Law
namespace Law
open PySem.Spec PyProof.Rows L2 MM
set_option maxHeartbeats 4000000
def yD(i:Nat):Stmt:=PySem.Challenge.pw_fewfills_k42_places_touched.main.body.getD i (.Pass ⟨0,0,0,0⟩)
structure Cl(K:ij)(mg:Dx):Prop where
 r_NoOrder:∃C,ER K mg "NoOrder" C
 r_NoPlace:∃C,ER K mg "NoPlace" C
 t_FillError:∃D,ER K mg "FillError" D/\∀x∈(["NoOrder","NoPlace"]:R5),∃C,ER K mg x C/\PySem.W.mroIn K C (.ref D)=J I
 i_NoNumber:∃D,mg "NoNumber"=J (.ref D)/\oI K mg (.ref D) ["NoOrder","NoPlace"] []
 i_NoOrder:∃D,mg "NoOrder"=J (.ref D)/\oI K mg (.ref D) ["NoOrder","NoPlace"] ["NoOrder"]
 i_NoParting:∃D,mg "NoParting"=J (.ref D)/\oI K mg (.ref D) ["NoOrder","NoPlace"] []
 i_NoPivot:∃D,mg "NoPivot"=J (.ref D)/\oI K mg (.ref D) ["NoOrder","NoPlace"] []
 i_NoPlace:∃D,mg "NoPlace"=J (.ref D)/\oI K mg (.ref D) ["NoOrder","NoPlace"] ["NoPlace"]
 i_NoRow:∃D,mg "NoRow"=J (.ref D)/\oI K mg (.ref D) ["NoOrder","NoPlace"] []
 i_NoSheet:∃D,mg "NoSheet"=J (.ref D)/\oI K mg (.ref D) ["NoOrder","NoPlace"] []
 i_NoText:∃D,mg "NoText"=J (.ref D)/\oI K mg (.ref D) ["NoOrder","NoPlace"] []
 i_NoWeb:∃D,mg "NoWeb"=J (.ref D)/\oI K mg (.ref D) ["NoOrder","NoPlace"] []
 i_NoWord:∃D,mg "NoWord"=J (.ref D)/\oI K mg (.ref D) ["NoOrder","NoPlace"] []
 i_TooMany:∃D,mg "TooMany"=J (.ref D)/\oI K mg (.ref D) ["NoOrder","NoPlace"] []
 i_ValueError:oI K mg (.type "ValueError") ["NoOrder","NoPlace"] ["NoOrder","NoPlace"]
def Ry(K:ij):Prop:=∀(mg:Dx)(base:Heap),K.In base->base.Ns mainGlobals mg->Cl K mg
def Kv{K:ij}{E:Addr}{F:Addr}{e:Addr}{C:Addr}{G:Addr}{a:Addr}{a8:Addr}{H:Addr}{U:Addr}{a3:Addr}{W:Addr}{L:Addr}(b4:PySem.W.nsIn K mainGlobals "FillError"=J (J (.ref E)))(ca:PySem.W.nsIn K mainGlobals "NoNumber"=J (J (.ref F)))(cd:PySem.W.nsIn K mainGlobals "NoOrder"=J (J (.ref e)))(b1:PySem.W.nsIn K mainGlobals "NoParting"=J (J (.ref C)))(c3:PySem.W.nsIn K mainGlobals "NoPivot"=J (J (.ref G)))(cn:PySem.W.nsIn K mainGlobals "NoPlace"=J (J (.ref a)))(dF:PySem.W.nsIn K mainGlobals "NoRow"=J (J (.ref a8)))(c2:PySem.W.nsIn K mainGlobals "NoSheet"=J (J (.ref H)))(dc:PySem.W.nsIn K mainGlobals "NoText"=J (J (.ref U)))(dt:PySem.W.nsIn K mainGlobals "NoWeb"=J (J (.ref a3)))(c8:PySem.W.nsIn K mainGlobals "NoWord"=J (J (.ref W)))(c4:PySem.W.nsIn K mainGlobals "TooMany"=J (J (.ref L)))(b2:PySem.W.excIn K E FQ "ValueError.__new__"=I)(bv:PySem.W.excIn K e FQ "ValueError.__new__"=I)(bx:PySem.W.excIn K a FQ "ValueError.__new__"=I)(y:PySem.W.findIn K (.ref e) "__getattribute__"=J (J (.builtin "BaseException.__getattribute__")))(t:PySem.W.findIn K (.ref e) "__class__"=J (J (.builtin "object.__class__")))(z:PySem.W.findIn K (.ref e) "__getattr__"=J Y)(u:PySem.W.mroIn K e (.type "object")=J I)(o:PySem.W.mroIn K e (.type "BaseException")=J I)(j:PySem.W.findIn K (.ref a) "__getattribute__"=J (J (.builtin "BaseException.__getattribute__")))(l:PySem.W.findIn K (.ref a) "__class__"=J (J (.builtin "object.__class__")))(B:PySem.W.findIn K (.ref a) "__getattr__"=J Y)(s:PySem.W.mroIn K a (.type "object")=J I)(r:PySem.W.mroIn K a (.type "BaseException")=J I)(P:PySem.W.mroIn K e (.ref E)=J I)(S:PySem.W.mroIn K a (.ref E)=J I)(cb:PySem.W.kitOne K (.type "NoneType") (.ref F)=J T)(Z:PySem.W.kitOne K (.ref e) (.ref F)=J T)(X:PySem.W.kitOne K (.ref a) (.ref F)=J T)(cf:PySem.W.kitOne K (.type "NoneType") (.ref e)=J T)(ay:PySem.W.kitOne K (.ref e) (.ref e)=J I)(ab:PySem.W.kitOne K (.ref a) (.ref e)=J T)(b0:PySem.W.kitOne K (.type "NoneType") (.ref C)=J T)(R:PySem.W.kitOne K (.ref e) (.ref C)=J T)(Q:PySem.W.kitOne K (.ref a) (.ref C)=J T)(cc:PySem.W.kitOne K (.type "NoneType") (.ref G)=J T)(a2:PySem.W.kitOne K (.ref e) (.ref G)=J T)(a0:PySem.W.kitOne K (.ref a) (.ref G)=J T)(cs:PySem.W.kitOne K (.type "NoneType") (.ref a)=J T)(ax:PySem.W.kitOne K (.ref e) (.ref a)=J T)(ap:PySem.W.kitOne K (.ref a) (.ref a)=J I)(ds:PySem.W.kitOne K (.type "NoneType") (.ref a8)=J T)(bm:PySem.W.kitOne K (.ref e) (.ref a8)=J T)(bf:PySem.W.kitOne K (.ref a) (.ref a8)=J T)(c1:PySem.W.kitOne K (.type "NoneType") (.ref H)=J T)(an:PySem.W.kitOne K (.ref e) (.ref H)=J T)(a1:PySem.W.kitOne K (.ref a) (.ref H)=J T)(c9:PySem.W.kitOne K (.type "NoneType") (.ref U)=J T)(a4:PySem.W.kitOne K (.ref e) (.ref U)=J T)(a5:PySem.W.kitOne K (.ref a) (.ref U)=J T)(dd:PySem.W.kitOne K (.type "NoneType") (.ref a3)=J T)(a9:PySem.W.kitOne K (.ref e) (.ref a3)=J T)(bt:PySem.W.kitOne K (.ref a) (.ref a3)=J T)(c5:PySem.W.kitOne K (.type "NoneType") (.ref W)=J T)(a7:PySem.W.kitOne K (.ref e) (.ref W)=J T)(a6:PySem.W.kitOne K (.ref a) (.ref W)=J T)(cm:PySem.W.kitOne K (.type "NoneType") (.ref L)=J T)(al:PySem.W.kitOne K (.ref e) (.ref L)=J T)(as:PySem.W.kitOne K (.ref a) (.ref L)=J T)(M:PySem.W.kitOne K (.ref e) (.type "ValueError")=J I)(O:PySem.W.kitOne K (.ref a) (.type "ValueError")=J I):Ry K:=λmg base kin ns=>by
 have b3:=PySem.W.mg_of kin ns b4;have b6:=PySem.W.mg_of kin ns ca;have i:=PySem.W.mg_of kin ns cd;have b5:=PySem.W.mg_of kin ns b1;have ch:=PySem.W.mg_of kin ns c3;have g:=PySem.W.mg_of kin ns cn;have dx:=PySem.W.mg_of kin ns dF;have cp:=PySem.W.mg_of kin ns c2;have c6:=PySem.W.mg_of kin ns dc;have dn:=PySem.W.mg_of kin ns dt;have c7:=PySem.W.mg_of kin ns c8;have c0:=PySem.W.mg_of kin ns c4;exact⟨⟨_,i,bv⟩,⟨_,g,bx⟩,⟨_,⟨b3,b2⟩,(aP ⟨_,⟨i,bv⟩,P⟩ (aP ⟨_,⟨g,bx⟩,S⟩ cH))⟩,⟨_,b6,cX (d9 cb) (aP ⟨_,i,⟨y,t,z,u,o⟩,Z⟩ (aP ⟨_,g,⟨j,l,B,s,r⟩,X⟩ cH))⟩,⟨_,i,cX (d9 cf) (aP ⟨_,i,⟨y,t,z,u,o⟩,ay⟩ (aP ⟨_,g,⟨j,l,B,s,r⟩,ab⟩ cH))⟩,⟨_,b5,cX (d9 b0) (aP ⟨_,i,⟨y,t,z,u,o⟩,R⟩ (aP ⟨_,g,⟨j,l,B,s,r⟩,Q⟩ cH))⟩,⟨_,ch,cX (d9 cc) (aP ⟨_,i,⟨y,t,z,u,o⟩,a2⟩ (aP ⟨_,g,⟨j,l,B,s,r⟩,a0⟩ cH))⟩,⟨_,g,cX (d9 cs) (aP ⟨_,i,⟨y,t,z,u,o⟩,ax⟩ (aP ⟨_,g,⟨j,l,B,s,r⟩,ap⟩ cH))⟩,⟨_,dx,cX (d9 ds) (aP ⟨_,i,⟨y,t,z,u,o⟩,bm⟩ (aP ⟨_,g,⟨j,l,B,s,r⟩,bf⟩ cH))⟩,⟨_,cp,cX (d9 c1) (aP ⟨_,i,⟨y,t,z,u,o⟩,an⟩ (aP ⟨_,g,⟨j,l,B,s,r⟩,a1⟩ cH))⟩,⟨_,c6,cX (d9 c9) (aP ⟨_,i,⟨y,t,z,u,o⟩,a4⟩ (aP ⟨_,g,⟨j,l,B,s,r⟩,a5⟩ cH))⟩,⟨_,dn,cX (d9 dd) (aP ⟨_,i,⟨y,t,z,u,o⟩,a9⟩ (aP ⟨_,g,⟨j,l,B,s,r⟩,bt⟩ cH))⟩,⟨_,c7,cX (d9 c5) (aP ⟨_,i,⟨y,t,z,u,o⟩,a7⟩ (aP ⟨_,g,⟨j,l,B,s,r⟩,a6⟩ cH))⟩,⟨_,c0,cX (d9 cm) (aP ⟨_,i,⟨y,t,z,u,o⟩,al⟩ (aP ⟨_,g,⟨j,l,B,s,r⟩,as⟩ cH))⟩,cX (Ml K) (aP ⟨_,i,⟨y,t,z,u,o⟩,M⟩ (aP ⟨_,g,⟨j,l,B,s,r⟩,O⟩ cH))⟩
abbrev ie:Stmt:=yD 14
abbrev qh:R5:=["thing"]
abbrev qm:R5:=["isinstance","int","bool"]
abbrev qb:R5:=["thing"]
def yw(l:Sc X ie)(g:Gd X qh qm k)(r:io X)(a:Nn X "isinstance")(o:Nn X "bool")(e:Nn X "int"):n5 X (aJ ie) CA :=
 (kx.h (k4 (px (g_ (mO (i9 g (i:=0) (j:=1) rfl a rfl e j8 xF (kV g 0)) (mI (A2 (i9 g (i:=0) (j:=2) rfl a rfl o yh uV (kV g 0)))))))))
abbrev ia:Stmt:=yD 16
abbrev qD:R5:=["n","thing"]
abbrev pX:R5:=["is_whole"]
abbrev kQ:R5:=["n","thing"]
def zp(e:Sc X ia)(g:Gd X qD pX k)(i:io X)(a:Cal X "is_whole" qb qi k):n5 X (aJ ia) CH :=
 (kx.h (k4 (px (g_ (mO (nj g 0 a (ag (kV g 1) ah)) (mI (Cb L6 uG aj (kV g 1) (kV g 0))))))))
abbrev fv:Stmt:=yD 17
abbrev lI:R5:=["n","thing"]
abbrev lH:R5:=["is_place","NoPlace"]
abbrev fe:R5:=["n","thing"]
def uu(e:Sc X fv)(g:Gd X lI lH k)(i:io X)(a:Cal X "is_place" kQ fS k)(cl:Cl X.K X.mg):n5 X (aJ fv) se :=
 (kx.h (k4 (li (cr (f9 (eX (nj g 0 a (ag (kV g 0) (ag (kV g 1) ah))))) (kx.h (k4 (li (tq g (j:=1) rfl cl.r_NoPlace (ag cw ah))))) bD))))
abbrev eS:Stmt:=yD 18
abbrev kB:R5:=["n","things","thing"]
abbrev j5:R5:=["check_place"]
abbrev gC:R5:=["n","things"]
def rS(e:Sc X eS)(g:Gd X kB j5 k)(i:io X)(a:Cal X "check_place" fe cC k):n5 X (aJ eS) n3 :=
 (kx.h (k4 (li (df g (bL (kV g 1)) (n6 g 2) (kx.h (k4 (li (bQ (nj g 0 a (ag (kV g 0) (ag (kV g 2) ah)))))))))))
abbrev fC:Stmt:=yD 19
abbrev lE:R5:=["pairs"]
abbrev lA:R5:=["tuple","sorted","set"]
abbrev hX:R5:=["pairs"]
def t9(l:Sc X fC)(g:Gd X lE lA k)(t:io X)(e:Nn X "sorted")(n12:Nn X "set")(r:Nn X "max")(o:Nn X "min")(a:Nn X "tuple"):n5 X (aJ fC) sO :=
 (kx.h (k4 (px (g_ (Er g 0 ph a i5 (ag (vP g (i:=1) (j:=2) rfl e rfl n12 (ag (Es g l ["pair"] [] ["min","max"] [] (bL (kV g 0)) λs y g=>⟨(n6 g 0),fK,(w_.h (Di (ao (g_ (Dc g 0 (FY g) (y.n o) mU (ag (kV g 0) ah))) (ao (g_ (Dc g 1 (FX g) (y.n r) Ah (ag (kV g 0) ah))) aN))))⟩) ah)) ah))))))
abbrev gm:Stmt:=yD 20
abbrev ni:R5:=["web","v","below","above"]
abbrev lT:R5:=["check_place"]
abbrev iK:R5:=["web","v"]
def uK(a:Sc X gm)(g:Gd X ni lT k)(j:io X)(i:Cal X "check_place" fe cC k):n5 X (aJ gm) x_ :=
 (kx.h (ka (li (bQ (nj g 0 i (ag (qk (kV g 0) aj) (ag (kV g 1) ah)))))
 (ka (li (Nj g a 2 ["a","b"] ["v"] [] [1] (bL (qk (kV g 0) aj)) λe y g=>⟨(dJ g (aT (n6 g 0) (aT (n6 g 1) cZ))),(dN (t_ (fo g.room) (kV g 1) (kV g 2))),(kV g 0)⟩))
 (ka (li (Nj g a 3 ["a","b"] ["v"] [] [1] (bL (qk (kV g 0) aj)) λe y g=>⟨(dJ g (aT (n6 g 0) (aT (n6 g 1) cZ))),(dN (t_ (fo g.room) (kV g 0) (kV g 2))),(kV g 1)⟩))
 (k4 (px (g_ (aK bq (kV g 2) (kV g 3)))))))))
abbrev iu:Stmt:=yD 21
abbrev qu:R5:=["web","thing"]
abbrev qy:R5:=["isinstance","list","all","sorted","range"]
abbrev pR:R5:=["web","thing"]
def yR(l:Sc X iu)(g:Gd X qu qy k)(z:io X)(r:Cal X "is_place" kQ fS k)(a:Nn X "sorted")(o:Nn X "list")(e:Nn X "range")(u:Nn X "all")(s:Nn X "isinstance"):n5 X (aJ iu) ul :=
 (kx.h (ka (li (cr (f9 (eX (i9 g (i:=0) (j:=1) rfl s rfl o dr iW (kV g 1)))) (kx.h (k4 (px (g_ gJ)))) bD))
 (ka (li (cr (f9 (eX (Dc g 2 (vh g) u uQ (ag (Es g l ["place"] ["web"] ["is_place"] [0] (bL (kV g 1)) λt y g=>⟨(n6 g 0),fK,(nj g 0 (y.c r) (ag (qk (kV g 1) aj) (ag (kV g 0) ah)))⟩) ah)))) (kx.h (k4 (px (g_ gJ)))) bD))
 (k4 (px (g_ (K2 (fo g.room) (Dc g 3 zP a Ax (ag (kV g 1) ah)) (CQ g (i:=1) (j:=4) rfl o rfl e (ag (qk (kV g 0) aj) ah)))))))))
abbrev fh:Stmt:=yD 22
abbrev lz:R5:=["web","thing"]
abbrev lG:R5:=["is_order","NoOrder"]
abbrev lr:R5:=["web","thing"]
def uk(e:Sc X fh)(g:Gd X lz lG k)(i:io X)(a:Cal X "is_order" pR ip k)(cl:Cl X.K X.mg):n5 X (aJ fh) n8 :=
 (kx.h (k4 (li (cr (f9 (eX (nj g 0 a (ag (kV g 0) (ag (kV g 1) ah))))) (kx.h (k4 (li (tq g (j:=1) rfl cl.r_NoOrder (ag cw ah))))) bD))))
abbrev ft:Stmt:=yD 24
abbrev lD:R5:=["places","pairs","k","a"]
abbrev lv:R5:=["enumerate"]
abbrev lL:R5:=["places"]
def ui(a:Sc X ft)(g:Gd X lD lv k)(j:io X)(e:Nn X "enumerate"):n5 X (aJ ft) sP :=
 (kx.h (ka (o0 g 1 (g_ (dk ah)))
 (ka (li (df g (Ol g 0 e (ag (kV g 0) ah)) (dJ g (aT (n6 g 2) (aT (n6 g 3) cZ))) (kx.h (k4 (li (bQ (d3 gP gZ gQ (kV g 1) (ag (Es g a ["b"] ["a"] [] [3] (bL (jK (kV g 0) (fM (aK bq (kV g 2) aj)) fQ)) λi y g=>⟨(n6 g 0),fK,(w_.h (Di (ao (g_ (kV g 1)) (ao (g_ (kV g 0)) aN))))⟩) ah))))))))
 (k4 (px (g_ (kV g 1)))))))
abbrev fj:Stmt:=yD 25
abbrev lF:R5:=["web","left","v"]
abbrev lK:R5:=["pairs_among","neighbours"]
abbrev lu:R5:=["web","left","v"]
def ud(a:Sc X fj)(g:Gd X lF lK k)(l:io X)(i:Cal X "neighbours" iK fW k)(e:Cal X "pairs_among" lL lB k):n5 X (aJ fj) s_ :=
 (kx.h (k4 (px (g_ (nj g 0 e (ag (Es g a ["place"] ["left"] [] [1] (bL (nj g 1 i (ag (kV g 0) (ag (kV g 2) ah)))) λj y g=>⟨(n6 g 0),(dN (t_ (nA g.room T) (kV g 0) (kV g 1))),(kV g 0)⟩) ah))))))
abbrev fU:Stmt:=yD 26
abbrev l0:R5:=["web","left","v","others"]
abbrev mT:R5:=["check_place","check_places","rising_once","pairs_round"]
abbrev lZ:R5:=["web","left","v"]
def uW(a:Sc X fU)(g:Gd X l0 mT k)(r:io X)(j:Cal X "pairs_round" lu ly k)(i:Cal X "rising_once" hX fB k)(e:Cal X "check_places" gC cg k)(l:Cal X "check_place" fe cC k):n5 X (aJ fU) yq :=
 (kx.h (ka (li (bQ (nj g 0 l (ag (qk (kV g 0) aj) (ag (kV g 2) ah)))))
 (ka (li (bQ (nj g 1 e (ag (qk (kV g 0) aj) (ag (kV g 1) ah)))))
 (ka (li (Nj g a 3 ["tie"] ["v"] [] [2] (bL (qk (kV g 0) aj)) λo y g=>⟨(n6 g 0),(dN (t_ (nA g.room I) (kV g 1) (kV g 0))),(kV g 0)⟩))
 (k4 (px (Di (ao (g_ (qk (kV g 0) aj)) (ao (g_ (nj g 2 i (ag (aK bq (kV g 3) (nj g 3 j (ag (kV g 0) (ag (kV g 1) (ag (kV g 2) ah))))) ah))) aN)))))))))
abbrev kU:Stmt:=yD 27
abbrev vQ:R5:=["web","order","ties","now","k","v"]
abbrev vZ:R5:=["check_order","list","enumerate","struck_out","rising_once"]
abbrev vT:R5:=["web","order"]
def Cp(e:Sc X kU)(g:Gd X vQ vZ k)(r:io X)(o:Cal X "rising_once" hX fB k)(a:Cal X "struck_out" lZ nt k)(l:Cal X "check_order" lr fc k)(i:Nn X "enumerate")(j:Nn X "list"):n5 X (aJ kU) CW :=
 (kx.h (ka (li (bQ (nj g 0 l (ag (kV g 0) (ag (kV g 1) ah)))))
 (ka (o0 g 2 (g_ (Er g 1 iD j dr (ag (qk (kV g 0) aj) ah))))
 (ka (o0 g 3 (g_ (kV g 0)))
 (ka (li (df g (Ol g 2 i (ag (kV g 1) ah)) (dJ g (aT (n6 g 4) (aT (n6 g 5) cZ))) (kx.h (ka (o0 g 3 (g_ (nj g 3 a (ag (kV g 3) (ag (jK (kV g 1) (fM (kV g 4)) fQ) (ag (kV g 5) ah))))))
 (k4 (li (bQ (d3 gP gZ gQ (kV g 2) (ag (qk (kV g 3) aj) ah)))))))))
 (k4 (px (Di (ao (g_ (qk (kV g 0) aj)) (ao (g_ (nj g 4 o (ag (kV g 2) ah))) aN))))))))))
abbrev je:Stmt:=yD 29
abbrev sH:R5:=["web","order","full","told","k","v","near","behind"]
abbrev sI:R5:=["filled","enumerate","neighbours"]
abbrev sT:R5:=["web","order"]
def Ak(e:Sc X je)(g:Gd X sH sI k)(o:io X)(j:Cal X "neighbours" iK fW k)(a:Cal X "filled" vT lc k)(i:Nn X "enumerate"):n5 X (aJ je) y3 :=
 (kx.h (ka (o0 g 2 (g_ (nj g 0 a (ag (kV g 0) (ag (kV g 1) ah)))))
 (ka (o0 g 3 (JR fY (Dq (ao (g_ d6) aN)) (g_ (qk (kV g 0) aj))))
 (ka (li (df g (Ol g 1 i (ag (kV g 1) ah)) (dJ g (aT (n6 g 4) (aT (n6 g 5) cZ))) (kx.h (ka (o0 g 6 (g_ (nj g 2 j (ag (kV g 2) (ag (kV g 5) ah)))))
 (ka (li (Nj g e 7 ["place"] ["near"] [] [6] (bL (jK (kV g 1) (fM (aK bq (kV g 4) aj)) fQ)) λl y g=>⟨(n6 g 0),(dN (t_ (nA g.room T) (kV g 0) (kV g 1))),(kV g 0)⟩))
 (k4 (li (cr (JP (kV g 7)) (kx.h (k4 (li (qK (qk (kV g 7) aj) (qt (kV g 3) (kV g 5)))))) bD))))))))
 (k4 (px (g_ (kV g 3))))))))
abbrev eQ:Stmt:=yD 30
abbrev jZ:R5:=["tree","place","found","here"]
abbrev kv:R5:=[]
abbrev jY:R5:=["tree","place"]
def rP(a:Sc X eQ)(g:Gd X jZ kv k)(e:io X):n5 X (aJ eQ) qr :=
 (kx.h (ka (o0 g 2 (g_ (dk ah)))
 (ka (o0 g 3 (g_ (qk (kV g 0) (kV g 1))))
 (ka (li (pz g (t_ Ar (kV g 3) d6) (kx.h (ka (li (bQ (d3 jp jB jk (kV g 2) (ag (kV g 3) ah))))
 (k4 (o0 g 3 (g_ (qk (kV g 0) (kV g 3)))))))))
 (k4 (px (g_ (kV g 2))))))))
abbrev jt:Stmt:=yD 32
abbrev tO:R5:=["web","order","pairs","pair","tree","found","i","j","first"]
abbrev tY:R5:=["check_places","parents","places_above","sorted","set"]
abbrev mq:R5:=["web","order","pairs"]
def Ac(l:Sc X jt)(g:Gd X tO tY k)(o:io X)(a:Cal X "places_above" jY kn k)(i:Cal X "parents" sT jy k)(j:Cal X "check_places" gC cg k)(e:Nn X "sorted")(n12:Nn X "set"):n5 X (aJ jt) qv :=
 (kx.h (ka (li (df g (bL (kV g 2)) (n6 g 3) (kx.h (k4 (li (bQ (nj g 0 j (ag (qk (kV g 0) aj) (ag (kV g 3) ah)))))))))
 (ka (o0 g 4 (g_ (nj g 1 i (ag (kV g 0) (ag (kV g 1) ah)))))
 (ka (o0 g 5 (g_ (dk ah)))
 (ka (li (df g (bL (kV g 2)) (dJ g (aT (n6 g 6) (aT (n6 g 7) cZ))) (kx.h (ka (o0 g 8 (g_ (IL (t_ uG (d3 kJ kW kI (kV g 1) (ag (kV g 6) ah)) (d3 kJ kW kI (kV g 1) (ag (kV g 7) ah))) (kV g 6) (kV g 7))))
 (k4 (li (bQ (d3 gP gZ gQ (kV g 5) (ag (aK bq (w_.h (Dq (ao (g_ (kV g 8)) aN))) (nj g 2 a (ag (kV g 4) (ag (kV g 8) ah)))) ah)))))))))
 (k4 (px (g_ (lC g 3 4 e n12 (ag (kV g 5) ah))))))))))
abbrev nG:Stmt:=yD 34
abbrev xJ:R5:=["_law_script","_law_k","_law_cell"]
abbrev xh:R5:=["min","len","abs"]
abbrev xN:R5:=["_law_script","_law_k"]
def GZ(j:Sc X nG)(g:Gd X xJ xh k)(l:io X)(i:Nn X "abs")(e:Nn X "len")(a:Nn X "min"):n5 X (aJ nG) BL :=
 (kx.h (ka (o0 g 2 (g_ (aK bq (aK fY aj (kV g 1)) aj)))
 (ka (li (cr (t_ uG (kV g 1) (Dc g 0 (qJ g) a mU (ag (Dc g 1 gR e gO (ag (kV g 0) ah)) (ag aj ah)))) (kx.h (k4 (o0 g 2 (g_ (qk (kV g 0) (kV g 1)))))) (kx.h (k4 (li (cr (t_ Hg (Dc g 1 gR e gO (ag (kV g 0) ah)) aj) (kx.h (k4 (o0 g 2 (g_ (aK bq (aK eZ (qk (kV g 0) (aK eZ (kV g 1) (Dc g 0 (qJ g) a mU (ag (Dc g 1 gR e gO (ag (kV g 0) ah)) (ag aj ah))))) (aK wk aj aj)) (aK fY aj (kV g 1))))))) bD))))))
 (ka (li (cr (t_ L7 (Dc g 2 AZ i Be (ag (kV g 2) ah)) (aK wk aj aj)) (kx.h (k4 (px (Dq (ao (g_ aj) (ao (g_ (Dc g 2 AZ i Be (ag (kV g 2) ah))) (ao (g_ aj) aN))))))) bD))
 (k4 (px (Dq (ao (g_ aj) (ao (g_ (aK bq (aK eZ (kV g 2) aj) (aK fY aj (kV g 1)))) (ao (g_ aj) aN))))))))))
abbrev lh:Stmt:=yD 35
abbrev vE:R5:=["_law_pen_here","_law_size","_law_number","_law_drawn"]
abbrev vt:R5:=[]
abbrev iX:R5:=["_law_pen_here","_law_size"]
def BU(a:Sc X lh)(g:Gd X vE vt k)(e:io X):n5 X (aJ lh) yv :=
 (kx.h (ka (li (qK (aK bq (qk (kV g 0) aj) aj) (qt (kV g 0) aj)))
 (ka (li (cr (t_ (fo g.room) (qk (kV g 0) aj) aj) (kx.h (ka (o0 g 3 (g_ (aK eZ (qk (kV g 0) aj) (kV g 1))))
 (ka (li (qK (aK Hh (qk (kV g 0) aj) (kV g 1)) (qt (kV g 0) aj)))
 (k4 (px (g_ (kV g 3))))))) bD))
 (ka (o0 g 2 (g_ (aK eZ (aK fY (aK bq (aK bq (qk (kV g 0) aj) (aK fY aj (qk (kV g 0) aj))) aj) aj) aj)))
 (ka (o0 g 2 (g_ (aK eZ (aK fY (kV g 2) (aK bq (aK bq (aK eZ (kV g 2) aj) (qk (kV g 0) aj)) aj)) aj)))
 (k4 (px (g_ (aK eZ (aK Hh (aK eZ (aK fY (kV g 2) (aK bq (aK eZ (kV g 2) aj) aj)) aj) aj) (kV g 1))))))))))
abbrev iI:Stmt:=yD 36
abbrev pF:R5:=["_law_found","_law_due_here"]
abbrev pD:R5:=["isinstance","list","tuple","len","all","zip","int","bool"]
abbrev pJ:R5:=["_law_found","_law_due_here"]
def B8(r:Sc X iI)(g:Gd X pF pD k)(E:io X)(s:Cal X "_law_same" pJ F k)(a:Nn X "isinstance")(B:Nn X "bool")(u:Nn X "int")(l:Nn X "list")(e:Nn X "tuple")(o:Nn X "zip")(C:Nn X "all")(t:Nn X "len"):n5 X (aJ iI) (pj F) :=
 (kx.h (ka (li (cr (t_ yr (kV g 1) d6) (kx.h (k4 (px (g_ (K2 yr (kV g 0) d6))))) bD))
 (ka (li (cr (eX (yf g (i:=0) (j:=1) (j':=2) rfl a rfl l dr iW rfl e i5 tS (kV g 1))) (kx.h (ka (li (cr (MW.mt (kS (f9 (eX (yf g (i:=0) (j:=1) (j':=2) rfl a rfl l dr iW rfl e i5 tS (kV g 0)))) (iQ (t_ (jN g.room) (i9 g (i:=0) (j:=1) rfl a rfl l dr iW (kV g 0)) (i9 g (i:=0) (j:=1) rfl a rfl l dr iW (kV g 1)))))) (kx.h (k4 (px (g_ gJ)))) bD))
 (k4 (px (g_ (mO (K2 (fo g.room) (Dc g 3 gR t gO (ag (kV g 0) ah)) (Dc g 3 gR t gO (ag (kV g 1) ah))) (mI (Dc g 4 (vh g) C uQ (ag (Es g r ["_law_one","_law_other"] [] ["_law_same"] [] (JO g (j:=5) rfl o (ag (kV g 0) (ag (kV g 1) ah))) λz y g=>⟨(dJ g (aT (n6 g 0) (aT (n6 g 1) cZ))),fK,(nj g 0 (y.c s) (ag (kV g 0) (ag (kV g 1) ah)))⟩) ah))))))))) bD))
 (k4 (px (g_ (mO (i9 g (i:=0) (j:=6) rfl a rfl u j8 xF (kV g 0)) (mO (A2 (i9 g (i:=0) (j:=7) rfl a rfl B yh uV (kV g 0))) (mI (K2 (fo g.room) (kV g 0) (kV g 1)))))))))))
def sM{K:ij}{k:Nat}(b:Ba P w K mg base)(D:e_ K "_law_same" iI)(r:Zn K "isinstance")(o:Zn K "bool")(j:Zn K "int")(t:Zn K "list")(i:Zn K "tuple")(a:Zn K "zip")(s:Zn K "all")(l:Zn K "len"):∀n:Nat,FnAt P w K mg base "_law_same" pJ (kM n) (k+n+1)
 |0=>v_ (N:=pF) (G:=pD) (m:=λ_ _=>.bad) b D λX e h g d=>Gj
 |n+1=>v_ (N:=pF) (G:=pD) (k:=k+n+1) (m:=pj (kM n)) b D λX e h g d=>B8 h g d ((sM b D r o j t i a s l n).c e (i3 _)) (e.n r) (e.n o) (e.n j) (e.n t) (e.n i) (e.n a) (e.n s) (e.n l)
abbrev lj:Stmt:=yD 37
abbrev vj:R5:=["_law_pen_here"]
abbrev vV:R5:=["_law_draw"]
abbrev vn:R5:=["_law_pen_here"]
def B2(e:Sc X lj)(g:Gd X vj vV k)(i:io X)(a:Cal X "_law_draw" iX bP k):n5 X (aJ lj) DD :=
 (kx.h (ka (li (cr (t_ (fo g.room) (nj g 0 a (ag (kV g 0) (ag aj ah))) aj) (kx.h (k4 (px (g_ aj)))) bD))
 (k4 (px (N_ (Dq (ao (g_ aj) (ao (g_ aj) (ao (g_ aj) (ao (g_ aj) (ao (g_ aj) (ao (g_ aj) (ao (g_ aj) (ao (g_ aj) aN))))))))) (g_ (nj g 0 a (ag (kV g 0) (ag aj ah)))))))))
abbrev jC:Stmt:=yD 38
abbrev tP:R5:=["_law_pen_here","_law_n","_law_found","_law_k"]
abbrev t7:R5:=["range","_law_draw"]
abbrev tI:R5:=["_law_pen_here","_law_n"]
def AT(i:Sc X jC)(g:Gd X tP t7 k)(j:io X)(e:Cal X "_law_draw" iX bP k)(a:Nn X "range"):n5 X (aJ jC) Dj :=
 (kx.h (ka (o0 g 2 (g_ (dk ah)))
 (ka (li (df g (Ni g 0 a (ag (kV g 1) ah)) (n6 g 3) (kx.h (k4 (li (bQ (d3 zL Am As (kV g 2) (ag (nj g 1 e (ag (kV g 0) (ag (aK bq (kV g 3) aj) ah))) (ag (kV g 3) ah)))))))))
 (k4 (px (g_ (kV g 2)))))))
abbrev k8:Stmt:=yD 39
abbrev u7:R5:=["_law_pen_here","_law_n","_law_some","_law_ties_here","_law_a"]
abbrev wg:R5:=["range","tuple"]
abbrev wl:R5:=["_law_pen_here","_law_n","_law_some"]
def Bw(i:Sc X k8)(g:Gd X u7 wg k)(o:io X)(j:Cal X "_law_draw" iX bP k)(e:Nn X "tuple")(a:Nn X "range"):n5 X (aJ k8) DE :=
 (kx.h (ka (o0 g 3 (g_ (dk ah)))
 (ka (li (df g (Ni g 0 a (ag (kV g 1) ah)) (n6 g 4) (kx.h (k4 (li (bQ (d3 gP gZ gQ (kV g 3) (ag (Es g i ["_law_b"] ["_law_a","_law_pen_here","_law_some"] ["_law_draw"] [4,0,2] (RU g 0 a (ag (aK bq (kV g 4) aj) (ag (kV g 1) ah))) λl y g=>⟨(n6 g 0),(dN (t_ (fo g.room) (nj g 0 (y.c j) (ag (kV g 2) (ag (kV g 3) ah))) aj)),(w_.h (Di (ao (g_ (kV g 1)) (ao (g_ (kV g 0)) aN))))⟩) ah))))))))
 (k4 (px (g_ (Er g 1 ph e i5 (ag (kV g 3) ah))))))))
abbrev kX:Stmt:=yD 40
abbrev u5:R5:=["_law_ties_here","_law_v"]
abbrev vI:R5:=[]
abbrev ww:R5:=["_law_ties_here","_law_v"]
def BX(a:Sc X kX)(g:Gd X u5 vI k)(i:io X):n5 X (aJ kX) DF :=
 (kx.h (k4 (px (JR bq (g_ (Es g a ["_law_a","_law_b"] ["_law_v"] [] [1] (bL (kV g 0)) λe y g=>⟨(dJ g (aT (n6 g 0) (aT (n6 g 1) cZ))),(dN (t_ (fo g.room) (kV g 0) (kV g 2))),(kV g 1)⟩)) (g_ (Es g a ["_law_a","_law_b"] ["_law_v"] [] [1] (bL (kV g 0)) λe y g=>⟨(dJ g (aT (n6 g 0) (aT (n6 g 1) cZ))),(dN (t_ (fo g.room) (kV g 1) (kV g 2))),(kV g 0)⟩))))))
abbrev jE:Stmt:=yD 41
abbrev sK:R5:=["_law_ties_here","_law_order_here","_law_at","_law_seen","_law_k"]
abbrev tF:R5:=["len","_law_near"]
abbrev sZ:R5:=["_law_ties_here","_law_order_here","_law_at"]
def AF(a:Sc X jE)(g:Gd X sK tF k)(l:io X)(i:Cal X "_law_near" ww vF k)(j:Nn X "len"):n5 X (aJ jE) Dk :=
 (kx.h (ka (o0 g 3 (Dq (ao (g_ (qk (kV g 1) (kV g 2))) aN)))
 (ka (o0 g 4 (g_ aj))
 (ka (li (pz g (t_ uG (kV g 4) (Dc g 0 gR j gO (ag (kV g 3) ah))) (kx.h (ka (li (cr (MW.mt (kS (t_ (fo g.room) (kV g 4) aj) (iQ (t_ (nA g.room T) (qk (kV g 3) (kV g 4)) (jK (kV g 1) fQ (fM (kV g 2))))))) (kx.h (k4 (li (bQ (d3 gP gZ gQ (kV g 3) (ag (Es g a ["_law_w"] ["_law_seen"] [] [3] (bL (nj g 1 i (ag (kV g 0) (ag (qk (kV g 3) (kV g 4)) ah)))) λe y g=>⟨(n6 g 0),(dN (t_ (nA g.room I) (kV g 0) (kV g 1))),(kV g 0)⟩) ah)))))) bD))
 (k4 (o0 g 4 (g_ (aK bq (kV g 4) aj))))))))
 (k4 (px (g_ (Es g a ["_law_w"] ["_law_seen"] [] [3] (bL (jK (kV g 1) (fM (aK bq (kV g 2) aj)) fQ)) λe y g=>⟨(n6 g 0),(dN (t_ (nA g.room T) (kV g 0) (kV g 1))),(kV g 0)⟩))))))))
abbrev jl:Stmt:=yD 42
abbrev sv:R5:=["_law_ties_here","_law_order_here","_law_found","_law_at","_law_v","_law_later_here"]
abbrev tN:R5:=["enumerate","_law_later"]
abbrev sV:R5:=["_law_ties_here","_law_order_here"]
def Ay(a:Sc X jl)(g:Gd X sv tN k)(l:io X)(e:Cal X "_law_later" sZ tw k)(i:Nn X "enumerate"):n5 X (aJ jl) Dl :=
 (kx.h (ka (li (Nj g a 2 ["_law_v"] [] [] [] (bL (kV g 1)) λj y g=>⟨(n6 g 0),fK,d6⟩))
 (ka (li (df g (Ol g 0 i (ag (kV g 1) ah)) (dJ g (aT (n6 g 3) (aT (n6 g 4) cZ))) (kx.h (ka (o0 g 5 (g_ (nj g 1 e (ag (kV g 0) (ag (kV g 1) (ag (kV g 3) ah))))))
 (k4 (li (cr (t_ (jN g.room) (kV g 5) (dk ah)) (kx.h (k4 (li (qK (qk (kV g 5) aj) (qt (kV g 2) (kV g 4)))))) bD)))))))
 (k4 (px (g_ (kV g 2)))))))
abbrev nZ:Stmt:=yD 43
abbrev xY:R5:=["_law_ties_here","_law_order_here","_law_pairs","_law_above_here","_law_found","_law_i","_law_j","_law_at"]
abbrev xz:R5:=["_law_above","min","sorted","set"]
abbrev xO:R5:=["_law_ties_here","_law_order_here","_law_pairs"]
def G0(j:Sc X nZ)(g:Gd X xY xz k)(l:io X)(i:Cal X "_law_above" sV sD k)(a:Nn X "sorted")(n12:Nn X "set")(e:Nn X "min"):n5 X (aJ nZ) Ef :=
 (kx.h (ka (o0 g 3 (g_ (nj g 0 i (ag (kV g 0) (ag (kV g 1) ah)))))
 (ka (o0 g 4 (g_ (dk ah)))
 (ka (li (df g (bL (kV g 2)) (dJ g (aT (n6 g 5) (aT (n6 g 6) cZ))) (kx.h (ka (o0 g 7 (g_ (qk (kV g 1) (Dc g 1 (qJ g) e mU (ag (d3 kJ kW kI (kV g 1) (ag (kV g 5) ah)) (ag (d3 kJ kW kI (kV g 1) (ag (kV g 6) ah)) ah))))))
 (k4 (li (pz g (t_ Ar (kV g 7) d6) (kx.h (ka (li (bQ (d3 jp jB jk (kV g 4) (ag (kV g 7) ah))))
 (k4 (o0 g 7 (g_ (qk (kV g 3) (kV g 7))))))))))))))
 (k4 (px (g_ (lC g 2 3 a n12 (ag (kV g 4) ah)))))))))
abbrev jg:Stmt:=yD 44
abbrev tK:R5:=["_law_web","_law_order_here","_law_pairs","_law_caught","e","_law_others"]
abbrev tW:R5:=["touched","FillError","isinstance","ValueError","NoNumber","NoParting","NoPivot","NoRow","NoSheet","NoText","NoWeb","NoWord","TooMany","int","NoPlace","NoOrder"]
abbrev lU:R5:=["_law_web","_law_order_here","_law_pairs"]
def zW(e:Sc X jg)(g:Gd X tK tW k)(r:io X)(a:Cal X "touched" mq bT k)(o:Nn X "int")(l:Nn X "isinstance")(n0:Nn X "ValueError")(cl:Cl X.K X.mg):n5 X (aJ jg) y4 :=
 (kx.h (ka (o0 g 3 (g_ d6))
 (ka (li (FU g r (j:=1) rfl cl.t_FillError 3 4 rfl rfl rfl rfl (by rw[e];decide +kernel) (λB t s u z y C g r=>have a:=a.at t s u z y;(kx.h (k4 (li (bQ (nj g 0 a (ag (kV g 0) (ag (kV g 1) (ag (kV g 2) ah))))))))) (by revert e;delta Sc;generalize X.env=env;intro h;cases env;cases h;rfl)))
 (ka (li (cr (MW.mt (kS (t_ yr (kV g 3) d6) (iQ (f9 (eX (FT g (i:=2) (j:=3) rfl l rfl n0 ug cl.i_ValueError (kV g 3))))))) (kx.h (k4 (px (g_ cw)))) bD))
 (ka (o0 g 5 (g_ (BA g (i:=2) rfl l (dE g (j:=4) rfl cl.i_NoNumber (dE g (j:=5) rfl cl.i_NoParting (dE g (j:=6) rfl cl.i_NoPivot (dE g (j:=7) rfl cl.i_NoRow (dE g (j:=8) rfl cl.i_NoSheet (dE g (j:=9) rfl cl.i_NoText (dE g (j:=10) rfl cl.i_NoWeb (dE g (j:=11) rfl cl.i_NoWord (dE g (j:=12) rfl cl.i_TooMany Gk))))))))) cl.i_NoNumber (by decide) (kV g 3))))
 (k4 (px (g_ (ML PySem.F.slot_str_join PySem.F.type_str_join Gm cw (ag (w_.h (Dq (ao (N_ (Dq (ao (g_ cw) (ao (g_ cw) aN))) (g_ (Er g 13 qC o j8 (ag (xA g (i:=2) (j:=14) rfl l rfl cl.i_NoPlace (kV g 3)) ah)))) (ao (N_ (Dq (ao (g_ cw) (ao (g_ cw) aN))) (g_ (Er g 13 qC o j8 (ag (xA g (i:=2) (j:=15) rfl l rfl cl.i_NoOrder (kV g 3)) ah)))) (ao (N_ (Dq (ao (g_ cw) (ao (g_ cw) aN))) (g_ (Er g 13 qC o j8 (ag (kV g 5) ah)))) aN))))) ah))))))))))
abbrev gH:Stmt:=yD 45
abbrev oz:R5:=["_law_web","_law_order_here","_law_pairs","_law_n","_law_other","_law_bent","_law_pair"]
abbrev oH:R5:=["_law_asked","list","tuple"]
abbrev oK:R5:=["_law_web","_law_order_here","_law_pairs"]
def wE(j:Sc X gH)(g:Gd X oz oH k)(l:io X)(a:Cal X "_law_asked" lU cx k)(e:Nn X "tuple")(i:Nn X "list"):n5 X (aJ gH) zI :=
 (kx.h (ka (o0 g 3 (g_ (qk (kV g 0) aj)))
 (ka (li (df g (bL (w_.h (Di (ao (g_ (kV g 3)) (ao (g_ (LZ IU aj)) (ao (g_ gJ) (ao (g_ d6) (ao (g_ cw) (ao (Di (ao (g_ aj) aN)) (ao (Dq (ao (g_ aj) aN)) (ao (g_ xj) (ao (g_ (aK wk aj aj)) aN)))))))))))) (n6 g 4) (kx.h (k4 (li (df g (bL (w_.h (Di (ao (Di (ao (g_ (kV g 4)) (ao (g_ (kV g 4)) aN))) (ao (Di (ao (g_ aj) (ao (g_ (kV g 4)) aN))) (ao (Di (ao (g_ (kV g 4)) (ao (g_ aj) aN))) aN)))))) (n6 g 6) (kx.h (k4 (li (cr (MW.mt (kS (t_ (jN g.room) (nj g 0 a (ag (kV g 0) (ag (Er g 1 iD i dr (ag (kV g 1) ah)) (ag (aK bq (kV g 2) (w_.h (Dq (ao (g_ (kV g 6)) aN)))) ah)))) cw) (iQ (t_ (jN g.room) (nj g 0 a (ag (kV g 0) (ag d6 (ag (w_.h (Dq (ao (g_ (kV g 6)) aN))) ah)))) cw)))) (kx.h (k4 (px (g_ gJ)))) bD))))))))))
 (ka (li (df g (bL (w_.h (Di (ao (g_ d6) (ao (g_ (Er g 2 ph e i5 (ag (kV g 1) ah))) (ao (JR bq (g_ (kV g 1)) (Dq (ao (g_ aj) aN))) (ao (JR bq (g_ (jK (kV g 1) (fM aj) fQ)) (Dq (ao (g_ (kV g 3)) aN))) (ao (g_ (jK (kV g 1) (fM aj) fQ)) (ao (JR bq (g_ (jK (kV g 1) (fM aj) fQ)) (Dq (ao (Dq (ao (g_ aj) aN)) aN))) (ao (g_ xj) (ao (g_ cw) aN))))))))))) (n6 g 5) (kx.h (k4 (li (cr (t_ (jN g.room) (nj g 0 a (ag (kV g 0) (ag (kV g 5) (ag (Er g 1 iD i dr (ag (kV g 2) ah)) ah)))) cw) (kx.h (k4 (px (g_ gJ)))) bD))))))
 (k4 (px (g_ gJ)))))))
abbrev jv:Stmt:=yD 46
abbrev sG:R5:=["_law_pen_here","_law_n","_law_ties_here","_law_order_here","_law_some","_law_pairs","_law_k","_law_web","_law_due_here","_law_handed","_law_found"]
abbrev sY:R5:=["_law_many","_law_ties","_law_draw","_law_order","list","range","int","len","_law_due","touched","_law_same","_law_refused"]
abbrev tD:R5:=["_law_pen_here"]
def AO(l:Sc X jv)(g:Gd X sG sY k)(F:io X)(s:Cal X "_law_refused" oK oD k)(e:Cal X "touched" mq bT k)(a:Cal X "_law_same" pJ kH k)(B:Cal X "_law_due" xO wY k)(i:Cal X "_law_draw" iX bP k)(z:Cal X "_law_order" tI tX k)(t:Cal X "_law_ties" wl vM k)(o:Cal X "_law_many" vn uX k)(r:Nn X "list")(j:Nn X "range")(C:Nn X "int")(E:Nn X "len"):n5 X (aJ jv) y7 :=
 (kx.h (ka (o0 g 1 (g_ (nj g 0 o (ag (kV g 0) ah))))
 (ka (o0 g 2 (g_ (nj g 1 t (ag (kV g 0) (ag (kV g 1) (ag (aK bq aj (nj g 2 i (ag (kV g 0) (ag aj ah)))) ah))))))
 (ka (o0 g 3 (g_ (nj g 3 z (ag (kV g 0) (ag (kV g 1) ah)))))
 (ka (o0 g 4 (JR bq (JR bq (g_ (Er g 4 iD r dr (ag (kV g 2) ah))) (g_ (Es g l ["_law_a","_law_b"] [] [] [] (bL (kV g 2)) λu y g=>⟨(dJ g (aT (n6 g 0) (aT (n6 g 1) cZ))),fK,(w_.h (Di (ao (g_ (kV g 1)) (ao (g_ (kV g 0)) aN))))⟩))) (g_ (Es g l ["_law_v"] [] [] [] (Ni g 5 j (ag (kV g 1) ah)) λu y g=>⟨(n6 g 0),fK,(w_.h (Di (ao (g_ (kV g 0)) (ao (g_ (kV g 0)) aN))))⟩))))
 (ka (o0 g 5 (g_ (dk ah)))
 (ka (li (df g (Ni g 5 j (ag (aK fY (nj g 2 i (ag (kV g 0) (ag aj ah))) (Er g 6 qC C j8 (ag (K2 Hg (kV g 1) aj) ah))) ah)) (n6 g 6) (kx.h (k4 (li (bQ (d3 jp jB jk (kV g 5) (ag (qk (kV g 4) (nj g 2 i (ag (kV g 0) (ag (Dc g 7 gR E gO (ag (kV g 4) ah)) ah)))) ah))))))))
 (ka (o0 g 7 (Di (ao (g_ (kV g 1)) (ao (g_ (kV g 2)) aN))))
 (ka (o0 g 8 (g_ (nj g 8 B (ag (kV g 2) (ag (kV g 3) (ag (kV g 5) ah))))))
 (ka (o0 g 9 (Di (ao (g_ (Er g 4 iD r dr (ag (kV g 3) ah))) (ao (g_ (Er g 4 iD r dr (ag (kV g 5) ah))) aN))))
 (ka (o0 g 10 (g_ (nj g 9 e (ag (kV g 7) (ag (qk (kV g 9) aj) (ag (qk (kV g 9) aj) ah))))))
 (ka (li (cr (MW.mt (kS (f9 (eX (nj g 10 a (ag (kV g 10) (ag (kV g 8) ah))))) (iQ (t_ (jN g.room) (kV g 9) (w_.h (Di (ao (g_ (kV g 3)) (ao (g_ (kV g 5)) aN)))))))) (kx.h (k4 (px (g_ gJ)))) bD))
 (ka (li (bQ (d3 jp jB jk (kV g 10) (ag aj ah))))
 (ka (li (cr (MW.mt (kS (f9 (eX (nj g 10 a (ag (nj g 9 e (ag (kV g 7) (ag (kV g 3) (ag (kV g 5) ah)))) (ag (kV g 8) ah))))) (iQ (f9 (eX (nj g 10 a (ag (nj g 9 e (ag (kV g 7) (ag (kV g 3) (ag (dk ah) ah)))) (ag (dk ah) ah)))))))) (kx.h (k4 (px (g_ gJ)))) bD))
 (k4 (px (g_ (L3 (K2 (fo g.room) (kV g 1) aj) (mI (nj g 11 s (ag (kV g 7) (ag (kV g 3) (ag (kV g 5) ah)))))))))))))))))))))))
abbrev pS:Stmt:=yD 47
abbrev HF:R5:=["_law_script"]
abbrev HG:R5:=["_law_asked","all","range","max","min","len"]
abbrev E1:R5:=["_law_script"]
def Nt(l:Sc X pS)(g:Gd X HF HG k)(z:io X)(e:Cal X "_law_pen" xN kj k)(i:Cal X "_law_right" tD fP k)(a:Cal X "_law_asked" lU cx k)(j:Nn X "range")(r:Nn X "len")(o:Nn X "min")(s:Nn X "max")(u:Nn X "all"):n5 X (aJ pS) EX :=
 (kx.h (ka (li (cr (MW.mt (kS (t_ (jN g.room) (nj g 0 a (ag (w_.h (Di (ao (g_ aj) (ao (g_ (v3 ah)) aN)))) (ag (dk ah) (ag (w_.h (Dq (ao (Di (ao (g_ aj) (ao (g_ aj) aN))) aN))) ah)))) cw) (iQ (t_ (jN g.room) (nj g 0 a (ag (w_.h (Di (ao (g_ aj) (ao (g_ (v3 ah)) aN)))) (ag (w_.h (Dq (ao (g_ aj) aN))) (ag (dk ah) ah)))) cw)))) (kx.h (k4 (px (g_ gJ)))) bD))
 (k4 (px (g_ (Dc g 1 (vh g) u uQ (ag (Es g l ["_law_k"] ["_law_script"] ["_law_right","_law_pen"] [0] (Ni g 2 j (ag (Dc g 3 (IV g) s Ah (ag aj (ag (Dc g 4 (qJ g) o mU (ag (Dc g 5 gR r gO (ag (kV g 0) ah)) (ag aj ah))) ah))) ah)) λt y g=>⟨(n6 g 0),fK,(nj g 0 (y.c i) (ag (nj g 1 (y.c e) (ag (kV g 1) (ag (kV g 0) ah))) ah))⟩) ah)))))))
def Kw:nS "law" pS E1:=λ_ _ _ _ _ _=>Rn λ_=>rfl
def Kx{K:ij}(b:Ba P w K mg base)(D0:e_ K "is_whole" ie)(D1:e_ K "is_place" ia)(D2:e_ K "check_place" fv)(D3:e_ K "check_places" eS)(D4:e_ K "rising_once" fC)(D5:e_ K "neighbours" gm)(D6:e_ K "is_order" iu)(D7:e_ K "check_order" fh)(D8:e_ K "pairs_among" ft)(D9:e_ K "pairs_round" fj)(b0:e_ K "struck_out" fU)(b1:e_ K "filled" kU)(L:e_ K "parents" je)(ax:e_ K "places_above" eQ)(U:e_ K "touched" jt)(cd:e_ K "_law_pen" nG)(bf:e_ K "_law_draw" lh)(cc:e_ K "_law_same" iI)(an:e_ K "_law_many" lj)(ap:e_ K "_law_order" jC)(S:e_ K "_law_ties" k8)(bx:e_ K "_law_near" kX)(ay:e_ K "_law_later" jE)(b5:e_ K "_law_above" jl)(cf:e_ K "_law_due" nZ)(ch:e_ K "_law_asked" jg)(b6:e_ K "_law_refused" gH)(W:e_ K "_law_right" jv)(ca:e_ K "law" pS)(z0:Zn K "ValueError")(z1:Zn K "abs")(z2:Zn K "all")(z3:Zn K "bool")(z:Zn K "enumerate")(C:Zn K "int")(B:Zn K "isinstance")(u:Zn K "len")(y:Zn K "list")(z9:Zn K "max")(o:Zn K "min")(a:Zn K "range")(r:Zn K "set")(j:Zn K "sorted")(i:Zn K "tuple")(as:Zn K "zip")(cl:Cl K mg):FnAt P w K mg base "law" E1 Eg 13:=by
 have a0:=v_ (k:=0) (N:=qh) (G:=qm) (ps:=qb) b D0 λX e h g d=>yw h g d (e.n B) (e.n z3) (e.n C);have a1:=v_ (k:=1) (N:=qD) (G:=pX) (ps:=kQ) b D1 λX e h g d=>zp h g d (a0.c e);have H:=v_ (k:=2) (N:=lI) (G:=lH) (ps:=fe) b D2 λX e h g d=>uu h g d (a1.c e) (e.e3▸e.e4▸cl);have a3:=v_ (k:=3) (N:=kB) (G:=j5) (ps:=gC) b D3 λX e h g d=>rS h g d (H.c e);have a4:=v_ (k:=0) (N:=lE) (G:=lA) (ps:=hX) b D4 λX e h g d=>t9 h g d (e.n j) (e.n r) (e.n z9) (e.n o) (e.n i);have a5:=v_ (k:=3) (N:=ni) (G:=lT) (ps:=iK) b D5 λX e h g d=>uK h g d (H.c e);have a6:=v_ (k:=2) (N:=qu) (G:=qy) (ps:=pR) b D6 λX e h g d=>yR h g d (a1.c e) (e.n j) (e.n y) (e.n a) (e.n z2) (e.n B);have a7:=v_ (k:=3) (N:=lz) (G:=lG) (ps:=lr) b D7 λX e h g d=>uk h g d (a6.c e) (e.e3▸e.e4▸cl);have a8:=v_ (k:=0) (N:=lD) (G:=lv) (ps:=lL) b D8 λX e h g d=>ui h g d (e.n z);have a9:=v_ (k:=4) (N:=lF) (G:=lK) (ps:=lu) b D9 λX e h g d=>ud h g d (a5.c e) (a8.c e);have b2:=v_ (k:=5) (N:=l0) (G:=mT) (ps:=lZ) b b0 λX e h g d=>uW h g d (a9.c e) (a4.c e) (a3.c e) (H.c e);have al:=v_ (k:=6) (N:=vQ) (G:=vZ) (ps:=vT) b b1 λX e h g d=>Cp h g d (a4.c e) (b2.c e) (a7.c e) (e.n z) (e.n y);have bv:=v_ (k:=7) (N:=sH) (G:=sI) (ps:=sT) b L λX e h g d=>Ak h g d (a5.c e) (al.c e) (e.n z);have R:=v_ (k:=0) (N:=jZ) (G:=kv) (ps:=jY) b ax λX e h g d=>rP h g d;have s:=v_ (k:=8) (N:=tO) (G:=tY) (ps:=mq) b U λX e h g d=>Ac h g d (R.c e) (bv.c e) (a3.c e) (e.n j) (e.n r);have bt:=v_ (k:=0) (N:=xJ) (G:=xh) (ps:=xN) b cd λX e h g d=>GZ h g d (e.n z1) (e.n u) (e.n o);have l:=v_ (k:=0) (N:=vE) (G:=vt) (ps:=iX) b bf λX e h g d=>BU h g d;have E:=sM (P:=P) (w:=w) (k:=0) b cc B z3 C y i as z2 u 8;have F:=v_ (k:=1) (N:=vj) (G:=vV) (ps:=vn) b an λX e h g d=>B2 h g d (l.c e);have b4:=v_ (k:=1) (N:=tP) (G:=t7) (ps:=tI) b ap λX e h g d=>AT h g d (l.c e) (e.n a);have Z:=v_ (k:=1) (N:=u7) (G:=wg) (ps:=wl) b S λX e h g d=>Bw h g d (l.c e) (e.n i) (e.n a);have M:=v_ (k:=0) (N:=u5) (G:=vI) (ps:=ww) b bx λX e h g d=>BX h g d;have b3:=v_ (k:=1) (N:=sK) (G:=tF) (ps:=sZ) b ay λX e h g d=>AF h g d (M.c e) (e.n u);have bm:=v_ (k:=2) (N:=sv) (G:=tN) (ps:=sV) b b5 λX e h g d=>Ay h g d (b3.c e) (e.n z);have ab:=v_ (k:=3) (N:=xY) (G:=xz) (ps:=xO) b cf λX e h g d=>G0 h g d (bm.c e) (e.n j) (e.n r) (e.n o);have t:=v_ (k:=9) (N:=tK) (G:=tW) (ps:=lU) b ch λX e h g d=>zW h g d (s.c e) (e.n C) (e.n B) (e.n z0) (e.e3▸e.e4▸cl);have Q:=v_ (k:=10) (N:=oz) (G:=oH) (ps:=oK) b b6 λX e h g d=>wE h g d (t.c e) (e.n i) (e.n y);have cb:=v_ (k:=11) (N:=sG) (G:=sY) (ps:=tD) b W λX e h g d=>AO h g d (Q.c e) (s.c e) (E.c e) (ab.c e) (l.c e) (b4.c e) (Z.c e) (F.c e) (e.n y) (e.n a) (e.n C) (e.n u);have O:=v_ (k:=12) (N:=HF) (G:=HG) (ps:=E1) b ca λX e h g d=>Nt h g d (bt.c e) (cb.c e) (t.c e) (e.n a) (e.n u) (e.n o) (e.n z9) (e.n z2);exact O
end Law
namespace PySem.W.Fast
def tw10283199855689346179:=0
def tw9838571228148513819:=0
def tw17720616047433278118:=0
def tw8506555640605665092:=0
def tw7734040704529122655:=0
def tw9012377776251344950:=0
def tw9492481524073031676:=0
def tw13322603633904644467:=0
def tw8362192947913635317:=0
def tw18038520365437927383:=0
def tw9720878093125992815:=0
def tw6381482947569964683:=0
def tw7623891911239876977:=0
def tw10513557849370860733:=0
def tw9349488554300997271:=0
def tw2898460000360301325:=0
def tw9474347727040129103:=0
def tw7543139917522732998:=0
def tw10639493077378682414:=0
def tw12457904095781077972:=0
def tw15897191716200162371:=0
def tw4984819485474505902:=0
def tw12424212367930341673:=0
def tw13045933190290510374:=0
def tw2524828466417976:=0
def tw12403548627340607428:=0
def tw15129475315726637622:=0
def tw588481297592263604:=0
def tw9820762114844658674:=0
def tw15060789110535726601:=0
def tw6410088350669509661:=0
def tw10620404661097951847:=0
def tw4990706566538312646:=0
def tw17662170537064006471:=0
def tw7925445225065259864:=0
def tw2779727308727570639:=0
def tw792603373224688438:=0
def tw6474000839563683125:=0
def tw4859485119477786866:=0
def tw14548557582328964978:=0
def tw10041942868071601670:=0
def tw8255611524537452723:=0
def tw9792236485675798081:=0
def tw14479125236343905885:=0
def tw10726899094725701375:=0
def tw15815725172161226112:=0
def tw12738426550337634046:=0
def tw15193271925664254852:=0
def tw17067692726296990086:=0
def tw3880188699312175270:=0
def tw7244636966551745842:=0
def tw4556258185421443919:=0
def tw4819250596258448489:=0
def tw158180571765801080:=0
def tw3206675606628955800:=0
def tw16503043349610439538:=0
def tw2237889580612572718:=0
def tw7919692096450815496:=0
def tw4942736619817789431:=0
def tw6575121904340265732:=0
def tw13203058376304967071:=0
def tw16425084521401095423:=0
def tw11395329523995259193:=0
def tw14670118253562991268:=0
def tw13146925407349913255:=0
def tw12593770478855670878:=0
def tw6257887092130268863:=0
def tw7309282369134279382:=0
def tw5600741064528614613:=0
def tw11470869237837450008:=0
def tw13623207097279212555:=0
def tw4834143049582686177:=0
def tw992842282299494300:=0
def tw15301952522779922328:=0
def tw12024481259123670160:=0
def tw17020363803685572794:=0
def tw12063829963703482860:=0
def tw5527263376200162711:=0
def tw6854129197408763197:=0
def tw12618510017886352417:=0
def tw13264867477762960728:=0
def tw8344144853545719639:=0
def tw1379776524407737807:=0
def tw12008203975997918846:=0
def tw7293805165506012814:=0
def tw2893044120954115954:=0
def tw16509364631288696772:=0
def tw14044568769228122321:=0
def tw2780401887862171480:=0
def tw6714059466701882594:=0
def tw6612640634521668774:=0
def tw136158208745705015:=0
def tw11220976545083022694:=0
def tw2479036459808246576:=0
def tw798226217993433376:=0
def tw8002221097439024626:=0
def tw7718294327875062585:=0
def tw17119348377262394817:=0
def tw9541739673323987448:=0
def tw11955527543958493153:=0
def tw3547521630069494763:=0
def tw7619747168120237435:=0
def tw8299085662750458579:=0
def tw16014085446643877947:=0
def tw8014756002487289959:=0
def tw1612921278762029049:=0
def tw7420568584716814460:=0
def tw1741955538176415583:=0
def tw9380371920434536822:=0
def tw10725337277476825041:=0
def tw18205048653616749990:=0
def tw14915522854862320770:=0
def tw4250544285392451046:=0
def tw5163768669857826943:=0
def tw4595623305243857974:=0
def tw2899874572927849638:=0
def tw10090703977425772248:=0
def tw7298399396167679438:=0
def tw11199386861050420510:=0
def tw1596893731435878898:=0
def tw11948156872248836455:=0
def tw16018961299856875127:=0
def tw8780824210373666416:=0
def tw11358207450555088091:=0
def tw4782736683767826924:=0
def tw17675954905045739624:=0
def tw17671275747430423731:=0
def tw3472281586478766731:=0
def tw12716186872204984868:=0
def tw12445137931843685085:=0
def tw7075512431882470149:=0
def tw15284678664541987399:=0
def tw5131687449527505036:=0
def tw14783499117392182230:=0
def tw11164172164955878269:=0
def tw17622679631499372290:=0
def tw2290763158272422600:=0
def tw11216845875715915418:=0
def tw17997025668437923072:=0
def tw12899926757045279000:=0
def tw15935917971831845130:=0
def tw2769973111425299598:=0
def tw2911550521572706952:=0
def tw4227882735068407724:=0
def tw3983667663146987595:=0
def tw218273752494826450:=0
def tw11641346172555995083:=0
def tw15188847913053131430:=0
def tw3719019556881221791:=0
def tw423019006511269400:=0
def tw6648494379333104033:=0
def tw12802256907863788895:=0
def tw4204061171777993992:=0
def tw12749830459276320216:=0
def tw8141799057667101727:=0
def tw3817765317655535773:=0
def tw9317728509136385411:=0
def tw14989764216389693362:=0
def tw10020119630920879103:=0
def tw16286120261695965924:=0
def tw8132135073392968737:=0
def tw3318427709172743474:=0
def tw12895190990799743451:=0
def tw4474711560369868949:=0
def tw13192819941937572436:=0
def tw2302664858653642165:=0
def tw6309877924939771599:=0
def tw4200914978125804494:=0
def tw11924744658636484560:=0
def tw9778065730475244319:=0
def tw11295353212590673735:=0
def tw12711766316896271144:=0
def tw5364062877561577357:=0
def tw11367430732921703784:=0
def tw13800350201120559523:=0
def tw10453561471395115956:=0
def tw8251959213450086319:=0
def tw5518099308656710874:=0
def tw3858524897187967812:=0
def tw15853176152828569330:=0
def tw3004029859990017510:=0
def tw16487581394719594141:=0
def tw8368457997149077999:=0
def tw14205032330776443073:=0
def tw7890003037168575993:=0
def tw10682014769343603422:=0
def tw6463452638407320478:=0
def tw15619305626390994579:=0
def tw13435722198568595045:=0
def tw11757547062083749220:=0
def tw14571413691103963712:=0
def tw13344120329058604619:=0
def tw18220865509756042987:=0
def tw15146457291718808454:=0
def tw4383371514599372711:=0
def tw13327888538991719859:=0
def tw1300038246230321437:=0
def tw12676111508257290347:=0
def tw8401737116607518832:=0
def tw16837060811496742115:=0
def tw5757846810342852017:=0
def tw14413041078483783396:=0
def tw13588553975440557252:=0
def tw14549943583601366286:=0
def tw1831984164035717190:=0
def tw7317661238038325624:=0
def tw4951506083970261766:=0
end PySem.W.Fast
open PySem PySem.W PyProof.Rows
local macro_rules | `(tactic| and_intros) => `(tactic| (dsimp only [L2.nq]; first | k_is | (refine' MM.EO ?a ?l ?c ?k; (case a => k_is); (case l => k_is); (case c => k_is); (case k => k_is))))
set_option maxRecDepth 100000 in
set_option maxHeartbeats 0 in
theorem PySem.Challenge.cw_fewfills_k42_places_touched_holds : PySem.Challenge.rw_fewfills_k42_places_touched.Holds := by
  w_on; o_law; k_head; (case hw=>w_witness2)
  k_fill
  refine MM.I_ (l:=PySem.Challenge.rw_fewfills_k42_places_touched) (k:=13) (x:="_law_script") (F:=Law.Eg) rfl rfl ⟨rfl,by decide,by decide,rfl⟩ (fun w h Y=>PySem.W.kIn_of Y) ?F Law.E0
  case F=>
    intro w mg fa h KX G hmg
    have Dlaw:MM.e_ (L2.nq KX) "law" Law.pS:=by and_intros
    have D0:MM.e_ (L2.nq KX) "is_whole" Law.ie:=by and_intros
    have D1:MM.e_ (L2.nq KX) "is_place" Law.ia:=by and_intros
    have D2:MM.e_ (L2.nq KX) "check_place" Law.fv:=by and_intros
    have D3:MM.e_ (L2.nq KX) "check_places" Law.eS:=by and_intros
    have D4:MM.e_ (L2.nq KX) "rising_once" Law.fC:=by and_intros
    have D5:MM.e_ (L2.nq KX) "neighbours" Law.gm:=by and_intros
    have D6:MM.e_ (L2.nq KX) "is_order" Law.iu:=by and_intros
    have D7:MM.e_ (L2.nq KX) "check_order" Law.fh:=by and_intros
    have D8:MM.e_ (L2.nq KX) "pairs_among" Law.ft:=by and_intros
    have D9:MM.e_ (L2.nq KX) "pairs_round" Law.fj:=by and_intros
    have D10:MM.e_ (L2.nq KX) "struck_out" Law.fU:=by and_intros
    have D11:MM.e_ (L2.nq KX) "filled" Law.kU:=by and_intros
    have D12:MM.e_ (L2.nq KX) "parents" Law.je:=by and_intros
    have D13:MM.e_ (L2.nq KX) "places_above" Law.eQ:=by and_intros
    have D14:MM.e_ (L2.nq KX) "touched" Law.jt:=by and_intros
    have D15:MM.e_ (L2.nq KX) "_law_pen" Law.nG:=by and_intros
    have D16:MM.e_ (L2.nq KX) "_law_draw" Law.lh:=by and_intros
    have D17:MM.e_ (L2.nq KX) "_law_same" Law.iI:=by and_intros
    have D18:MM.e_ (L2.nq KX) "_law_many" Law.lj:=by and_intros
    have D19:MM.e_ (L2.nq KX) "_law_order" Law.jC:=by and_intros
    have D20:MM.e_ (L2.nq KX) "_law_ties" Law.k8:=by and_intros
    have D21:MM.e_ (L2.nq KX) "_law_near" Law.kX:=by and_intros
    have D22:MM.e_ (L2.nq KX) "_law_later" Law.jE:=by and_intros
    have D23:MM.e_ (L2.nq KX) "_law_above" Law.jl:=by and_intros
    have D24:MM.e_ (L2.nq KX) "_law_due" Law.nZ:=by and_intros
    have D25:MM.e_ (L2.nq KX) "_law_asked" Law.jg:=by and_intros
    have D26:MM.e_ (L2.nq KX) "_law_refused" Law.gH:=by and_intros
    have D27:MM.e_ (L2.nq KX) "_law_right" Law.jv:=by and_intros
    have ZValueError:PySem.W.nsIn (L2.nq KX) mainGlobals "ValueError" = some none:=by and_intros
    have Z28:PySem.W.nsIn (L2.nq KX) mainGlobals "abs" = some none:=by and_intros
    have Z29:PySem.W.nsIn (L2.nq KX) mainGlobals "all" = some none:=by and_intros
    have Z30:PySem.W.nsIn (L2.nq KX) mainGlobals "bool" = some none:=by and_intros
    have Z31:PySem.W.nsIn (L2.nq KX) mainGlobals "enumerate" = some none:=by and_intros
    have Z32:PySem.W.nsIn (L2.nq KX) mainGlobals "int" = some none:=by and_intros
    have Z33:PySem.W.nsIn (L2.nq KX) mainGlobals "isinstance" = some none:=by and_intros
    have Z34:PySem.W.nsIn (L2.nq KX) mainGlobals "len" = some none:=by and_intros
    have Z35:PySem.W.nsIn (L2.nq KX) mainGlobals "list" = some none:=by and_intros
    have Z36:PySem.W.nsIn (L2.nq KX) mainGlobals "max" = some none:=by and_intros
    have Z37:PySem.W.nsIn (L2.nq KX) mainGlobals "min" = some none:=by and_intros
    have Z38:PySem.W.nsIn (L2.nq KX) mainGlobals "range" = some none:=by and_intros
    have Z39:PySem.W.nsIn (L2.nq KX) mainGlobals "set" = some none:=by and_intros
    have Z40:PySem.W.nsIn (L2.nq KX) mainGlobals "sorted" = some none:=by and_intros
    have Z41:PySem.W.nsIn (L2.nq KX) mainGlobals "tuple" = some none:=by and_intros
    have Z42:PySem.W.nsIn (L2.nq KX) mainGlobals "zip" = some none:=by and_intros
    have CL:Law.Ry (L2.nq KX):=by
      dsimp only [L2.nq]
      refine' Law.Kv ?p0 ?p1 ?p2 ?p3 ?p4 ?p5 ?p6 ?p7 ?p8 ?p9 ?p10 ?p11 ?p12 ?p13 ?p14 ?p15 ?p16 ?p17 ?p18 ?p19 ?p20 ?p21 ?p22 ?p23 ?p24 ?p25 ?p26 ?p27 ?p28 ?p29 ?p30 ?p31 ?p32 ?p33 ?p34 ?p35 ?p36 ?p37 ?p38 ?p39 ?p40 ?p41 ?p42 ?p43 ?p44 ?p45 ?p46 ?p47 ?p48 ?p49 ?p50 ?p51 ?p52 ?p53 ?p54 ?p55 ?p56 ?p57 ?p58 ?p59 ?p60 ?p61
      (case p0=>k_is)
      (case p1=>k_is)
      (case p2=>k_is)
      (case p3=>k_is)
      (case p4=>k_is)
      (case p5=>k_is)
      (case p6=>k_is)
      (case p7=>k_is)
      (case p8=>k_is)
      (case p9=>k_is)
      (case p10=>k_is)
      (case p11=>k_is)
      (case p12=>k_exc)
      (case p13=>k_exc)
      (case p14=>k_exc)
      (case p15=>k_is)
      (case p16=>k_is)
      (case p17=>k_is)
      (case p18=>k_is)
      (case p19=>k_is)
      (case p20=>k_is)
      (case p21=>k_is)
      (case p22=>k_is)
      (case p23=>k_is)
      (case p24=>k_is)
      (case p25=>k_is)
      (case p26=>k_is)
      (case p27=>kit_is)
      (case p28=>kit_is)
      (case p29=>kit_is)
      (case p30=>kit_is)
      (case p31=>kit_is)
      (case p32=>kit_is)
      (case p33=>kit_is)
      (case p34=>kit_is)
      (case p35=>kit_is)
      (case p36=>kit_is)
      (case p37=>kit_is)
      (case p38=>kit_is)
      (case p39=>kit_is)
      (case p40=>kit_is)
      (case p41=>kit_is)
      (case p42=>kit_is)
      (case p43=>kit_is)
      (case p44=>kit_is)
      (case p45=>kit_is)
      (case p46=>kit_is)
      (case p47=>kit_is)
      (case p48=>kit_is)
      (case p49=>kit_is)
      (case p50=>kit_is)
      (case p51=>kit_is)
      (case p52=>kit_is)
      (case p53=>kit_is)
      (case p54=>kit_is)
      (case p55=>kit_is)
      (case p56=>kit_is)
      (case p57=>kit_is)
      (case p58=>kit_is)
      (case p59=>kit_is)
      (case p60=>kit_is)
      (case p61=>kit_is)
    exact MM.IZ Dlaw Law.Kw hmg KX G fun base kb nb=>Law.Kx ⟨kb,nb⟩ D0 D1 D2 D3 D4 D5 D6 D7 D8 D9 D10 D11 D12 D13 D14 D15 D16 D17 D18 D19 D20 D21 D22 D23 D24 D25 D26 D27 Dlaw ZValueError Z28 Z29 Z30 Z31 Z32 Z33 Z34 Z35 Z36 Z37 Z38 Z39 Z40 Z41 Z42  (CL _ _ kb nb)
