import PyProof.Rows.All
import Wide.All
import OpenK.AllK
import Wide.FinOn
import Lean
import PyProof.EqAt
import PyProof.EqKinds
import PyProof.TupleCall
import PyProof.ReprRoads
import PyProof.FitsInt
import PyProof.FitsBits
import PyProof.Rows.IntMath
import PyProof.ConsumeWalk
import PyProof.WalkInts
import PyProof.ListRange
import PySem.SetTable
import PyProof.SetKind
import PyProof.TupleKey
import PyProof.DictKinds
import PyProof.IsRules
import PyProof.Rows.SetFrom
import PyProof.CollectIter
import PyProof.ForAny
import PyProof.Rows.SortRuns
import PyProof.Rows.SortKey
import KE.KSortTup
import PyProof.ZipIter
import PyProof.Draws
import PyProof.EnumMake
import PyProof.TupleIter
import PyProof.P3Eq
import PyProof.StrCalls2
import PyProof.StrCalls3
import PyProof.FString
import PyProof.SetRoads
import PyProof.Rows.SeqMore
import PyProof.CallFns
import PyProof.StrOps
import PyProof.Rows.Chain
import PyProof.Rows.TupDisplay
import PyProof.MeetsSeq
import PySem.Challenge.RW_fewfills_k24_pieces_and_shores
set_option Elab.async false
set_option bootstrap.genMatcherCode false
set_option compiler.extract_closed false
set_option genSizeOf false
set_option linter.all false
set_option maxRecDepth 100000
noncomputable section
local macro_rules|`(command|def $i:declId $s:optDeclSig $v:declVal)=>`(command|noncomputable def $i:declId $s:optDeclSig $v:declVal)
local macro_rules|`(command|abbrev $i:declId $s:optDeclSig $v:declVal)=>`(command|noncomputable abbrev $i:declId $s:optDeclSig $v:declVal)
open PySem
abbrev _root_.SQ:=List Str
abbrev _root_.SS:=List Int
abbrev _root_.SU:=List (List Int)
abbrev _root_.SV:=List Nat
abbrev _root_.SX:=List Addr
abbrev _root_.SH:=List Value
abbrev _root_.SK:=List (Addr×Obj)
abbrev _root_.S0:=Option Value
abbrev _root_.S1:=Option Int
abbrev _root_.S3:=List Expr
abbrev _root_.S5:=Value->Shared->Prop
abbrev _root_.S6:=Str->Option Value
abbrev _root_.S8:=Option Nat
abbrev _root_.S9:=List Stmt
abbrev _root_.TL:=Option Addr
abbrev d_:=@wpAny_bind
abbrev h8:=@PySem.W.Frag
abbrev n6:=@Heap.get?_push_of_some
abbrev nt:=@List.mem_cons_of_mem
abbrev mu:=@List.mem_cons_self
abbrev b_:=@if_pos
abbrev o0:=@List.getElem?_set_ne
abbrev pu:=@List.mem_append_right
abbrev r_:=@List.getElem?_eq_some_iff
abbrev iv:=@Nat.le_refl
abbrev j_:=@List.mem_cons
abbrev n_:=@Bool.false_eq_true
abbrev il:=@wpAny_pure
abbrev vj:=@List.getElem?_append_left
abbrev nw:=@List.mem_append
abbrev k6:=@List.mem_map
abbrev q0:=@Nat.lt_of_lt_of_le
abbrev oh:=@List.length_map
abbrev mO:=@List.map_cons
abbrev c_:=@if_neg
abbrev mh:=@Nat.le_trans
abbrev si:=@List.set_cons_zero
abbrev q_:=@List.size_toArray
abbrev tp:=@List.set_cons_succ
abbrev nj:=@Heap.lt_size
abbrev v_:=@Array.getElem?_toList
abbrev vK:=@List.mem_append_left
abbrev wh:=@Array.length_toList
abbrev y9:=@List.getElem?_set_self
abbrev y_:=@Option.map_eq_some_iff
abbrev yM:=@Heap.get?_push_size
abbrev zt:=@List.mem_iff_getElem?
abbrev wl:=@List.getElem?_map
abbrev AX:=@List.getElem?_append_right
abbrev AR:=@List.getElem?_cons_succ
abbrev AT:=@List.getElem?_cons_zero
abbrev AY:=@List.getElem?_eq_getElem
abbrev sv:=@Nat.ne_of_lt
abbrev zv:=@List.length_append
abbrev AC:=@List.mem_of_getElem?
abbrev u0:=@Nat.zero_le
abbrev AD:=@List.mem_singleton
abbrev vu:=@Nat.le_of_lt
abbrev Ap:=@Int.toNat_natCast
abbrev Aq:=@Option.getD_some
abbrev Ar:=@Option.bind_some
abbrev As:=@List.mem_filter
abbrev xg:=@List.map_map
abbrev AU:=@List.length_cons
abbrev BP:=@List.getElem?_replicate
abbrev Br:=@List.getElem?_eq_none
abbrev yV:=@Nat.zero_add
abbrev A4:=@List.nodup_append
abbrev A5:=@List.pairwise_map
abbrev At:=@Nat.lt_irrefl
abbrev BQ:=@List.take_append_drop
abbrev Bl:=@List.pairwise_cons
abbrev BR:=@List.length_filter_le
abbrev Au:=@List.map_nil
abbrev BS:=@List.mem_filterMap
abbrev A9:=@List.mem_range
abbrev Bs:=@List.not_mem_nil
abbrev Bu:=@Array.toList_inj
abbrev BU:=@List.append_assoc
abbrev E4:=@Option.bind_eq_some_iff
abbrev E5:=@List.length_eq_zero_iff
abbrev Jb:=@Array.getElem?_eq_some_iff
abbrev E6:=@List.take_of_length_le
abbrev Jc:=@List.pairwise_iff_getElem
abbrev Bv:=@List.map_append
abbrev Em:=@Nat.add_sub_cancel'
abbrev B0:=@Array.toList_push
abbrev B1:=@List.lookup_cons
abbrev E7:=@Array.toList_append
abbrev E8:=@Heap.get?_update_ne
abbrev E9:=@List.map_congr_left
abbrev JG:=@Array.getElem?_eq_getElem
abbrev B2:=@Array.size_push
abbrev E_:=@Nat.sub_add_cancel
abbrev Fa:=@Bool.not_eq_true'
abbrev Fb:=@Nat.lt_succ_of_lt
abbrev Fc:=@Nat.le_of_lt_succ
abbrev En:=@List.append_nil
abbrev JH:=@Array.getElem?_extract
abbrev JI:=@List.drop_eq_nil_of_le
abbrev M4:=@Array.perm_iff_toList_perm
abbrev Fd:=@List.length_drop
abbrev Fe:=@Nat.succ_le_succ
abbrev JJ:=@List.length_replicate
abbrev B3:=@Bool.not_true
abbrev JK:=@Nat.le_sub_one_of_lt
abbrev JL:=@List.mem_of_mem_take
abbrev Ff:=@List.nodup_cons
abbrev M5:=@List.getElem?_take_of_lt
abbrev Jd:=@Nat.le_of_succ_le
abbrev Fg:=@Nat.min_eq_left
abbrev Fh:=@List.length_nil
abbrev JM:=@List.filterMap_cons
abbrev Je:=@List.length_take
abbrev Jf:=@Bool.and_eq_true
abbrev Jg:=@Nat.lt_succ_self
abbrev Jh:=@List.all_eq_true
abbrev Ji:=@List.perm_middle
abbrev Jj:=@List.take_length
abbrev Jk:=@Nat.le_add_right
abbrev Fi:=@Heap.size_push
abbrev Fj:=@List.take_succ
abbrev M6:=@Heap.get?_update_other
abbrev JN:=@Bool.false_ne_true
abbrev JO:=@Nat.lt_of_le_of_lt
abbrev JP:=@Nat.pos_of_ne_zero
abbrev M7:=@Heap.get?_update_self
abbrev B4:=@Nat.le_succ
abbrev M8:=@List.getElem?_toArray
abbrev M9:=@List.length_singleton
abbrev JQ:=@Array.size_append
abbrev JR:=@List.ext_getElem?
abbrev BV:=@Nat.sub_le
abbrev N_:=@List.perm_append_singleton
abbrev Oa:=@Array.getElem?_eq_none_iff
abbrev Ob:=@Int.fmod_eq_emod_of_nonneg
abbrev M_:=@Array.toList_extract
abbrev Oc:=@List.drop_eq_getElem_cons
abbrev Od:=@List.extract_eq_take_drop
abbrev JS:=@List.nodup_range
abbrev JT:=@Nat.sub_sub_self
abbrev JU:=@List.filter_cons
abbrev Na:=@Nat.sub_le_sub_left
abbrev Nb:=@Nat.add_lt_add_left
abbrev JV:=@List.foldl_cons
abbrev JW:=@Option.map_some
abbrev Jl:=@List.any_cons
abbrev Oe:=@List.pairwise_filterMap
abbrev Nc:=@List.getElem?_drop
abbrev Of:=@List.filter_cons_of_pos
abbrev Og:=@List.filter_cons_of_neg
abbrev Oh:=@List.range_succ_eq_map
abbrev Oi:=@List.pairwise_lt_range
abbrev Nd:=@List.foldl_append
abbrev Eo:=@Nat.sub_lt
abbrev Fk:=@Nat.one_pos
abbrev Jm:=@Nat.ne_of_gt
abbrev Nf:=@Nat.min_eq_right
abbrev Ng:=@List.map_snd_zip
abbrev Nh:=@List.any_eq_true
abbrev Oj:=@List.mem_of_mem_drop
abbrev QZ:=@Array.getD_eq_getD_getElem?
abbrev Ol:=@List.length_take_le
abbrev Q0:=@List.perm_ext_iff_of_nodup
abbrev Q1:=@List.nodup_iff_pairwise_ne
abbrev Q2:=@List.exists_cons_of_ne_nil
abbrev Om:=@Bool.not_eq_false'
abbrev Ni:=@List.nodup_nil
abbrev Nj:=@Bool.not_false
abbrev Q3:=@List.exists_mem_of_ne_nil
abbrev Oo:=@List.take_sublist
abbrev Q4:=@Array.getElem?_replicate
abbrev Q5:=@List.length_filterMap_le
abbrev Q6:=@Nat.add_sub_cancel_left
abbrev Q7:=@List.pairwise_mergeSort
abbrev Op:=@Nat.lt_of_not_le
abbrev Oq:=@Array.toList_map
abbrev Ot:=@Heap.size_update
abbrev Ou:=@List.mem_flatMap
abbrev Ov:=@List.getElem_mem
abbrev Q8:=@Array.getElem?_eq_none
abbrev Q9:=@List.getElem_cons_drop
abbrev Q_:=@Nat.sub_eq_zero_iff_le
abbrev Ra:=@Nat.eq_zero_of_not_pos
abbrev Rb:=@List.filter_eq_nil_iff
abbrev Ow:=@List.of_mem_zip
abbrev Ox:=@List.length_set
abbrev Nk:=@Nat.le_of_eq
abbrev Nl:=@Nat.lt_trans
abbrev Re:=@Nat.le_sub_of_add_le'
abbrev Rf:=@List.perm_append_comm
abbrev Rh:=@Nat.le_of_sub_eq_zero
abbrev Oy:=@Bool.and_false
abbrev Oz:=@Array.size_map
abbrev OA:=@Nat.sub_add_eq
abbrev OB:=@List.map_take
abbrev OC:=@List.map_drop
noncomputable section
local macro_rules | `(tactic| ext) => `(tactic| omega)
local instance (priority:=1) cdec (p:Prop):Decidable p:=Classical.propDecidable p
local macro_rules | `(⋯) => `(by lia)
open Option renaming some->J,none->Y
open Bool renaming true->I,false->T
namespace L2
open PySem.Spec PyProof.Rows
abbrev AZ:=Sum Int Str
def Ep:AZ->Value->Bool
 |.inl k,v=>Value.isInt k v
 |.inr x,v=>Value.isStrOf x v
def OD(w:World):AZ->Int
 |.inl k=>hashInt k
 |.inr x=>hashStr w x
def bU:∀{k:AZ}{v:Value},Ep k v=I->(∃i t,k=Sum.inl i/\v=Value.int i t)\/(∃x t,k=Sum.inr x/\v=Value.str x t)
 |.inl i,v,h=>by
  obtain⟨t,e⟩:=Value.isInt_shape h;exact .inl ⟨i,t,rfl,e⟩
 |.inr x,v,h=>by
  obtain⟨t,e⟩:=Value.isStrOf_shape h;exact .inr ⟨x,t,rfl,e⟩
def Fl(a b:Int):decide ((Sum.inl a:AZ)=Sum.inl b)=(a==b):=by
 by_cases e:a=b
 .subst e;simp
 .have h:¬(Sum.inl a:AZ)=Sum.inl b:=λq=>e (Sum.inl.inj q);rw[decide_eq_false h];exact(beq_eq_false_iff_ne.mpr e).symm
def Fm(a b:Str):decide ((Sum.inr a:AZ)=Sum.inr b)=decide (a=b):=by simp
def Fo(a:Int)(b:Str):decide ((Sum.inl a:AZ)=Sum.inr b)=T:=decide_eq_false (λq=>nomatch q)
def Fp(a:Str)(b:Int):decide ((Sum.inr a:AZ)=Sum.inl b)=T:=decide_eq_false (λq=>nomatch q)
def oM(prog:Program)(w:World):PySem.KeyKind prog w AZ where
 is:=Ep
 hash:=OD w
 inj:=λv a b z f=>by
  rcases bU z with⟨i,t,rfl,rfl⟩|⟨x,t,rfl,rfl⟩
  .rcases bU f with⟨j,u,rfl,e⟩|⟨y,u,rfl,e⟩
   .injection e with e1 _;rw[e1]
   .exact nomatch e
  .rcases bU f with⟨j,u,rfl,e⟩|⟨y,u,rfl,e⟩
   .exact nomatch e
   .injection e with e1 _;rw[e1]
 byValue:=λk v h=>by
  rcases bU h with⟨i,t,rfl,rfl⟩|⟨x,t,rfl,rfl⟩<;>rfl
 pyHash:=λhv h=>by
  rcases bU hv with⟨i,t,rfl,rfl⟩|⟨x,t,rfl,rfl⟩
  .exact wpAny_pyHash_int h
  .exact wpAny_pyHash_str h
 eqBool:=λl hv h=>by
  rcases bU l with⟨i,t,rfl,rfl⟩|⟨x,t,rfl,rfl⟩
  .rcases bU hv with⟨j,u,rfl,rfl⟩|⟨y,u,rfl,rfl⟩
   .rw[Fl]at h;exact wpAny_eqBool_int h
   .rw[Fo]at h;exact SeqAt.EqAt.int_str i t y u _ _ _ _ h
  .rcases bU hv with⟨j,u,rfl,rfl⟩|⟨y,u,rfl,rfl⟩
   .rw[Fp]at h;exact SeqAt.EqAt.str_int x t j u _ _ _ _ h
   .rw[Fm]at h;exact wpAny_eqBool_str h
 «strs»:=λk x t v h=>by
  rcases bU h with⟨i,u,rfl,e⟩|⟨y,u,rfl,e⟩
  .exact nomatch e
  .injection e with e1 _
   subst e1;cases v<;>rfl
inductive V where
 |non | bl (b:Bool) | int (i:Int) | str (x:Str) | byt (b:Array UInt8) | flt (b:UInt64) | ref (a:Addr) | ty (n:String)
 deriving DecidableEq
def aR:V->Value->Prop
 |.non,u=>u=Value.none
 |.bl b,u=>u=Value.bool b
 |.int i,u=>∃t,u=Value.int i t
 |.str x,u=>∃t,u=Value.str x t
 |.byt b,u=>∃t,u=Value.bytes b t
 |.flt b,u=>∃t,u=Value.float b t
 |.ref a,u=>u=Value.ref a
 |.ty n,u=>u=Value.type n
abbrev aD:List V->SH->Prop:=Paired aR
def aD.length(r:aD xs us):xs.length=us.length:=Paired.length r
def aD.get{xs:List V}{a:SH}{i:Nat}{x:V}(r:aD xs a)(e:xs[i]?=J x):∃u,a[i]?=J u/\aR x u:=by
 induction r generalizing i with
 |nil=>cases e
 |cons r t f =>
  cases i with
  |zero=>cases e;exact⟨_,rfl,r⟩
  |succ i=>have z:=@f i e;exact z
def aD.set(r:aR x u)(i:Nat)(q:aD xs us):aD (xs.set i x) (us.set i u):=by
 induction q generalizing i with
 |nil=>exact .nil
 |cons a t f =>
  cases i with
  |zero=>exact .cons r t
  |succ i=>exact .cons a (f i)
def aD.append(r:aD xs us)(s:aD ys ws):aD (xs++ys) (us++ws):=by
 induction r with
 |nil=>exact s
 |cons r t a=>exact .cons r a
def aD.take(n:Nat)(r:aD xs us):aD (xs.take n) (us.take n):=by
 induction r generalizing n with
 |nil=>cases n<;>exact .nil
 |cons a t f =>
  cases n with
  |zero=>exact .nil
  |succ n=>exact .cons a (f n)
def aD.drop(n:Nat)(r:aD xs us):aD (xs.drop n) (us.drop n):=by
 induction r generalizing n with
 |nil=>cases n<;>exact .nil
 |cons a t f =>
  cases n with
  |zero=>exact .cons a t
  |succ n=>exact f n
def JX:Option V->S0->Prop
 |some v,J u=>aR v u
 |none,Y=>True
 |_,_=>False
def KV{κ:Type}:List (κ×V)->List (κ×Value)->Prop:=Paired λ(p:κ×V)(q:κ×Value)=>p.1=q.1/\aR p.2 q.2
def kV:AZ->V
 |.inl i=>.int i
 |.inr x=>.str x
inductive HO where
 |lst(xs:List V)
 |tup(xs:List V)
 |dK(kvs:List (AZ×V)) | dT (kvs:List (List AZ×V))
 |set(S:Int->Bool)(n:Nat)
 |ins(C dx:Addr)(fs:List (Str×V))
 |own(x:Addr)
 |xd(fs:List (Str×V))
 |met(f x:Addr)
 |rng(lo hi:Int)
 |frz(o:Obj)(u:HO)
 |tbl(ps:Array Value)
 |ext(φ:Heap->Prop)
abbrev Hp:=Addr->Option HO
def ls(H:Hp)(a:Addr)(o:HO):Hp:=λb=>if b=a then J o else H b
def bL:ls H a o a=J o:=by unfold ls;rw[b_ rfl]
def aP(h:b≠a):ls H a o b=H b:=by unfold ls;rw[c_ h]
def bD{H:Hp}{a b:Addr}{o:HO}(h:H a=J o)(f:H b=Y):a≠b:=by intro e;subst e;rw[h]at f;cases f
def ig(h:Heap)(a:Addr)(f:Array Value):Prop:=∃o,h.get? a=J o/\o.cls=.type "tuple"/\(∃n,o.data=.seq f n)/\o.dict=Y
def ig.tup(t:ig h a its):IsTup h a its:=let⟨o,e,c,d,_⟩:=t;⟨o,e,c,d⟩
def ig.lt(t:ig h a its):a<h.objs.size:=t.tup.lt
def ig.new(h:Heap)(a:Array Value):ig (h.push { cls:=.type "tuple",data:=.seq a}) h.objs.size a:=⟨_,yM h rfl,rfl,⟨_,rfl⟩,rfl⟩
section
variable(P:Program)(w:World)
def ObjOk(H:Hp)(h:Heap)(a:Addr):HO->Prop
 |.lst xs=>xs.length<=sizeLine/\∃(i:SH) (n:Nat),aD xs i/\h.get? a=J { cls:=.type "list",data:=.seq i.toArray n}
 |.tup xs=>xs.length<=sizeLine/\∃i:SH,aD xs i/\ig h a i.toArray
 |.dK j=>j.length<=sizeLine/\(a==sysModules)=T/\∃z,KV j z/\h.DictOf (oM P w) a z
 |.dT j=>j.length<=sizeLine/\(a==sysModules)=T/\∃xs:List (List AZ×Addr×Value),
   Paired (λ(p:List AZ×V)(q:List AZ×Addr×Value)=>p.1=q.1/\H q.2.1=J (.tup (p.1.map kV))/\aR p.2 q.2.2) j xs /\
   ∃o B G,h.get? a=J o/\o.ExactDict/\o.data=.dict B G/\B.toList=xs.map (entryOfKey (tupleKind (oM P w)))/\(xs.map (·.1)).Nodup
 |.set S n=>h.SetOf (intKind P w) a S n
 |.ins C y fs=>H y=J (.own a)/\fs.length<=1000/\y≠a/\h.get? a=J (PySem.W.instObj C y) /\
   ∃l,h.Ns1 y l/\(∀f,JX (fs.lookup f) (l f))/\PySem.Within l (fs.map (·.1))
 |.own _=>∃o,h.get? a=J o
 |.xd fs=>∃l,h.Ns1 a l/\∀f,JX (fs.lookup f) (l f)
 |.rng lo M=>∃t u v,h.get? a=J { cls:=.type "range",data:=.fields #[.int lo t,.int M u,.int 1 v]}
 |.frz o u=>h.get? a=J o/\ObjOk H h a u
 |.tbl L=>h.get? a=J { cls:=.none,data:=.fields L}
 |.met f x=>h.get? a=J (PySem.W.methodObj (.ref f) (.ref x))
 |.ext φ=>φ h/\(∃o,h.get? a=J o)/\∀F E:Heap,φ F->(∀o,F.get? a=J o->E.get? a=J o)->φ E
def HOk(H:Hp)(h:Heap):Prop:=∀a o,H a=J o->ObjOk P w H h a o
end
section
variable{P:Program}{w:World}{H H':Hp}{h h':Heap}{a:Addr}{o:HO}
def ObjOk.lt(x:ObjOk P w H h a o):a<h.objs.size:=by
 cases o with
 |lst xs=>obtain⟨_,_,_,_,e⟩:=x;exact nj e
 |tup xs=>obtain⟨_,_,_,p⟩:=x;exact p.lt
 |dK i=>obtain⟨_,_,_,_,o,_,_,e,_⟩:=x;exact nj e
 |dT i=>obtain⟨_,_,_,_,o,_,_,e,_⟩:=x;exact nj e
 |set S n=>obtain⟨o,_,_,_,e,_⟩:=x;exact nj e
 |ins C l fs=>obtain⟨_,_,_,e,_⟩:=x;exact nj e
 |own y=>obtain⟨_,e⟩:=x;exact nj e
 |xd fs=>obtain⟨_,⟨_,_,_,e,_⟩,_⟩:=x;exact nj e
 |rng lo B=>obtain⟨_,_,_,e⟩:=x;exact nj e
 |frz j u=>obtain⟨e,_⟩:=x;exact nj e
 |tbl z=>exact nj (x)
 |met f y=>exact nj (x)
 |ext φ=>obtain⟨_,⟨_,e⟩,_⟩:=x;exact nj e
def Paired.mapP{α β:Type}{F G:α->β->Prop}{i:List α}{j:List β}(r:Paired F i j)(f:∀a b,F a b->G a b):Paired G i j:=by
 induction r with
 |nil=>exact .nil
 |cons r t l=>exact .cons (f _ _ r) l
def ObjOk.stay(x:ObjOk P w H h a o)(k:∀b u,(b=a\/H b=J (.own a))->h.get? b=J u->h'.get? b=J u)(Q:∀b,H b=J (.own a)->H' b=J (.own a))(L:∀b xs,H b=J (.tup xs)->H' b=J (.tup xs)):ObjOk P w H' h' a o:=by
 induction o with
 |lst xs=>obtain⟨z,B,n,r,e⟩:=x;exact⟨z,B,n,r,k _ _ (.inl rfl) e⟩
 |tup xs=>obtain⟨z,B,r,i,e,c⟩:=x;exact⟨z,B,r,i,k _ _ (.inl rfl) e,c⟩
 |dK G=>obtain⟨z,y,M,r,i,l,j,e,c⟩:=x;exact⟨z,y,M,r,i,l,j,k _ _ (.inl rfl) e,c⟩
 |dT G =>
  obtain⟨z,y,xs,r,i,l,j,e,c⟩:=x;exact⟨z,y,xs,Paired.mapP r λp q z=>⟨z.1,L _ _ z.2.1,z.2.2⟩,i,l,j,k _ _ (.inl rfl) e,c⟩
 |set S n=>obtain⟨i,l,j,t,e,c⟩:=x;exact⟨i,l,j,t,k _ _ (.inl rfl) e,c⟩
 |ins C R fs =>
  obtain⟨d,z,ne,e,F,⟨E,l,j,e2,c⟩,r⟩:=x;exact⟨Q _ d,z,ne,k _ _ (.inl rfl) e,F,⟨E,l,j,k _ _ (.inr d) e2,c⟩,r⟩
 |own y=>obtain⟨i,e⟩:=x;exact⟨i,k _ _ (.inl rfl) e⟩
 |xd fs=>obtain⟨F,⟨E,l,j,e,c⟩,r⟩:=x;exact⟨F,⟨E,l,j,k _ _ (.inl rfl) e,c⟩,r⟩
 |rng lo W=>obtain⟨t,u,v,e⟩:=x;exact⟨t,u,v,k _ _ (.inl rfl) e⟩
 |frz i u O=>obtain⟨e,q⟩:=x;exact⟨k _ _ (.inl rfl) e,O q⟩
 |tbl U =>
  have e:=x;exact k a _ (.inl rfl) e
 |met f y =>
  have e:=x;exact k a _ (.inl rfl) e
 |ext φ=>obtain⟨p,⟨o,e⟩,st⟩:=x;exact⟨st _ _ p λo q=>k _ _ (.inl rfl) q,⟨o,k _ _ (.inl rfl) e⟩,st⟩
def HOk.lt(x:HOk P w H h)(e:H a=J o):a<h.objs.size:=(x a o e).lt
def HOk.fresh(x:HOk P w H h)(e:h.objs.size<=a):H a=Y:=by
 cases q:H a with
 |none=>rfl
 |some u=>exact absurd (q0 (x.lt q) e) (At _)
def HOk.kept(x:HOk P w H h)(k:∀b u,h.get? b=J u->h'.get? b=J u):HOk P w H h':=λa o e =>
 (x a o e).stay (λb u _ q=>k b u q) (λ_ q=>q) λ_ _ q=>q
def HOk.laid(x:HOk P w H h)(k:∀b u,h.get? b=J u->h'.get? b=J u)(j:h.objs.size<=a)(new:ObjOk P w (ls H a o) h' a o):HOk P w (ls H a o) h':=λb u e=>by
 have f:=x.fresh j;by_cases i:b=a
 .subst i;rw[bL]at e;cases e;exact new
 .rw[aP i]at e;exact(x b u e).stay (λc v _ q=>k c v q) (λc q=>by rw[aP (bD q f)];exact q) λc xs q=>by rw[aP (bD q f)];exact q
end
def Rd(H:Hp)(a:Addr)(u:HO):Prop:=H a=J u\/∃o,H a=J (.frz o u)
def Rd.ok(r:Rd H a u)(x:HOk P w H h):ObjOk P w H h a u:=by
 rcases r with r|⟨o,r⟩
 .exact x a u r
 .obtain⟨_,q⟩:=x a _ r;exact q
def Nm:Option HO->Prop
 |some (.lst _)=>True
 |some (.dK _)=>True
 |some (.dT _)=>True
 |some (.set _ _)=>True
 |some (.ins _ _ _)=>True
 |some (.ext _)=>True
 |_=>False
section
variable{P:Program}{w:World}{H:Hp}{h h':Heap}{x e:Addr}{o':HO}
def HOk.write(ok:HOk P w H h)(j:Nm (H x))(E:e=x\/H e=J (.own x))(k:∀b u,b≠e->h.get? b=J u->h'.get? b=J u)(B:∃u,h'.get? e=J u)(new:ObjOk P w (ls H x o') h' x o'):HOk P w (ls H x o') h':=λb u q=>by
 have f:∀c y,H c=J (.own y)->c≠x:=λc y r z=>by subst z;rw[r]at j;exact j
 have i:∀c xs,H c=J (.tup xs)->c≠x:=λc xs r z=>by subst z;rw[r]at j;exact j
 by_cases l:b=x
 .subst l;rw[bL]at q;cases q;exact new
 .rw[aP l]at q;by_cases a:b=e
  .have C:H b=J (.own x):=by
    rcases E with z|z
    .exact absurd (a.trans z) l
    .rw[a];exact z
   rw[q]at C;cases C;obtain⟨v,hv⟩:=B;exact⟨v,by rw[a];exact hv⟩
  .refine (ok b u q).stay (λc v F r=>k c v ?_ r) (λc r=>by rw[aP (f c b r)];exact r) λc xs r=>by rw[aP (i c xs r)];exact r
   grind
end
structure Un(fs ex:SX)(H H':Hp)(h h':Heap):Prop where
 keep:∀b o,h.get? b=J o->H b=Y->b∉fs->b∉ex->h'.get? b=J o
 slot:∀b o,h.get? b=J o->H b=Y->b∈fs->b∉ex->∃sl,h'.get? b=J { o with slots:=sl}
 free:∀b o,h.get? b=J o->H b=Y->b∉ex->H' b=Y
 there:∀b o,h.get? b=J o->b∉ex->∃o',h'.get? b=J o'
 tups:∀b xs,H b=J (.tup xs)->H' b=J (.tup xs)
 frzs:∀b o u,H b=J (.frz o u)->H' b=J (.frz o u)
 tbls:∀b ps,H b=J (.tbl ps)->∃more,H' b=J (.tbl (ps++more))
section
variable{fs fs' ex ex':SX}{H H1 H2:Hp}{h h1 h2 h':Heap}{a x e:Addr}{o:HO}
def Un.any(u:Un fs ex H H1 h h1)(q:h.get? b=J ob)(n:H b=Y)(i:b∉ex):∃sl,h1.get? b=J { ob with slots:=sl}:=by
 by_cases f:b∈fs
 .exact u.slot b ob q n f i
 .exact⟨ob.slots,u.keep b ob q n f i⟩
def Un.kept(k:∀b u,h.get? b=J u->h'.get? b=J u):Un fs ex H H h h' :=
 ⟨λb f q _ _ _=>k b f q,λb f q _ _ _=>⟨f.slots,k b f q⟩,λ_ _ _ n _=>n,λb f q _=>⟨f,k b f q⟩,λ_ _ q=>q,λ_ _ _ q=>q,λ_ i q=>⟨#[],by rw[q];simp⟩⟩
def Un.refl:Un fs ex H H h h:=Un.kept λ_ _ q=>q
def Un.laid(k:∀b u,h.get? b=J u->h'.get? b=J u)(i:h.objs.size<=a)(f:H a=Y):Un fs ex H (ls H a o) h h' where
 keep:=λb u q _ _ _=>k b u q
 slot:=λb u q _ _ _=>⟨u.slots,k b u q⟩
 free:=λb u q n _=>by rw[aP (sv (q0 (nj q) i))];exact n
 there:=λb u q _=>⟨u,k b u q⟩
 tups:=λb xs q=>by rw[aP (bD q f)];exact q
 frzs:=λb u xs q=>by rw[aP (bD q f)];exact q
 tbls:=λb j q=>⟨#[],by rw[aP (bD q f),q];simp⟩
def Un.write(i:Nm (H x))(F:e=x\/H e=J (.own x))(k:∀b u,b≠e->h.get? b=J u->h'.get? b=J u)(l:∃u,h'.get? e=J u):Un fs ex H (ls H x o) h h':=by
 have B:∀b,H b=Y->b≠x:=λb n z=>by subst z;rw[n]at i;exact i
 have y:∀b,H b=Y->b≠e:=λb n z=>by
  simp_all
 have j:∀b u,H b=J u->¬Nm (J u)->b≠x:=λb u q C z=>by subst z;rw[q]at i;exact C i
 refine⟨λb u q n _ _=>k b u (y b n) q,λb u q n _ _=>⟨u.slots,k b u (y b n) q⟩,λb u q n _=>by rw[aP (B b n)];exact n,λb u q _=>?_,
  λb xs q=>by rw[aP (j b _ q λz=>z)];exact q,λb u xs q=>by rw[aP (j b _ q λz=>z)];exact q,λb E q=>⟨#[],by rw[aP (j b _ q λz=>z),q];simp⟩⟩
 by_cases f:b=e
 .subst f;exact l
 .exact⟨u,k b u f q⟩
end
def No(h:Heap)(H:Hp):SX:=(List.range h.objs.size).filter λa=>(H a).isSome
def jy(h:Heap)(H:Hp):Heap:=PySem.W.hideAll h (No h H)
def w5(h:Heap)(H:Hp):(jy h H).objs.size=h.objs.size:=PySem.W.hideAll_size _ _
def zY(e:h.get? b=J o)(n:H b=Y):(jy h H).get? b=J o :=
 PySem.W.hideAll_get _ e λa=>by
  have q:=(As.mp a).2;rw[n]at q;simp at q
def B5(e:(jy h H).get? b=J o):h.get? b=J o/\H b=Y:=by
 have a:=PySem.W.of_hideAll (No h H) e;refine⟨a,?_⟩
 cases q:H b with
 |none=>rfl
 |some x =>
  have f:b∈No h H:=As.mpr ⟨A9.mpr (nj a),by simp[q]⟩;have z:(jy h H).get? b=Y:=PySem.W.hideAll_none (No h H) f;rw[z]at e;cases e
structure Mod(K:h8)(mg:S6)(base:Heap):Prop where
 kin:K.In base
 glob:base.Ns mainGlobals mg
 blt:∃mb,base.Ns builtinsNs mb/\∀x:Str,x≠"__name__"->mb x=bootBuiltins x
 nolimit:base.NoLimit
structure Cx where
 prog:Program
 w:World
 K:h8
 mg:Str->S0
 base:Heap
 A:Around
 N:SQ
 s₀:Shared
 H₀:Hp
 env:Env
 outer:List Env
 stack:List Env
 ex:SX
 fn:Str->Bool
 calm:Bool
 pn:SK
 xe:Value->Shared->Prop
def wm(l:List Env):SX:=l.filterMap (·.frame)
abbrev Cx.fs(X:Cx):SX:=wm X.outer
def Np(a:Scope)(x:Str):Prop:=a.names.lookup x=J .local\/a.names.lookup x=J .cell\/a.names.lookup x=J .free
def Loc(a:Scope)(x:Str):Prop:=a.names.lookup x=J .local\/a.names.lookup x=J .cell
def Look(env:Env)(h:Heap)(m:S6)(x:Str)(u:Value):Prop :=
 (env.kindOf x=J .local/\m x=J u)\/((env.kindOf x=J .cell\/env.kindOf x=J .free)/\∃c,env.cells.lookup x=J c/\h.IsCell c (J u))
structure Cx.Ok(X:Cx):Prop where
 mod:Mod X.K X.mg X.base
 kind:X.env.scope.kind=.function
 glob:X.env.globals=mainGlobals
 blt:X.env.builtins=builtinsNs
 above:X.s₀.heap.objs.size<=X.env.locals
 inj:∀x y c,X.env.cells.lookup x=J c->X.env.cells.lookup y=J c->x=y
 has:∀x,(X.env.kindOf x=J .cell\/X.env.kindOf x=J .free)->∃c,X.env.cells.lookup x=J c
 cab:∀x c,X.fn x=I->X.env.cells.lookup x=J c->X.s₀.heap.objs.size<=c
 hd:X.calm=I->X.A.handled=Y
 frames:X.A.frames=J X.stack
 stk:X.stack=X.outer\/(X.stack=X.env::X.outer/\X.env.frame=J X.env.locals)
 exf:∀b∈X.ex,b≠X.env.locals/\∀x c,X.env.cells.lookup x=J c->c≠b
 bs:∀b o,X.base.get? b=J o->X.s₀.heap.get? b=J o/\X.H₀ b=Y
 bsz:X.base.objs.size<=X.s₀.heap.objs.size
 noex:∀b o,X.base.get? b=J o->b∉X.ex
 exfs:∀b∈X.ex,b∉X.fs
 funs:X.s₀.heap.FunFrames X.base X.outer
 frf:∀b∈X.fs,X.H₀ b=Y
structure Inv(X:Cx)(Kh:SK)(Z:List (Option V))(H:Hp)(s:Shared):Prop where
 ok:X.Ok
 os:s.os=X.s₀.os
 bare:AllBare s.gens
 base:Un X.fs X.ex X.H₀ H X.s₀.heap s.heap
 loc:∃m,s.heap.Ns X.env.locals m/\∀(i:Nat)(x:Str)(v:V),X.N[i]?=J x->Z[i]?=J (J v)->Np X.env.scope x->∃u,aR v u/\Look X.env s.heap m x u
 cell:∀x c,X.env.cells.lookup x=J c->∃v,s.heap.IsCell c v
 free:H X.env.locals=Y
 freeC:∀x c,X.env.cells.lookup x=J c->H c=Y
 pin:∀p∈X.pn++Kh,s.heap.get? p.1=J p.2/\H p.1=Y/\p.1≠X.env.locals/\p.1∉X.fs/\∀v,p.2.data≠.cell v
 hok:HOk X.prog X.w H s.heap
 len:Z.length=X.N.length
section
variable{X:Cx}{Kh:List (Addr × Obj)}{Z:List (Option V)}{H H':Hp}{s:Shared}{h':Heap}
def Cx.Ok.nofr(ok:X.Ok)(e:X.base.get? b=J o):b∉X.fs:=λa=>by
 have:=(ok.funs.mem a).1
 rw[e]at this;cases this
def Inv.bs(a:Inv X Kh Z H s):∀b o,X.base.get? b=J o->s.heap.get? b=J o/\H b=Y:=λb o e =>
 ⟨a.base.keep b o (a.ok.bs b o e).1 (a.ok.bs b o e).2 (a.ok.nofr e) (a.ok.noex b o e),a.base.free b o (a.ok.bs b o e).1 (a.ok.bs b o e).2 (a.ok.noex b o e)⟩
def Inv.bk(a:Inv X Kh Z H s):∀b o,X.base.get? b=J o->s.heap.get? b=J o:=λb o e=>(a.bs b o e).1
def Inv.mod(a:Inv X Kh Z H s):Mod X.K X.mg X.base:=a.ok.mod
def Inv.kIn(a:Inv X Kh Z H s):X.K.In s.heap:=a.ok.mod.kin.keeps a.bk
def Inv.lt(a:Inv X Kh Z H s):X.env.locals<s.heap.objs.size:=let⟨_,f,_⟩:=a.loc;f.lt
def Inv.sz(a:Inv X Kh Z H s):X.s₀.heap.objs.size<=s.heap.objs.size:=mh a.ok.above (vu a.lt)
def Inv.nofs(f:Inv X Kh Z H s){a:Addr}(h:s.heap.objs.size<=a):a∉X.fs:=λi=>by
 obtain⟨_,o,j,_⟩:=f.ok.funs.mem i;exact absurd (q0 (nj j) (mh f.sz h)) (At _)
def Inv.cne(a:Inv X Kh Z H s):∀x c,X.env.cells.lookup x=J c->c≠X.env.locals:=λx c e z=>by
 obtain⟨v,o,j,hd⟩:=a.cell x c e;obtain⟨m,⟨y,l,u,f,i,_⟩,_⟩:=a.loc;rw[z,f]at j;cases j;rw[i]at hd;cases hd
def Inv.funs(a:Inv X Kh Z H s):s.heap.FunFrames X.base X.outer:=by
 have all:∀(l:List Env),(∀b∈wm l,b∈X.fs)->X.s₀.heap.FunFrames X.base l->s.heap.FunFrames X.base l:=by
  intro l
  induction l with
  |nil=>intro _ _;trivial
  |cons env r y =>
   intro i C;obtain⟨u,⟨L,o,hf,E,B,hd⟩,j⟩:=C;have hL:=i L (by unfold wm;rw[JM,hf];exact mu);obtain⟨sl,e⟩:=a.base.slot L o B (a.ok.frf L hL) hL λz=>a.ok.exfs L z hL;exact⟨u,⟨L,_,hf,E,e,hd⟩,y (λb f=>i b (by unfold wm;rw[JM,hf];exact nt _ f)) j⟩
 exact all X.outer (λ_ f=>f) a.ok.funs
def Inv.stack(a:Inv X Kh Z H s):s.heap.FunFrames X.base X.stack:=by
 rcases a.ok.stk with e|⟨e,hf⟩
 .rw[e];exact a.funs
 .rw[e];obtain⟨m,f,_⟩:=a.loc;refine .cons (by rw[a.ok.kind];decide) hf f ?_ a.funs;exact Heap.get?_none_of_le (mh a.ok.bsz a.ok.above)
def Inv.stkSub(f:Inv X Kh Z H s):∀b∈wm X.stack,b∈X.env.locals::X.fs:=λb a=>by
 rcases f.ok.stk with e|⟨e,hf⟩
 .rw[e]at a;exact nt _ a
 .rw[e]at a;unfold wm at a;rw[JM,hf]at a;exact a
def Inv.stkFree(a:Inv X Kh Z H s):∀b∈wm X.stack,H b=Y:=λb f=>by
 rcases j_.mp (a.stkSub b f)with e|f
 .rw[e];exact a.free
 .obtain⟨_,o,i,_⟩:=a.ok.funs.mem f;exact a.base.free b o i (a.ok.frf b f) λz=>a.ok.exfs b z f
def Inv.step{g':Array GenState}{t':Nat}{d':Drawn}{ch:SX}(a:Inv X Kh Z H s)(j:∀b∈ch,(b∈X.ex\/X.s₀.heap.objs.size<=b)/\b≠X.env.locals/\(∀x c,X.env.cells.lookup x=J c->c≠b)/\∀p∈X.pn++Kh,p.1≠b)(keep:∀b o,b≠X.env.locals->b∉X.fs->b∉ch->s.heap.get? b=J o->H b=Y->h'.get? b=J o)(slot:∀b o,b≠X.env.locals->b∈X.fs->b∉ch->s.heap.get? b=J o->H b=Y->∃sl,h'.get? b=J { o with slots:=sl})(free:∀b o,b∉ch->s.heap.get? b=J o->H b=Y->H' b=Y)(there:∀b o,b∉ch->s.heap.get? b=J o->∃G,h'.get? b=J G)(tups:∀b xs,H b=J (.tup xs)->H' b=J (.tup xs))(frzs:∀b o u,H b=J (.frz o u)->H' b=J (.frz o u))(tbls:∀b M,H b=J (.tbl M)->∃more,H' b=J (.tbl (M++more)))(ns:∀m,s.heap.Ns X.env.locals m->h'.Ns X.env.locals m)(hok:HOk X.prog X.w H' h')(W:AllBare g'):
  Inv X Kh Z H' { s with heap:=h',gens:=g',drawn:=d',toks:=t'}:=by
 have L:∀b o,X.s₀.heap.get? b=J o->b≠X.env.locals:=λb o e=>sv (q0 (nj e) a.ok.above);have C:∀b o,X.s₀.heap.get? b=J o->b∉X.ex->b∉ch:=λb o e f E=>by
  rcases(j b E).1 with z|z
  .exact f z
  .exact absurd (q0 (nj e) z) (At _)
 have y:∀x c,X.env.cells.lookup x=J c->∀v,s.heap.IsCell c v->h'.IsCell c v:=λx c e v ⟨o,F,hd⟩=>by
  have B:c∉ch:=λz=>(j c z).2.2.1 x c e rfl;by_cases P:c∈X.fs
  .obtain⟨sl,q⟩:=slot c o (a.cne x c e) P B F (a.freeC x c e);exact⟨_,q,hd⟩
  .exact⟨o,keep c o (a.cne x c e) P B F (a.freeC x c e),hd⟩
 refine⟨a.ok,a.os,W,⟨λb o e n E f=>?_,λb o e n E f=>?_,λb o e n f=>?_,λb o e f=>?_,λb xs e=>tups b xs (a.base.tups b xs e),λb o xs e=>frzs b o xs (a.base.frzs b o xs e),λb M e=>?_⟩,?_,λx c e=>?_,?_,λx c e=>?_,λp Q=>?_,hok,a.len⟩
 .exact keep b o (L b o e) E (C b o e f) (a.base.keep b o e n E f) (a.base.free b o e n f)
 .obtain⟨sl,e1⟩:=a.base.slot b o e n E f;obtain⟨O,e2⟩:=slot b _ (L b o e) E (C b o e f) e1 (a.base.free b o e n f);exact⟨O,e2⟩
 .obtain⟨G,e1⟩:=a.base.there b o e f;exact free b G (C b o e f) e1 (a.base.free b o e n f)
 .obtain⟨G,e1⟩:=a.base.there b o e f;exact there b G (C b o e f) e1
 .obtain⟨U,e1⟩:=a.base.tbls b M e;obtain⟨S,e2⟩:=tbls b _ e1;exact⟨U++S,by rw[e2,Array.append_assoc]⟩
 .obtain⟨m,hn,hl⟩:=a.loc;refine⟨m,ns m hn,λi x v e1 e2 e3=>?_⟩;obtain⟨u,r,l⟩:=hl i x v e1 e2 e3;refine⟨u,r,?_⟩;rcases l with l|⟨k,c,e,z⟩
  .exact .inl l
  .exact .inr ⟨k,c,e,y x c e _ z⟩
 .obtain⟨v,z⟩:=a.cell x c e;exact⟨v,y x c e v z⟩
 .obtain⟨m,⟨o,_,_,F,_⟩,_⟩:=a.loc;exact free _ o (λz=>(j _ z).2.1 rfl) F a.free
 .obtain⟨v,o,F,hd⟩:=a.cell x c e;exact free c o (λz=>(j c z).2.2.1 x c e rfl) F (a.freeC x c e)
 .obtain⟨e,n,ne,R,d⟩:=a.pin p Q;have B:p.1∉ch:=λz=>(j p.1 z).2.2.2 p Q rfl;exact⟨keep p.1 p.2 ne R B e n,free p.1 p.2 B e n,ne,R,d⟩
def Inv.un{t':Nat}(a:Inv X Kh Z H s)(u:Un X.fs [] H H' s.heap h')(hok:HOk X.prog X.w H' h'):Inv X Kh Z H' { s with heap:=h',toks:=t'}:=by
 obtain⟨m,⟨o,G,F,y,r⟩,_⟩:=id a.loc;obtain⟨sl,hL⟩:=u.any y a.free (by simp)
 exact a.step (g':=s.gens) (d':=s.drawn) (ch:=[]) (λ_ z=>nomatch z) (λb o _ l _ e n=>u.keep b o e n l (by simp)) (λb o _ l _ e n=>u.slot b o e n l (by simp)) (λb o _ e n=>u.free b o e n (by simp)) (λb o _ e=>u.there b o e (by simp)) u.tups u.frzs u.tbls (λE B=>by
  obtain⟨L,j,i,f,C⟩:=B;rw[y]at f;cases f
  exact⟨_,j,i,hL,C⟩) hok a.bare
def Inv.call{g':Array GenState}{t':Nat}{d':Drawn}{C:SX}(a:Inv X Kh Z H s)(u:Un (wm X.stack) C H H' s.heap h')(hok:HOk X.prog X.w H' h')(G:AllBare g')(i:∀b∈C,(b∈X.ex\/X.s₀.heap.objs.size<=b)/\b≠X.env.locals/\(∀x c,X.env.cells.lookup x=J c->c≠b)/\∀p∈X.pn++Kh,p.1≠b):
  Inv X Kh Z H' { s with heap:=h',gens:=g',drawn:=d',toks:=t'}:=by
 obtain⟨m,⟨o,P,O,B,r⟩,_⟩:=id a.loc;obtain⟨sl,hL⟩:=u.any B a.free λz=>(i _ z).2.1 rfl
 exact a.step i (λb o hL L f e n=>u.keep b o e n (λz=>(j_.mp (a.stkSub b z)).elim hL L) f) (λb o _ _ f e n=>u.any e n f) (λb o f e n=>u.free b o e n f) (λb o f e=>u.there b o e f) u.tups u.frzs u.tbls (λM E=>by
  obtain⟨Q,y,l,j,F⟩:=E;rw[B]at j;cases j
  exact⟨_,y,l,hL,F⟩) hok G
def Inv.turned{t':Nat}{a:Addr}(i:Inv X Kh Z H s)(k:∀b o,b≠a->s.heap.get? b=J o->h'.get? b=J o)(F:H a=Y)(hL:a≠X.env.locals)(M:a∈X.ex\/X.s₀.heap.objs.size<=a)(C:∀x c,X.env.cells.lookup x=J c->c≠a)(L:∀p∈X.pn++Kh,p.1≠a):Inv X Kh Z H { s with heap:=h',toks:=t'}:=by
 have j:∀b u,H b=J u->b≠a:=λb u e z=>by rw[z,F]at e;cases e
 refine i.step (g':=s.gens) (d':=s.drawn) (ch:=[a]) (λb G=>?_) (λb o _ _ f e _=>k b o (λz=>f (by simp[z])) e) (λb o _ _ f e _=>⟨o.slots,k b o (λz=>f (by simp[z])) e⟩) (λ_ _ _ _ n=>n)
  (λb o f e=>⟨o,k b o (λz=>f (by simp[z])) e⟩) (λ_ _ e=>e) (λ_ _ _ e=>e) (λb O e=>⟨#[],by rw[e];simp⟩) (λm y=>?_) (λb u e=>?_) i.bare
 .have e:b=a:=by simpa using G
  subst e;exact⟨M,hL,C,L⟩
 .obtain⟨o,B,l,E,r⟩:=y;exact⟨o,B,l,k _ o (Ne.symm hL) E,r⟩
 .refine (i.hok b u e).stay (λc v f q=>k c v ?_ q) (λ_ q=>q) λ_ _ q=>q;rcases f with z|z
  .rw[z];exact j b u e
  .exact j c _ z
def Inv.tok(a:Inv X Kh Z H s)(t:Nat):Inv X Kh Z H { s with toks:=t}:=a.un (h':=s.heap) (t':=t) Un.refl a.hok
def Inv.kept(a:Inv X Kh Z H s)(k:∀b u,s.heap.get? b=J u->h'.get? b=J u):Inv X Kh Z H { s with heap:=h',toks:=t'}:=a.un (Un.kept k) (a.hok.kept k)
def Inv.laid{a:Addr}{o:HO}{t':Nat}(f:Inv X Kh Z H s)(k:∀b u,s.heap.get? b=J u->h'.get? b=J u)(i:s.heap.objs.size<=a)(new:ObjOk X.prog X.w (ls H a o) h' a o):
  Inv X Kh Z (ls H a o) { s with heap:=h',toks:=t'}:=f.un (Un.laid k i (f.hok.fresh i)) (f.hok.laid k i new)
def Inv.write(f:Inv X Kh Z H s)(i:Nm (H x))(j:e=x\/H e=J (.own x))(k:∀b u,b≠e->s.heap.get? b=J u->h'.get? b=J u)(a:∃u,h'.get? e=J u)(new:ObjOk X.prog X.w (ls H x o) h' x o):Inv X Kh Z (ls H x o) { s with heap:=h',toks:=t'}:=f.un (Un.write i j k a) (f.hok.write i j k a new)
def Inv.pins_of(a:Inv X Kh Z H s)(h:∀p∈f,s.heap.get? p.1=J p.2/\H p.1=Y/\p.1≠X.env.locals/\p.1∉X.fs/\∀v,p.2.data≠.cell v):Inv X f Z H s :=
 ⟨a.ok,a.os,a.bare,a.base,a.loc,a.cell,a.free,a.freeC,λp i=>(nw.mp i).elim (λz=>a.pin p (vK _ z)) (h p),a.hok,a.len⟩
def lq{N:SQ}(hN:N.Nodup){i j:Nat}{x:Str}(a:N[i]?=J x)(b:N[j]?=J x):i=j:=by obtain⟨l,e1⟩:=r_.mp a;obtain⟨f,e2⟩:=r_.mp b;exact(List.getElem_inj hN).mp (e1.trans e2.symm)
def xk{M:Model}{A:Around}{E:S5}{i:Nat}{x:Str}{v:V}{u:Value}{Q:Unit->Shared->Prop}(f:Inv X Kh Z H s)(hN:X.N.Nodup)(hi:X.N[i]?=J x)(F:Loc X.env.scope x)(r:aR v u)(h:∀s',Inv X Kh (Z.set i (J v)) H s'->(∃a,Heap.SameBut a s.heap s'.heap/\(a=X.env.locals\/X.env.cells.lookup x=J a))->Q () s')(hf:X.fn x=I\/X.env.scope.names.lookup x=J .local:=by first | exact .inl rfl | exact .inr rfl | assumption):wpAny M A (storeName X.env x u) Q E s:=by
 obtain⟨m,hn,hl⟩:=id f.loc;have ab:(X.env.scope.kind == .class||(X.env.scope.kind == .module&&X.env.locals != X.env.globals))=T:=by rw[f.ok.kind];rfl
 have O:i<Z.length:=by rw[f.len];exact(r_.mp hi).1
 have cne:=f.cne;have B:∀{a:Addr}{h':Heap},(∃o,s.heap.get? a=J o/\H a=Y)->Heap.SameBut a s.heap h'->HOk X.prog X.w H h':=λ{a h'} ha l b ob e=>by
  obtain⟨_,_,G⟩:=ha;refine(f.hok b ob e).stay (λc w' C q=>(l.2 c ?_).trans q) (λ_ q=>q) λ_ _ q=>q;rintro rfl;rcases C with rfl|C
  .rw[G]at e;cases e
  .rw[G]at C;cases C
 rcases F with L|L
 .refine wpAny_storeName_local L hn (λh' am l=>?_) ab;obtain⟨oL,_,_,an,_⟩:=id hn;refine h _ ⟨f.ok,f.os,f.bare,⟨λb o e n R F=>?_,λb o e n R F=>?_,f.base.free,λb o e F=>?_,f.base.tups,f.base.frzs,f.base.tbls⟩,⟨_,am,λj y v' e1 e2 e3=>?_⟩,λy c e=>?_,f.free,f.freeC,λp hp=>?_,B ⟨oL,an,f.free⟩ l,by simpa using f.len⟩ ⟨_,l,.inl rfl⟩
  .exact (l.2 b (sv (q0 (nj e) f.ok.above))).trans (f.base.keep b o e n R F)
  .obtain⟨sl,e1⟩:=f.base.slot b o e n R F;exact⟨sl,(l.2 b (sv (q0 (nj e) f.ok.above))).trans e1⟩
  .obtain⟨o',e1⟩:=f.base.there b o e F;exact⟨o',(l.2 b (sv (q0 (nj e) f.ok.above))).trans e1⟩
  .by_cases P:j=i
   .subst P;rw[hi]at e1;cases e1;rw[y9 O]at e2;cases e2;exact⟨u,r,.inl ⟨L,by simp⟩⟩
   .rw[o0 (Ne.symm P)]at e2;obtain⟨u',r',q⟩:=hl j y v' e1 e2 e3;refine⟨u',r',?_⟩;rcases q with⟨k,e⟩|⟨k,c,e,z⟩
    .refine .inl ⟨k,?_⟩
     have:y≠x:=λe=>P (lq hN e1 (e▸hi))
     simp[this,e]
    .exact .inr ⟨k,c,e,z.sameBut l (cne y c e)⟩
  .obtain⟨w',z⟩:=f.cell y c e;exact⟨w',z.sameBut l (cne y c e)⟩
  .obtain⟨e,n,ne,nf,d⟩:=f.pin p hp;exact⟨(l.2 p.1 ne).trans e,n,ne,nf,d⟩
 .have GQ:X.fn x=I:=by
   rcases hf with z|z
   .exact z
   .rw[z]at L;cases L
  obtain⟨c,C⟩:=f.ok.has x (.inl L);obtain⟨w',z⟩:=f.cell x c C;refine wpAny_storeName_cell f.ok.kind L C z (λh' al l=>?_);obtain⟨oc,U,W⟩:=id z;refine h { s with heap:=h'} ⟨f.ok,f.os,f.bare,⟨λb o e n R F=>?_,λb o e n R F=>?_,f.base.free,λb o e F=>?_,f.base.tups,f.base.frzs,f.base.tbls⟩,⟨m,hn.sameBut l (Ne.symm (cne x c C)),λj y v' e1 e2 e3=>?_⟩,λy c' e=>?_,f.free,f.freeC,λp hp=>?_,B ⟨oc,U,f.freeC x c C⟩ l,by simpa using f.len⟩ ⟨c,l,.inr C⟩
  .exact (l.2 b (sv (q0 (nj e) (f.ok.cab x c GQ C)))).trans (f.base.keep b o e n R F)
  .obtain⟨sl,e1⟩:=f.base.slot b o e n R F;exact⟨sl,(l.2 b (sv (q0 (nj e) (f.ok.cab x c GQ C)))).trans e1⟩
  .obtain⟨o',e1⟩:=f.base.there b o e F;exact⟨o',(l.2 b (sv (q0 (nj e) (f.ok.cab x c GQ C)))).trans e1⟩
  .by_cases P:j=i
   .subst P;rw[hi]at e1;cases e1;rw[y9 O]at e2;cases e2;exact⟨u,r,.inr ⟨.inl L,c,C,al⟩⟩
   .rw[o0 (Ne.symm P)]at e2;obtain⟨u',r',q⟩:=hl j y v' e1 e2 e3;refine⟨u',r',?_⟩;rcases q with q|⟨k,c',e,z'⟩
    .exact .inl q
    .refine .inr ⟨k,c',e,z'.sameBut l ?_⟩;rintro rfl;exact P (lq hN e1 (f.ok.inj _ _ _ e C▸hi))
  .by_cases S:c'=c
   .subst S;exact⟨_,al⟩
   .obtain⟨w2,z2⟩:=f.cell y c' e;exact⟨w2,z2.sameBut l S⟩
  .obtain⟨e,n,ne,nf,d⟩:=f.pin p hp;refine⟨(l.2 p.1 ?_).trans e,n,ne,nf,d⟩;intro q;rw[q,U]at e;have q':oc=p.2:=Option.some.inj e;exact d w' (by rw[<-q'];exact W)
def lD(f:Inv X Kh Z H s)(hN:X.N.Nodup)(j:X.N[i]?=J x)(l:Loc X.env.scope x)(r:aR v u)(h:∀a,Inv X Kh (Z.set i (J v)) H a->Q () a)(hf:X.fn x=I\/X.env.scope.names.lookup x=J .local:=by first | exact .inl rfl | exact .inr rfl | assumption):wpAny M A (storeName X.env x u) Q E s :=
 xk f hN j l r (λa y _=>h a y) hf
def Inv.call'(f:Inv X Kh Z H s)(z:s'.os=s.os)(u:Un (wm X.stack) ch H H' s.heap s'.heap)(hok:HOk X.prog X.w H' s'.heap)(j:AllBare s'.gens)(a:∀b∈ch,(b∈X.ex\/X.s₀.heap.objs.size<=b)/\b≠X.env.locals/\(∀x c,X.env.cells.lookup x=J c->c≠b)/\∀p∈X.pn++Kh,p.1≠b):Inv X Kh Z H' s':=by
 obtain⟨h',l,y,i,B⟩:=s';have e:=z;subst e;exact f.call (g':=l) (t':=i) (d':=y) u hok j a
end
abbrev XK:=Value->TL->Hp->Prop
abbrev St:=List (Option V)
abbrev VK:=V->Hp->Prop
abbrev TE:=St->Hp->VK->Prop
abbrev TT:=St->Hp->(Bool->Hp->Prop)->Prop
abbrev TA:=St->Hp->(List V->Hp->Prop)->Prop
structure Ends where
 nx:St->Hp->Prop
 rt:VK
 bk:St->Hp->Prop:=λ_ _=>False
 ct:St->Hp->Prop:=λ_ _=>False
abbrev TS:=Ends->St->Hp->Prop
inductive EP(X:Cx)(Kh:SK)(Z:St)(Q:VK)(u:Value)(s':Shared):Prop
 |mk(v:V)(H':Hp)(i:Inv X Kh Z H' s')(r:aR v u)(q:Q v H'):EP X Kh Z Q u s'
inductive TP(X:Cx)(Kh:SK)(Z:St)(Q:Bool->Hp->Prop)(b:Bool)(s':Shared):Prop
 |mk(H':Hp)(i:Inv X Kh Z H' s')(q:Q b H'):TP X Kh Z Q b s'
inductive AP(X:Cx)(Kh:SK)(Z:St)(Q:List V->Hp->Prop)(us:SH)(s':Shared):Prop
 |mk(vs:List V)(H':Hp)(i:Inv X Kh Z H' s')(r:aD vs us)(q:Q vs H'):AP X Kh Z Q us s'
inductive SN(X:Cx)(Kh:SK)(Q:St->Hp->Prop)(s':Shared):Prop
 |mk(Z':St)(H':Hp)(i:Inv X Kh Z' H' s')(q:Q Z' H'):SN X Kh Q s'
inductive SR(X:Cx)(Kh:SK)(Q:VK)(u:Value)(s':Shared):Prop
 |mk(v:V)(Z':St)(H':Hp)(i:Inv X Kh Z' H' s')(r:aR v u)(q:Q v H'):SR X Kh Q u s'
def SP(X:Cx)(a:SK)(D:Ends)(f:Flow)(i:Shared):Prop :=
 match f with
 |.next=>SN X a D.nx i
 |.brk=>SN X a D.bk i
 |.cont=>SN X a D.ct i
 |.ret u=>SR X a D.rt u i
def PE(X:Cx)(e:Expr)(t:TE):Prop :=
 ∀(a:SK)(s:Shared)(Z:St)(H:Hp)(Q:VK),Inv X a Z H s->t Z H Q->wpAny (model X.prog X.w) X.A (eval e X.env) (EP X a Z Q) X.xe s
def PT(X:Cx)(e:Expr)(t:TT):Prop :=
 ∀(a:SK)(s:Shared)(Z:St)(H:Hp)(Q:Bool->Hp->Prop),Inv X a Z H s->t Z H Q->wpAny (model X.prog X.w) X.A (isTrue e X.env (eval e X.env)) (TP X a Z Q) X.xe s
def PW(X:Cx)(e:Expr)(t:TT):Prop :=
 ∀(a:Sem Value)(f:SK)(s:Shared)(Z:St)(H:Hp)(Q:Bool->Hp->Prop),Inv X f Z H s->t Z H Q->wpAny (model X.prog X.w) X.A (isTrue e X.env a) (TP X f Z Q) X.xe s
def PW.pt(h:PW X e t):PT X e t:=h _
def PA(X:Cx)(i:S3)(t:TA):Prop :=
 ∀(a:Pos)(f:SK)(s:Shared)(Z:St)(H:Hp)(Q:List V->Hp->Prop),Inv X f Z H s->t Z H Q->wpAny (model X.prog X.w) X.A (spliced (backTo a (starEach i X.env))) (AP X f Z Q) X.xe s
def PS(X:Cx)(st:Stmt)(t:TS):Prop :=
 ∀(a:SK)(s:Shared)(Z:St)(H:Hp)(D:Ends),Inv X a Z H s->t D Z H->wpAny (model X.prog X.w) X.A (exec st X.env) (SP X a D) X.xe s
def PSs(X:Cx)(st:S9)(t:TS):Prop :=
 ∀(a:SK)(s:Shared)(Z:St)(H:Hp)(D:Ends),Inv X a Z H s->t D Z H->wpAny (model X.prog X.w) X.A (execs st X.env) (SP X a D) X.xe s
def k_(h:wpAny M A t Q E s)(f:∀a s,Q a s->Q' a s):wpAny M A t Q' E s:=wpAny_mono h f λ_ _ x=>x
section
variable{X:Cx}
def OE(i:Nat):TE:=λZ H Q=>∃v,Z[i]?=J (J v)/\Q v H
def tC(v:V):TE:=λ_ H Q=>Q v H
def yq{i:Nat}{x:Str}{pos:Pos}(hN:X.N[i]?=J x)(hv:Np X.env.scope x)(hd:(x==("__debug__":Str))=T:=by decide)(y:(x==("__classdict__":Str))=T:=by decide):PE X (.Name x pos) (OE i):=by
 intro F s Z H Q a h;obtain⟨v,e,h⟩:=h;obtain⟨m,E,C⟩:=a.loc;obtain⟨u,r,l⟩:=C i x v hN e hv;have fin:EP X F Z Q u s:=⟨v,H,a,r,h⟩;rcases l with⟨j,B⟩|⟨j,c,z,f⟩
 .exact wpAny_Name (wpAny_loadName_local a.ok.kind j E B fin) hd
 .rcases j with j|j
  .exact wpAny_Name (wpAny_loadName_cell a.ok.kind j z f fin) hd
  .exact wpAny_Name (wpAny_loadName_free a.ok.kind j z f fin y) hd
def Fq{i j pos}:PE X (.Constant (.int i) j pos) (tC (.int i)):=λ_ _ _ H _ a h=>wpAny_Constant_int ⟨.int i,H,a.tok _,⟨_,rfl⟩,h⟩
def JY{b j pos}:PE X (.Constant (.bool b) j pos) (tC (.bl b)):=λ_ _ _ H _ a h=>Constant_bool ⟨.bl b,H,a,rfl,h⟩
def Fs{j pos}:PE X (.Constant .none j pos) (tC .non):=λ_ _ _ H _ a h=>Constant_none ⟨.non,H,a,rfl,h⟩
def Ft{x j pos}:PE X (.Constant (.str x) j pos) (tC (.str x)):=λ_ _ _ H _ a h=>Calls.Constant_str ⟨.str x,H,a.tok _,⟨_,rfl⟩,h⟩
def Gl(X:Cx)(x:Str):Prop:=X.env.kindOf x=J .globalImplicit
def oz{E:S5}{j:SK}{s:Shared}{Z:St}{H:Hp}{x:Str}{u:Value}{f:Pos}{Q:S5}(a:Inv X j Z H s)(i:Gl X x)(l:X.mg x=J u)(h:Q u s)(hd:(x==("__debug__":Str))=T:=by decide):wpAny (model X.prog X.w) X.A (eval (.Name x f) X.env) Q E s :=
 Calls.Name_function_global a.ok.kind i (Calls.loadGlobal_global (by rw[a.ok.glob];exact a.mod.glob.keeps a.bk) l h) hd
def kh{E:S5}{z:SK}{s:Shared}{Z:St}{H:Hp}{x:Str}{u:Value}{f:Pos}{Q:S5}(a:Inv X z Z H s)(j:Gl X x)(i:X.mg x=Y)(hv:bootBuiltins x=J u)(h:Q u s)(y:x≠"__name__":=by decide)(hd:(x==("__debug__":Str))=T:=by decide):wpAny (model X.prog X.w) X.A (eval (.Name x f) X.env) Q E s:=by
 obtain⟨mb,B,l⟩:=a.mod.blt;exact Calls.Name_function_global a.ok.kind j (Calls.loadGlobal_builtin (by rw[a.ok.glob];exact a.mod.glob.keeps a.bk) i (by rw[a.ok.blt];exact B.keeps a.bk) ((l x y).trans hv) h) hd
def tz(f:Gl X x)(i:X.mg x=J u)(r:aR v u)(hd:(x==("__debug__":Str))=T:=by decide):PE X (.Name x pos) (tC v) :=
 λ_ _ _ H _ a h=>oz a f i ⟨v,H,a,r,h⟩ hd
def tJ{x:Str}{v:V}{u:Value}{f:Pos}(j:Gl X x)(l:X.mg x=Y)(hv:bootBuiltins x=J u)(r:aR v u)(i:x≠"__name__":=by decide)(hd:(x==("__debug__":Str))=T:=by decide):PE X (.Name x f) (tC v) :=
 λ_ _ _ H _ a h=>kh a j l hv ⟨v,H,a,r,h⟩ i hd
variable{a b:Expr}{ta tb:TE}{pos:Pos}
def tB(t:TE):TT:=λZ H Q=>t Z H λx f=>∃c,x=.bl c/\Q c f
def Fv(h:PE X e t)(z:∀f,isTrue e X.env f=(do let v <-f;standAt e.pos;holding [v] (truthy v)):=by intro _;rfl):PT X e (tB t):=by intro C s Z H Q i y;refine isTrue_plain (k_ (h C s Z H _ i y) λv E ⟨x,l,B,j,u⟩=>?_) (z _);obtain⟨d,rfl,q⟩:=u;cases j;exact wpAny_truthy_bool ⟨l,B,q⟩
variable{tA tB':TT}{rest:S3}
def OF(t u:TT):TT:=λZ H Q=>t Z H λc f=>if c=I then u Z f Q else Q T f
def Sf(t u:TT):TT:=λZ H Q=>t Z H λc f=>if c=I then Q I f else u Z f Q
def OG(t:TT):TT:=λZ H Q=>t Z H λc f=>Q (!c) f
def B6(i:PT X a tA):PW X (.BoolOp .And [a] pos) tA:=by
 intro u j s Z H Q f h;refine isTrue_and (k_ (i j s Z H Q f h) λc l e=>?_)
 cases c with
 |true=>exact isTrue_and_nil e
 |false=>exact e
def Fw(i:PT X a tA):PW X (.BoolOp .Or [a] pos) tA:=by
 intro u j s Z H Q f h;refine isTrue_or (k_ (i j s Z H Q f h) λc l e=>?_)
 cases c with
 |false=>exact isTrue_or_nil e
 |true=>exact e
def Fx(y:PT X a tA)(B:PW X (.BoolOp .And (b::rest) pos) tB'):PW X (.BoolOp .And (a::b::rest) pos) (OF tA tB'):=by
 intro C l s Z H Q f h;refine isTrue_and (k_ (y l s Z H _ f h) λc z ⟨i,u,j⟩=>?_)
 cases c with
 |true=>exact B C l z Z i Q u j
 |false=>exact⟨i,u,j⟩
def JZ(y:PT X a tA)(B:PW X (.BoolOp .Or (b::rest) pos) tB'):PW X (.BoolOp .Or (a::b::rest) pos) (Sf tA tB'):=by
 intro C l s Z H Q f h;refine isTrue_or (k_ (y l s Z H _ f h) λc z ⟨i,u,j⟩=>?_)
 cases c with
 |true=>exact⟨i,u,j⟩
 |false=>exact B C l z Z i Q u j
def Fy(j:PT X a tA):PT X (.UnaryOp .Not a pos) (OG tA):=by intro l s Z H Q i h;exact isTrue_not (k_ (j l s Z H (λc f=>Q (!c) f) i h) λ_ _ ⟨f,u,q⟩=>⟨f,u,q⟩)
def J0(ta tb:TE):TE:=λZ H Q=>ta Z H λx f=>∃c,x=.bl c/\if c=I then tb Z f Q else Q (.bl T) f
def J1(ta:TE):TE:=λZ H Q=>ta Z H λx f=>∃c,x=.bl c/\Q (.bl (!c)) f
def Fz{op}(h:PE X a t):PE X (.BoolOp op [a] pos) t:=λi s Z H Q f j=>BoolOp_one (h i s Z H Q f j)
def FA(B:PE X a ta)(C:PE X (.BoolOp .And (b::rest) pos) tb):PE X (.BoolOp .And (a::b::rest) pos) (J0 ta tb):=by
 intro u s Z H Q i h;refine BoolOp_and (k_ (B u s Z H _ i h) λv z ⟨x,j,l,y,f⟩=>?_);obtain⟨c,rfl,f⟩:=f;cases y;refine wpAny_truthy_bool ?_
 cases c with
 |true=>exact C u z Z j Q l f
 |false=>exact⟨.bl T,j,l,rfl,f⟩
def FC(j:PE X a ta):PE X (.UnaryOp .Not a pos) (J1 ta):=by intro y s Z H Q i h;refine UnaryOp_ (k_ (j y s Z H _ i h) λv B ⟨x,l,z,u,f⟩=>?_);obtain⟨c,rfl,f⟩:=f;cases u;exact not_of (wpAny_truthy_bool ⟨.bl (!c),l,z,rfl,f⟩)
end
def SqL(K:h8)(H:Hp)(a:Addr)(xs:List V):Prop :=
 Rd H a (.lst xs) \/
  ∃(o:Obj) (f:Array Value) (n:Nat),K.lookup a=J o/\o.cls=.type "list"/\o.dict=Y/\o.data=.seq f n/\f.size<=sizeLine/\aD xs f.toList
def SqT(K:h8)(H:Hp)(a:Addr)(xs:List V):Prop :=
 Rd H a (.tup xs) \/
  ∃(o:Obj) (f:Array Value) (n:Nat),K.lookup a=J o/\o.cls=.type "tuple"/\(o.data=.seq f n/\o.dict=Y)/\f.size<=sizeLine/\aD xs f.toList
def OH:Value->Option V
 |.none=>J .non
 |.bool b=>J (.bl b)
 |.int i _=>J (.int i)
 |.str x _=>J (.str x)
 |.bytes b _=>J (.byt b)
 |.float b _=>J (.flt b)
 |.ref a=>J (.ref a)
 |.type n=>J (.ty n)
 |_=>Y
def aR.abs(r:aR x u):OH u=J x:=by
 cases x with
 |non=>cases r;rfl
 |bl _=>cases r;rfl
 |int _=>obtain⟨t,rfl⟩:=r;rfl
 |str _=>obtain⟨t,rfl⟩:=r;rfl
 |byt _=>obtain⟨t,rfl⟩:=r;rfl
 |flt _=>obtain⟨t,rfl⟩:=r;rfl
 |ref _=>cases r;rfl
 |ty _=>cases r;rfl
def aR.inj(r:aR x u)(q:aR y u):x=y:=Option.some.inj (r.abs.symm.trans q.abs)
def aD.inj(r:aD xs us)(q:aD ys us):xs=ys:=by
 induction r generalizing ys with
 |nil=>cases q;rfl
 |cons r t a=>cases q with|cons i f=>rw[r.inj i,a f]
section
variable{X:Cx}{Kh:List (Addr × Obj)}{Z:St}{H:Hp}{s:Shared}{a:Addr}{xs ys:List V}
def SqL.of{K:h8}(h:H a=J (.lst xs)):SqL K H a xs:=.inl (.inl h)
def SqT.of{K:h8}(h:H a=J (.tup xs)):SqT K H a xs:=.inl (.inl h)
def Inv.list(i:Inv X Kh Z H s)(h:SqL X.K H a xs):∃f:SH,aD xs f/\PlainL s.heap a f.toArray/\xs.length<=sizeLine:=by
 rcases h with h|⟨o,f,n,u,l,hd,j,y,r⟩
 .obtain⟨z,f,n,r,e⟩:=h.ok i.hok;exact⟨f,r,⟨_,n,e,rfl,rfl,rfl⟩,z⟩
 .refine⟨f.toList,r,⟨o,n,i.kIn a o u,l,hd,by simpa using j⟩,?_⟩;have e:=r.length
  grind
def Inv.tupleN(i:Inv X Kh Z H s)(h:SqT X.K H a xs):∃f:SH,aD xs f/\ig s.heap a f.toArray/\xs.length<=sizeLine:=by
 rcases h with h|⟨o,f,n,u,l,j,y,r⟩
 .obtain⟨z,f,r,p⟩:=h.ok i.hok;exact⟨f,r,p,z⟩
 .refine⟨f.toList,r,⟨o,i.kIn a o u,l,⟨n,by simpa using j.1⟩,j.2⟩,?_⟩;have e:=r.length
  grind
def Inv.tuple(i:Inv X Kh Z H s)(h:SqT X.K H a xs):∃f:SH,aD xs f/\IsTup s.heap a f.toArray/\xs.length<=sizeLine :=
 let⟨f,r,p,z⟩:=i.tupleN h
 ⟨f,r,p.tup,z⟩
def Inv.list_inj(i:Inv X Kh Z H s)(h:SqL X.K H a xs)(y:SqL X.K H a ys):xs=ys:=by
 obtain⟨j,r,⟨o,n,e,_,_,d⟩,_⟩:=i.list h;obtain⟨f,z,⟨B,C,u,_,_,l⟩,_⟩:=i.list y;rw[e]at u;cases u;rw[d]at l;injection l with d1 _
 have:j=f:=by simpa using congrArg Array.toList d1
 subst this;exact r.inj z
def Inv.tuple_inj(i:Inv X Kh Z H s)(h:SqT X.K H a xs)(y:SqT X.K H a ys):xs=ys:=by
 obtain⟨j,r,⟨o,e,_,n,d⟩,_⟩:=i.tuple h;obtain⟨f,z,⟨B,u,_,C,l⟩,_⟩:=i.tuple y;rw[e]at u;cases u;rw[d]at l;injection l with d1 _
 have:j=f:=by simpa using congrArg Array.toList d1
 subst this;exact r.inj z
end
section
variable{X:Cx}{Kh:List (Addr × Obj)}{Z:St}{H:Hp}{s:Shared}{E:S5}
end
section
variable{X:Cx}{st:Stmt}{rest:S9}{t u:TS}{e:Expr}{te:TE}{pos:Pos}
def J2:TS:=λD Z H=>D.nx Z H
def OI(t u:TS):TS:=λD Z H=>t { D with nx:=u D} Z H
def B7:PSs X [] J2:=λ_ _ Z H _ a h=>wpAny_execs_nil ⟨Z,H,a,h⟩
def yI(C:PS X st t)(l:PSs X rest u):PSs X (st::rest) (OI t u):=by
 intro i s Z H D a h;refine wpAny_execs_cons (k_ (C i s Z H { D with nx:=u D} a h) λf y q=>?_)
 cases f with
 |next =>
  obtain⟨z,j,B,q⟩:=q;exact l i y z j D B q
 |ret v=>exact q
 |brk=>exact q
 |cont=>exact q
def uv(i:PS X st t):PSs X [st] t:=by
 intro j s Z H D a h;refine wpAny_execs_cons (k_ (i j s Z H D a h) λf l q=>?_)
 cases f with
 |next=>exact wpAny_execs_nil q
 |ret v=>exact q
 |brk=>exact q
 |cont=>exact q
def Inv.quiet{f:SK}{Z:St}{H:Hp}{s:Shared}(a:Inv X f Z H s):interactive X.env=T:=by simp[interactive,a.ok.kind]
def J3(te:TE):TS:=λD Z H=>te Z H λ_ a=>D.nx Z a
def B8(y:PE X e te)(l:swapsWith e Y pos.line X.env=pure T:=by rfl):PS X (.Expr e pos) (J3 te):=by intro j s Z H D a h;exact wpAny_Expr_any (k_ (y j s Z H _ a h) λv B ⟨x,f,z,C,i⟩=>⟨Z,f,z,i⟩) a.quiet l
def OK(te:TE):TS:=λD Z H=>te Z H D.rt
def FD(y:PE X e te):PS X (.Return (J e) pos) (OK te):=by intro l s Z H D a h;exact wpAny_Return_some (k_ (y l s Z H _ a h) λv B ⟨x,f,z,j,i⟩=>⟨x,Z,f,z,j,i⟩)
def OL(c:TT)(t u:TS):TS:=λD Z H=>c Z H λb a=>if b=I then t D Z a else u D Z a
def J4(E:PT X c tc)(B:PSs X a t)(C:PSs X b u):PS X (.If c a b pos) (OL tc t u):=by
 intro f s Z H D i h;refine wpAny_If (k_ (E f s Z H _ i h) λd y ⟨j,z,l⟩=>?_)
 cases d with
 |true=>exact B f y Z j D z l
 |false=>exact C f y Z j D z l
end
abbrev TG:=V->St->Hp->(St->Hp->Prop)->Prop
abbrev Jn:=List V->St->Hp->(St->Hp->Prop)->Prop
def PG(X:Cx)(a:Expr)(t:TG):Prop :=
 ∀(f:SK)(s:Shared)(Z:St)(H:Hp)(v:V)(u:Value)(Q:St->Hp->Prop),Inv X f Z H s->aR v u->t v Z H Q ->
  wpAny (model X.prog X.w) X.A (assign a X.env u) (λ_ i=>SN X f Q i) X.xe s
def PGs(X:Cx)(l:S3)(t:Jn):Prop :=
 ∀(a:SK)(s:Shared)(Z:St)(H:Hp)(i:List V)(f:SH)(Q:St->Hp->Prop),Inv X a Z H s->aD i f->t i Z H Q ->
  wpAny (model X.prog X.w) X.A (assignInOrder ((assignEach l X.env).map (·.2)) f) (λ_ j=>SN X a Q j) X.xe s
abbrev di:=V->V->V->Hp->(Hp->Prop)->Prop
inductive SE(X:Cx)(Kh:SK)(Z:St)(Q:Hp->Prop)(s':Shared):Prop
 |mk(H':Hp)(i:Inv X Kh Z H' s')(q:Q H'):SE X Kh Z Q s'
def J5(X:Cx)(t:di):Prop :=
 ∀(a:SK)(s:Shared)(Z:St)(H:Hp)(o i v:V)(f j u:Value)(Q:Hp->Prop),Inv X a Z H s->aR o f->aR i j->aR v u->t o i v H Q ->
  wpAny (model X.prog X.w) X.A (setItem f j u) (λ_ l=>SE X a Z Q l) X.xe s
section
variable{X:Cx}{pos:Pos}
def Er(i:Nat):TG:=λv Z H Q=>Q (Z.set i (J v)) H
def tR(hN:X.N.Nodup)(f:X.N[i]?=J x)(j:Loc X.env.scope x)(hf:X.fn x=I\/X.env.scope.names.lookup x=J .local:=by first | exact .inl rfl | exact .inr rfl | assumption):PG X (.Name x pos) (Er i):=by intro y s Z H v u Q a r h;exact wpAny_assign_Name (lD a hN f j r (λz l=>⟨_,H,l,h⟩) hf)
def OM:Jn:=λa Z H Q=>a=[]/\Q Z H
def J6(t:TG)(u:Jn):Jn:=λi Z H Q=>∃v r,i=v::r/\t v Z H λa f=>u r a f Q
def B9:PGs X [] OM:=by intro f s Z H j i Q a r h;obtain⟨e,h⟩:=h;subst e;cases r;exact assignInOrder_nil ⟨Z,H,a,h⟩
def yA(E:PG X e t)(l:PGs X es u)(B:(assignEach (e::es) X.env).map (·.2)=assign e X.env::(assignEach es X.env).map (·.2):=by rfl):PGs X (e::es) (J6 t u):=by
 intro f s Z H G M Q a r h;obtain⟨v,L,e1,h⟩:=h;subst e1
 cases r with
 |cons r F =>
  rw[B];refine assignInOrder_cons (k_ (E f s Z H _ _ _ a r h) λ_ z ⟨C,i,y,j⟩=>?_);exact l f z C i _ _ Q y F j
def ON(K:h8)(n:Nat)(t:Jn):TG:=λv Z H Q=>∃a xs,v=.ref a/\SqT K H a xs/\xs.length=n/\t xs Z H Q
def FE{i:S3}{k:Nat}{t:Jn}{n:Nat}(E:X.calm=I)(h:PGs X i t)(L:(assignEach i X.env).length=n:=by rfl)(l:(assignEach i X.env).findIdx? (·.1)=Y:=by rfl):PG X (.Tuple i k pos) (ON X.K n t):=by
 intro M s Z H v u Q f r j;obtain⟨a,xs,e1,O,G,j⟩:=j;subst e1;cases r;obtain⟨B,y,z,P⟩:=f.tuple O;refine assign_Tuple_tuple (f.ok.hd E) z (by simp[L,<-G,y.length]) l λR C=>?_;have F:=f.kept (t':=s.toks) λb o e=>C b o (sv (nj e)) e;exact h M _ Z H xs _ Q F (by simpa using y) j
def OO(to j:TE)(t:di):TG:=λv Z H Q=>to Z H λo a=>j Z a λi f=>t o i v f λl=>Q Z l
def FF(S:PE X o to)(W:PE X i ti)(hs:J5 X t)(ha:∀v,assign (.Subscript o i pos) X.env v=(do
   let a <-holding [v] (eval o X.env)
   let f <-holding [v,a] (eval i X.env)
   standAt pos
   holding [v,a,f] (setItem a f v)
   release [v,a,f] []):=by intro _;rfl):PG X (.Subscript o i pos) (OO to ti t):=by
 intro l s Z H v u Q j r h;refine d_ (wpAny_holding (k_ (S l s Z H _ j h) λa U ⟨x,F,P,B,G⟩=>?_));refine d_ (wpAny_holding (k_ (W l U Z F _ P G) λf L ⟨y,z,I2,R,C⟩=>?_));refine d_ (wpAny_standAt (d_ (wpAny_holding (k_ (hs l L Z z x y v a f u _ I2 B R r C) λ_ s3 ⟨E,O,M⟩=>?_))));exact wpAny_release ⟨Z,E,O,M⟩
def J7(f:TE)(g:TG):TS:=λD Z H=>f Z H λx a=>g x Z a D.nx
def FG(z:PE X e te)(y:PG X tg g)(E:swapsWithSole [tg] e pos.line X.env=pure T:=by rfl)(u:swappedStores [tg] e X.env=pure Y:=by rfl)(F:(assignEach [tg] X.env).map (·.2)=[assign tg X.env]:=by rfl):PS X (.Assign [tg] e pos) (J7 te g):=by
 intro f s Z H D a h;refine wpAny_Assign_stores (k_ (z f s Z H _ a h) λv C ⟨x,j,B,i,l⟩=>?_) E u;rw[F];exact k_ (y f C Z j x v _ B i l) λ_ G q=>q
def w4(hN:X.N.Nodup)(C:X.N[i]?=J x)(u:Loc X.env.scope x)(z:PE X e te)(F:swapsWith e (J (.Name x pos')) pos.line X.env=pure T:=by rfl)(hf:X.fn x=I\/X.env.scope.names.lookup x=J .local:=by first | exact .inl rfl | exact .inr rfl | assumption):
  PS X (.Assign [.Name x pos'] e pos) (J7 te (Er i)):=by
 intro E s Z H D a h;refine wpAny_Assign_Name (k_ (z E s Z H _ a h) λv M ⟨y,j,B,f,l⟩=>?_) F;exact lD B hN C u f (λL G=>⟨_,j,G,l⟩) hf
def FH(c:TT)(tb:TS):TS:=λD Z H=>∃W:Nat->St->Hp->Prop,(∃m,W m Z H)/\∀m Z H,W m Z H ->
 c Z H λb a=>if b=I then ∃N:St->Hp->Prop,(∀f i,N f i->∃j,j<m/\W j f i)/\tb { D with nx:=N,ct:=N,bk:=D.nx} Z a else D.nx Z a
def zU(P:PassesOwn (model X.prog X.w) X.A X.env X.xe)(hc:PT X c tc)(hb:PSs X body tb):PS X (.While c body [] pos) (FH tc tb):=by
 intro G s Z H D F h;obtain⟨W,⟨S,w0⟩,turn⟩:=h;refine wpAny_While (codeAny_whileLoop (λn s'=>∃Q O,Inv X G Q O s'/\W n Q O) ?_ S ⟨Z,H,F,w0⟩);rintro n s1 ⟨u,M,I1,w1⟩;refine wpAny_passesOwn P (k_ (hc G s1 u M _ I1 (turn n u M w1)) λb U ⟨L,R,j⟩=>?_)
 cases b with
 |true =>
  obtain⟨N,hN,j⟩:=j;refine wpAny_passesOwn P (k_ (hb G U u L _ R j) λf s3 l=>?_)
  cases f with
  |next =>
   obtain⟨a,i,E,B⟩:=l;obtain⟨y,z,C⟩:=hN a i B;exact⟨y,z,a,i,E,C⟩
  |cont =>
   obtain⟨a,i,E,B⟩:=l;obtain⟨y,z,C⟩:=hN a i B;exact⟨y,z,a,i,E,C⟩
  |brk=>exact l
  |ret v=>exact l
 |false =>
  exact wpAny_execs_nil ⟨u,L,R,j⟩
end
structure It where
 go:Nat->Hp->Prop
 yld:Nat->Hp->V->Hp->Prop
 stop:Nat->Hp->Prop
def j7(X:Cx)(a:SK)(H:Hp)(b:Addr):Prop :=
 H b=Y/\b≠X.env.locals/\b∉X.fs/\(b∈X.ex\/X.s₀.heap.objs.size<=b)/\(∀x c,X.env.cells.lookup x=J c->c≠b)/\∀p∈X.pn++a,p.1≠b
def Inv.fpOk{X:Cx}{i:SK}{Z:St}{H j:Hp}{s:Shared}{b:Addr}(a:Inv X i Z H s)(f:s.heap.objs.size<=b)(l:j b=Y):j7 X i j b:=by
 refine⟨l,Jm (q0 a.lt f),a.nofs f,.inr (mh a.sz f),λx c e z=>?_,λp u z=>?_⟩
 .obtain⟨v,q⟩:=a.cell x c e;exact absurd (q0 q.lt (by rw[z];exact f)) (At _)
 .exact absurd (q0 (nj (a.pin p u).1) (by rw[z];exact f)) (At _)
inductive Ri(X:Cx)(Kh:SK)(Z:St)(u:Value)(Y:V->Hp->Prop)(n:Heap->Prop)(fp:SX)(s2:Shared):Prop
 |mk(x:V)(H':Hp)(i:Inv X Kh Z H' s2)(r:aR x u)(y:Y x H')(t:n s2.heap)(f:∀b∈fp,H' b=none):Ri X Kh Z u Y n fp s2
structure B_(P:Program)(w:World)(K:h8)(tg:Expr)(J:It)(fp:SX)(it:Addr)(tn:Nat->Heap->Prop):Prop where
 mem:it∈fp
 obj:∀i h,tn i h->∀b∈fp,∃o,h.get? b=some o/\∀v,o.data≠.cell v
 keep:∀i h h',tn i h->(∀b∈fp,∀o,h.get? b=some o->h'.get? b=some o)->tn i h'
 item:∀(X:Cx),X.prog=P->X.w=w->X.K=K->X.calm=I->∀(i:Nat)(Kh:SK)(s:Shared)(Z:St)(H:Hp)(E:S5),Inv X Kh Z H s->(∀b∈fp,j7 X Kh H b)->tn i s.heap->J.go i H ->
  wpAny (model P w) X.A (pyNext (.ref it)) (λr s1=>∃u,r=some u /\
   wpAny (model P w) X.A (letOwnedTupleGo tg (.ref it) u) (λ_ s2=>Ri X Kh Z u (J.yld i H) (tn (i+1)) fp s2) E s1) E s
 done:∀(X:Cx),X.prog=P->X.w=w->X.K=K->X.calm=I->∀(i:Nat)(Kh:SK)(s:Shared)(Z:St)(H:Hp)(E:S5),Inv X Kh Z H s->(∀b∈fp,j7 X Kh H b)->tn i s.heap->J.stop i H ->
  wpAny (model P w) X.A (pyNext (.ref it)) (λr s1=>r=Y/\Inv X Kh Z H s1) E s
 self:∀(A:Around)(i:Nat)(s:Shared)(Q:S5)(E:S5),tn i s.heap->Q (.ref it) s->wpAny (model P w) A (pyIter (.ref it)) Q E s
abbrev TI:=St->Hp->(It->Hp->Prop)->Prop
inductive OP(X:Cx)(Kh:SK)(Z:St)(tg:Expr)(R:It->Hp->Prop)(itv:Value)(s2:Shared):Prop
 |mk(it:Addr)(fp:SX)(tn:Nat->Heap->Prop)(J:It)(H':Hp)(e:itv=.ref it)(i:Inv X Kh Z H' s2)(t:B_ X.prog X.w X.K tg J fp it tn)(n:tn 0 s2.heap)(f:∀b∈fp,j7 X Kh H' b)(r:R J H'):OP X Kh Z tg R itv s2
def PI(X:Cx)(j a:Expr)(i:TI):Prop :=
 ∀(f:SK)(s:Shared)(Z:St)(H:Hp)(R:It->Hp->Prop),Inv X f Z H s->i Z H R ->
  wpAny (model X.prog X.w) X.A (eval a X.env) (λv l=>wpAny (model X.prog X.w) X.A (pyIter v) (OP X f Z j R) X.xe l) X.xe s
def vy(j:s.heap.get? it=J o)(i:o.cls=.type n)(hd:o.data=.fields vs)(f:["enumerate","zip","dict_itemiterator","dict_reverseitemiterator","odict_iterator","itertools.zip_longest","itertools.pairwise"].contains n=T)(a:Q () s):wpAny M A (letOwnedTupleGo tg (.ref it) u) Q E s:=by
 cases tg<;>first
  |exact il a
  | (cases u<;>first
    |exact il a
    | (refine d_ (wpAny_load j ?_)
       rw[i,hd];show wpAny M A (if(["enumerate","zip","dict_itemiterator","dict_reverseitemiterator","odict_iterator","itertools.zip_longest","itertools.pairwise"].contains n&&vs[0]? == J (rawInt _))=I then _ else _) Q E s;rw[c_ (by intro h;rw[f]at h;cases h)]
       exact il a))
def OQ(K:h8)(a:Addr):It :=
 ⟨λi H=>∃xs x,SqL K H a xs/\xs[i]?=J x,λi H x f=>f=H/\∀xs,SqL K H a xs->xs[i]?=J x,λi H=>∃xs,SqL K H a xs/\xs.length<=i⟩
def Rj(K:h8)(a:Addr):It :=
 ⟨λi H=>∃xs x,SqT K H a xs/\xs[i]?=J x,λi H x f=>f=H/\∀xs,SqT K H a xs->xs[i]?=J x,λi H=>∃xs,SqT K H a xs/\xs.length<=i⟩
def Nq(lo:Int)(n:Nat):It:=⟨λi _=>i<n,λi H x a=>a=H/\x=.int (lo+i),λi _=>n<=i⟩
def wK{P:Program}{w:World}{K:h8}{tg:Expr}(a j:Addr):B_ P w K tg (OQ K a) [j] j (λi h=>h.IsListIter j a i) where
 mem:=by simp
 obj:=λi h st b l=>by
  have e:b=j:=by simpa using l
  subst e;obtain⟨o,e,c,d⟩:=st;exact⟨o,e,λv z=>by rw[d]at z;cases z⟩
 keep:=λi h h' st k=>st.at λo e=>k j (by simp) o e
 item:=by intro X G O F hc i Kh s Z H E f hf st Q;subst G O F;obtain⟨xs,x,B,M⟩:=Q;obtain⟨L,S,p,hz⟩:=f.list B;obtain⟨u,hu,ru⟩:=S.get M;obtain⟨C,R,f2,U,W,f5⟩:=hf j (by simp);refine wpAny_pyNext_list_item st p.isList (by simpa using hu) λh' y sb=>?_;have I1:=f.turned (t':=s.toks) (λb o l e=>(sb.2 b l).trans e) C R U W f5;obtain⟨o,e,c,d⟩:=id y;exact⟨u,rfl,vy e c d (by decide) ⟨x,H,I1,ru,⟨rfl,λys hy=>by rw[f.list_inj hy B];exact M⟩,y,λb l=>(hf b l).1⟩⟩
 done:=by intro X G O F hc i Kh s Z H E f hf st Q;subst G O F;obtain⟨xs,B,M⟩:=Q;obtain⟨L,S,p,hz⟩:=f.list B;obtain⟨C,R,f2,U,W,f5⟩:=hf j (by simp);have hl:=S.length;exact wpAny_pyNext_list_end (f.ok.hd hc) st p.isList (by simp;lia) λh' eb=>⟨rfl,f.turned (t':=s.toks) (λb o l e=>eb b o l e) C R U W f5⟩
 self:=λ_ _ _ _ _ st h=>wpAny_pyIter_listiter st h
def vR{P:Program}{w:World}{K:h8}{tg:Expr}(a j:Addr):B_ P w K tg (Rj K a) [j] j (λi h=>h.IsTupleIter j a i) where
 mem:=by simp
 obj:=λi h st b l=>by
  have e:b=j:=by simpa using l
  subst e;obtain⟨o,e,c,d⟩:=st;exact⟨o,e,λv z=>by rw[d]at z;cases z⟩
 keep:=λi h h' st k=>st.at λo e=>k j (by simp) o e
 item:=by intro X G O F hc i Kh s Z H E f hf st Q;subst G O F;obtain⟨xs,x,B,M⟩:=Q;obtain⟨L,S,p,hz⟩:=f.tuple B;obtain⟨u,hu,ru⟩:=S.get M;obtain⟨C,R,f2,U,W,f5⟩:=hf j (by simp);refine wpAny_pyNext_tuple_item st (p) (by simpa using hu) λh' y sb=>?_;have I1:=f.turned (t':=s.toks) (λb o l e=>(sb.2 b l).trans e) C R U W f5;obtain⟨o,e,c,d⟩:=id y;exact⟨u,rfl,vy e c d (by decide) ⟨x,H,I1,ru,⟨rfl,λys hy=>by rw[f.tuple_inj hy B];exact M⟩,y,λb l=>(hf b l).1⟩⟩
 done:=by intro X G O F hc i Kh s Z H E f hf st Q;subst G O F;obtain⟨xs,B,M⟩:=Q;obtain⟨L,S,p,hz⟩:=f.tuple B;obtain⟨C,R,f2,U,W,f5⟩:=hf j (by simp);have hl:=S.length;exact wpAny_pyNext_tuple_end (f.ok.hd hc) st (p) (by simp;lia) λh' eb=>⟨rfl,f.turned (t':=s.toks) (λb o l e=>eb b o l e) C R U W f5⟩
 self:=λ_ _ _ _ _ st h=>wpAny_pyIter_tupleiter st h
def vk{P:Program}{w:World}{K:h8}{tg:Expr}(f:Addr)(lo:Int)(n:Nat):B_ P w K tg (Nq lo n) [f] f (λi h=>IsRangeIter h f (lo+(i:Nat)*1) ((n:Int)-(i:Nat)) 1) where
 mem:=by simp
 obj:=λi h st b j=>by
  have e:b=f:=by simpa using j
  subst e
  exact⟨_,st,λv z=>by
   have U:=z
   cases U⟩
 keep:=λi h M st k=>k f (by simp) _ st
 item:=by intro X Q R O y i S s Z H E a hf st B;subst Q R O;obtain⟨u,C,f2,F,G,L⟩:=hf f (by simp);have W:=Walks.range (prog:=X.prog) (w:=X.w) (a.ok.hd y) f lo 1 n;refine W.item i s _ _ B st λv M tk hv l kk=>?_;obtain⟨t,rfl⟩:=hv;have I1:Inv X S Z H { s with heap:=M,toks:=tk}:=a.turned (λb o j e=>kk b o (by simpa using j) e) u C F G L;refine⟨_,rfl,vy l rfl rfl (by decide) ⟨.int (lo+i),H,I1,⟨t,?_⟩,⟨rfl,rfl⟩,l,λb j=>(hf b j).1⟩⟩;rw[Int.mul_one]
 done:=by intro X Q R O y i S s Z H E a hf st B;obtain⟨u,C,f2,F,G,L⟩:=hf f (by simp);exact wpAny_pyNext_range_end (a.ok.hd y) st (by have:n<=i:=B;lia) λM eb=>⟨rfl,a.turned (t':=s.toks) (λb o j e=>eb b o j e) u C F G L⟩
 self:=λ_ _ _ _ _ st h=>wpAny_pyIter_rangeiter st h
section
variable{X:Cx}{tg:Expr}
def J8(K:h8)(i:TE):TI:=λZ H R=>i Z H λx f=>∃a,x=.ref a/\(∃xs,SqL K f a xs)/\R (OQ K a) f
def OR(K:h8)(i:TE):TI:=λZ H R=>i Z H λx f=>∃a,x=.ref a/\(∃xs,SqT K f a xs)/\R (Rj K a) f
def Ca{l:Expr}{u:TE}(E:PE X l u):PI X tg l (J8 X.K u):=by
 intro G s Z H R j h;refine k_ (E G s Z H _ j h) λv i ⟨x,z,f,y,B⟩=>?_;obtain⟨a,e,⟨xs,L⟩,q⟩:=B;subst e;cases y;obtain⟨C,O,p,M⟩:=f.list L;refine wpAny_pyIter_list p.isList ?_;refine⟨i.heap.objs.size,[i.heap.objs.size],_,_,z,rfl,f.kept (t':=i.toks) λb o e=>n6 _ e,wK a _,⟨_,yM _ rfl,rfl,rfl⟩,λb F=>?_,q⟩;have e:b=i.heap.objs.size:=by simpa using F
 subst e;exact f.fpOk (iv _) (f.hok.fresh (iv _))
def FI{l:Expr}{u:TE}(E:PE X l u):PI X tg l (OR X.K u):=by
 intro G s Z H R j h;refine k_ (E G s Z H _ j h) λv i ⟨x,z,f,y,B⟩=>?_;obtain⟨a,e,⟨xs,L⟩,q⟩:=B;subst e;cases y;obtain⟨C,O,p,M⟩:=f.tuple L;refine wpAny_pyIter_tuple (p) ?_;refine⟨i.heap.objs.size,[i.heap.objs.size],_,_,z,rfl,f.kept (t':=i.toks) λb o e=>n6 _ e,vR a _,⟨_,yM _ rfl,rfl,rfl⟩,λb F=>?_,q⟩;have e:b=i.heap.objs.size:=by simpa using F
 subst e;exact f.fpOk (iv _) (f.hok.fresh (iv _))
def yT{l:SK}{Z:St}{H:Hp}{s:Shared}{R:It->Hp->Prop}{E:S5}{lo a:Int}{t u v:Tok}{j:Nat}(f:Inv X l Z H s)(F:-(2^62)<=lo)(z:lo<2^62)(C:-(2^62)<=a)(y:a<2^62)(q:R (Nq lo (a-lo).toNat) H):wpAny (model X.prog X.w) X.A (pyIter (.ref s.heap.objs.size)) (OP X l Z tg R) E { s with heap:=s.heap.push { cls:=.type "range",data:=.fields #[.int lo t,.int a u,.int 1 v]},toks:=j}:=by
 refine wpAny_pyIter_range (IsRange.new ..) (small_one F z C y) ?_;have i:Inv X l Z H { s with heap:=s.heap.push { cls:=.type "range",data:=.fields #[.int lo t,.int a u,.int 1 v]},toks:=j}:=f.kept λb o e=>n6 _ e
 refine⟨(s.heap.push { cls:=.type "range",data:=.fields #[.int lo t,.int a u,.int 1 v]}).objs.size,[(s.heap.push { cls:=.type "range",data:=.fields #[.int lo t,.int a u,.int 1 v]}).objs.size],_,_,H,rfl,
  i.kept (t':=j) λb o e=>n6 _ e,vk _ lo (a-lo).toNat,?_,λb B=>?_,q⟩
 .have e1:lo+((0:Nat):Int)*1=lo:=by simp
  have e2:(((a-lo).toNat:Nat):Int)-((0:Nat):Int)=Builtin.Range.rangeSize lo a 1:=by rw[rangeSize_one];split<;>lia
  rw[e1,e2];exact yM _ rfl
 .have e:b=(s.heap.push { cls:=.type "range",data:=.fields #[.int lo t,.int a u,.int 1 v]}).objs.size:=by simpa using B
  subst e;exact i.fpOk (iv _) (i.hok.fresh (iv _))
def J9(f:TA):TI:=λZ H R=>f Z H λi a=>∃j:Int,i=[.int j] /\ -(2^62)<=j/\j<2^62/\R (Nq 0 j.toNat) a
def wV{a:Expr}{u:TA}{p f:Pos}(E:Gl X "range")(B:X.mg "range"=Y)(G:PA X [a] u)(M:starEach [a] X.env=[(T,eval a X.env)]:=by rfl):PI X tg (.Call (.Name "range" p) [a] [] f) (J9 u):=by
 intro L s Z H R i h;refine Call_ (kh i E B boot_range (PyProof.Rows.callWith_type1 (k_ (G f L s Z H _ i h) λQ S ⟨O,P,F,z,l⟩=>?_) M rfl));obtain⟨j,e,l,y,q⟩:=l;subst e
 cases z with
 |cons r C =>
  cases C;obtain⟨t,rfl⟩:=r;exact call_range_1 (yT F ⋯ ⋯ l y (by simpa using q))
def OS(B:TI)(g:TG)(tb:TS):TS:=λD Z H=>B Z H λa u=>∃W:Nat->Nat->St->Hp->Prop,(∃m,W 0 m Z u)/\∀i m Z H,W i m Z H ->
 (a.stop i H/\D.nx Z H)\/(a.go i H/\∃N:St->Hp->Prop,(∀j f,N j f->∃l,l<m/\W (i+1) l j f)/\∀x f,a.yld i H x f->g x Z f λy z=>tb { D with nx:=N,ct:=N,bk:=D.nx} y z)
def jK(a:SX)(h:Heap):SK:=a.filterMap λb=>(h.get? b).map λo=>(b,o)
def gF(a:b∈fp)(e:h.get? b=J o):(b,o)∈jK fp h:=BS.mpr ⟨b,a,by rw[e];rfl⟩
def w6(f:p∈jK fp h):p.1∈fp/\h.get? p.1=J p.2:=by
 obtain⟨b,a,e⟩:=BS.mp f
 cases q:h.get? b with
 |none=>rw[q]at e;cases e
 |some o =>
  rw[q]at e;have i:=Option.some.inj e;subst i;exact⟨a,q⟩
def Inv.pinned{f:SK}{Z:St}{H:Hp}{s:Shared}{i:SX}(a:Inv X f Z H s)(hf:∀b∈i,j7 X f H b)(u:∀b∈i,∃o,s.heap.get? b=J o/\∀v,o.data≠.cell v):Inv X (f++jK i s.heap) Z H s :=
 a.pins_of λp l=>(nw.mp l).elim (λz=>a.pin p (pu _ z)) λz=>by
  obtain⟨j,e⟩:=w6 z;obtain⟨y,B,C,_⟩:=hf p.1 j;obtain⟨o,E,d⟩:=u p.1 j
  simp_all
def Inv.unpinned{Kh i:SK}{Z:St}{H:Hp}{s:Shared}(a:Inv X (Kh++i) Z H s):Inv X Kh Z H s:=a.pins_of λp f=>a.pin p (pu _ (vK _ f))
def FJ(Q:PassesOwn (model X.prog X.w) X.A X.env X.xe)(hc:X.calm=I)(hi:PI X tg iter wi)(hg:PG X tg g)(B:PSs X body tb)(hs:∀x,foldedSetIterable iter X.env x=pure x:=by intro _;rfl):PS X (.For tg iter body [] pos) (OS wi g tb):=by
 intro G s Z H D ab h;refine wpAny_For (k_ (hi G s Z H _ ab h) λv s1 h1=>k_ h1 λas s2 h2=>?_) hs;obtain⟨it,R,tn,ap,H2,e,I2,z,an,f2,W,⟨m0,w0⟩,turn⟩:=h2;subst e;have j:∀{C:Hp},(∀b∈R,C b=Y)->∀b∈R,j7 X G C b:=λhn b B=>⟨hn b B,(f2 b B).2⟩;refine codeAny_forLoop_any (λn s'=>∃i S C,Inv X G S C s'/\tn i s'.heap/\(∀b∈R,C b=Y)/\W i n S C) ?_ m0 ⟨0,Z,H2,I2,an,λb B=>(f2 b B).1,w0⟩;rintro n s3 ⟨i,O,U,I3,L,M,w3⟩;rcases turn i n O U w3 with⟨stop,qn⟩|⟨go,N,hN,step⟩
 .refine wpAny_passesOwn Q (k_ (z.done X rfl rfl rfl hc i G s3 O U X.xe I3 (j M) L stop) λr s4 ⟨hr,I4⟩=>?_);subst hr;exact wpAny_execs_nil ⟨O,U,I4,qn⟩
 .refine wpAny_passesOwn Q (k_ (z.item X rfl rfl rfl hc i G s3 O U X.xe I3 (j M) L go) λr s4 ⟨u,hr,h4⟩=>?_);subst hr;refine wpAny_passesOwn Q (k_ h4 λ_ s5 ⟨x,H5,I5,r5,y5,F,al⟩=>?_);have am:=I5.pinned (j al) (z.obj _ _ F);refine wpAny_passesOwn Q (k_ (hg _ s5 O H5 x u _ am r5 (step x H5 y5)) λ_ s6 ⟨Z6,H6,I6,q6⟩=>?_);refine wpAny_passesOwn Q (k_ (B _ s6 Z6 H6 _ I6 q6) λf s7 E=>?_);have again:∀{a:St}{y:Hp},Inv X (G++jK R s5.heap) a y s7->N a y->∃m,m<n/\∃i S C,Inv X G S C s7/\tn i s7.heap/\(∀b∈R,C b=Y)/\W i m S C:=λ{a y} l P=>by
   obtain⟨m',hm,w7⟩:=hN a y P;refine⟨m',hm,i+1,a,y,l.unpinned,z.keep _ _ _ F λb B o e=>(l.pin (b,o) (pu _ (pu _ (gF B e)))).1,λb B=>?_,w7⟩;obtain⟨o,e,d⟩:=z.obj _ _ F b B;exact(l.pin (b,o) (pu _ (pu _ (gF B e)))).2.1
  cases f with
  |next=>obtain⟨a,y,l,P⟩:=E;exact again l P
  |cont=>obtain⟨a,y,l,P⟩:=E;exact again l P
  |brk=>obtain⟨a,y,l,E⟩:=E;exact⟨a,y,l.unpinned,E⟩
  |ret v=>obtain⟨x7,a,y,l,r7,E⟩:=E;exact⟨x7,a,y,l.unpinned,r7,E⟩
end
abbrev R2:=V->V->Hp->VK->Prop
def OpR(X:Cx)(f:Value->Value->Sem Value)(r:R2):Prop :=
 ∀(a:SK)(s:Shared)(Z:St)(H:Hp)(x y:V)(v u:Value)(Q:VK),Inv X a Z H s->aR x v->aR y u->r x y H Q ->
  wpAny (model X.prog X.w) X.A (f v u) (EP X a Z Q) X.xe s
def Nr(X:Cx)(f:Value->Sem Value)(r:V->Hp->VK->Prop):Prop :=
 ∀(a:SK)(s:Shared)(Z:St)(H:Hp)(x:V)(v:Value)(Q:VK),Inv X a Z H s->aR x v->r x H Q ->
  wpAny (model X.prog X.w) X.A (f v) (EP X a Z Q) X.xe s
def bK(X:Cx)(f:Value)(r:List V->Hp->VK->Prop):Prop :=
 ∀(a:SK)(s:Shared)(Z:St)(H:Hp)(xs:List V)(i:SH)(Q:VK),Inv X a Z H s->aD xs i->r xs H Q ->
  wpAny (model X.prog X.w) X.A (call f i) (EP X a Z Q) X.xe s
def OT(X:Cx)(r:V->Hp->(Bool->Hp->Prop)->Prop):Prop :=
 ∀(a:SK)(s:Shared)(Z:St)(H:Hp)(x:V)(v:Value)(Q:Bool->Hp->Prop),Inv X a Z H s->aR x v->r x H Q ->
  wpAny (model X.prog X.w) X.A (truthy v) (TP X a Z Q) X.xe s
def J_(r:R2)(i tb:TE):TE:=λZ H Q=>i Z H λx a=>tb Z a λy f=>r x y f Q
def Si(r:V->Hp->VK->Prop)(f:TE):TE:=λZ H Q=>f Z H λx a=>r x a Q
def rI(C:Int->Int->Prop)(g:Int->Int->V):R2:=λx y H Q=>∃i j,x=.int i/\y=.int j/\C i j/\Q (g i j) H
def Cb(g:Int->Int->V):R2:=λx y H Q=>∃i j,x=.int i/\y=.int j/\Q (g i j) H
def rU(g:Int->V):V->Hp->VK->Prop:=λx H Q=>∃i,x=.int i/\Q (g i) H
section
variable{X:Cx}{a b c:Expr}{ta tb tc:TE}{pos:Pos}
def FK(S:PE X a ta)(U:PE X b tb){B:SK}{s:Shared}{Z:St}{H:Hp}{R:V->V->Hp->Prop}(E:Inv X B Z H s)(h:ta Z H λx C=>tb Z C λy i=>R x y i){Q:S5}{f:Value->Value->Sem Value}(hf:∀v u z x y i,Inv X B Z i z->aR x v->aR y u->R x y i->wpAny (model X.prog X.w) X.A (f v u) Q X.xe z):
  wpAny (model X.prog X.w) X.A (eval a X.env) (λv j=>wpAny (model X.prog X.w) X.A (eval b X.env) (λu l=>wpAny (model X.prog X.w) X.A (f v u) Q X.xe l) X.xe j) X.xe s:=by
 refine k_ (S B s Z H _ E h) λv P ⟨x,C,M,F,L⟩=>?_;refine k_ (U B P Z C _ M L) λu z ⟨y,i,W,O,G⟩=>?_;exact hf v u z x y i W F O G
def Ka{i:Operator}{r:R2}(C:OpR X (binaryOp i) r)(E:PE X a ta)(F:PE X b tb):PE X (.BinOp a i b pos) (J_ r ta tb):=by intro G s Z H Q f h;exact wpAny_BinOp (FK E F f h λv u B x y j L z l q=>C G B Z j x y v u Q L z l q)
def Kb(C:Nr X (unaryOp op) r)(j:PE X a ta):PE X (.UnaryOp op a pos) (Si r ta):=by intro i s Z H Q f h;exact UnaryOp_ (k_ (j i s Z H _ f h) λv y ⟨x,l,B,z,u⟩=>C i y Z l x v Q B z u)
def Sj{f:Value->Value->Sem Value}{C:Int->Int->Prop}{g:Int->Int->Int}(rule:∀(i j:Int)(t u:Tok)(s:Shared)(Q:S5)(E:S5),C i j->Q (.int (g i j) s.toks) { s with toks:=s.toks+1}->wpAny (model X.prog X.w) X.A (f (.int i t) (.int j u)) Q E s):
  OpR X f (rI C λi j=>.int (g i j)):=by
 intro L s Z H x y v u Q l B z h;obtain⟨i,j,rfl,rfl,F,q⟩:=h;obtain⟨t,rfl⟩:=B;obtain⟨G,rfl⟩:=z;exact rule i j t G s _ _ F ⟨.int (g i j),H,l.tok _,⟨_,rfl⟩,q⟩
def Kc{f:Value->Value->Sem Value}{g:Int->Int->Int}(rule:∀(i j:Int)(t u:Tok)(s:Shared)(Q:S5)(E:S5),Q (.int (g i j) s.toks) { s with toks:=s.toks+1}->wpAny (model X.prog X.w) X.A (f (.int i t) (.int j u)) Q E s):
  OpR X f (Cb λi j=>.int (g i j)):=by
 intro F s Z H x y v u Q l B z h;obtain⟨i,j,rfl,rfl,q⟩:=h;obtain⟨t,rfl⟩:=B;obtain⟨C,rfl⟩:=z;exact rule i j t C s _ _ ⟨.int (g i j),H,l.tok _,⟨_,rfl⟩,q⟩
def Cc{f:Value->Value->Sem Value}{g:Int->Int->Bool}(rule:∀(i j:Int)(t u:Tok)(s:Shared)(Q:S5)(E:S5),Q (.bool (g i j)) s->wpAny (model X.prog X.w) X.A (f (.int i t) (.int j u)) Q E s):
  OpR X f (Cb λi j=>.bl (g i j)):=by
 intro F s Z H x y v u Q l B z h;obtain⟨i,j,rfl,rfl,q⟩:=h;obtain⟨t,rfl⟩:=B;obtain⟨C,rfl⟩:=z;exact rule i j t C s _ _ ⟨.bl (g i j),H,l,rfl,q⟩
def eS(i j:Int):Prop:=0<=j/\j<=1000000/\i.natAbs<2^64
def FL:OpR X (binaryOp .Add) (Cb λi j=>.int (i+j)):=Kc λ_ _ _ _ _ _ _ q=>add_int q
def FM:OpR X (binaryOp .Sub) (Cb λi j=>.int (i-j)):=Kc λ_ _ _ _ _ _ _ q=>sub_int q
def FN:OpR X (binaryOp .Pow) (rI eS λi j=>.int (i^j.toNat)):=Sj λ_ _ _ _ _ _ _ f q=>pow_int_small f.1 f.2.1 f.2.2 q
def Sk{f:Value->Sem Value}{g:Int->Int}(rule:∀(i:Int)(t:Tok)(s:Shared)(Q:S5)(E:S5),Q (.int (g i) s.toks) { s with toks:=s.toks+1}->wpAny (model X.prog X.w) X.A (f (.int i t)) Q E s):
  Nr X f (rU λi=>.int (g i)):=by
 intro u s Z H x v Q j l h;obtain⟨i,rfl,q⟩:=h;obtain⟨t,rfl⟩:=l;exact rule i t s _ _ ⟨.int (g i),H,j.tok _,⟨_,rfl⟩,q⟩
def FO:Nr X (unaryOp .USub) (rU λi=>.int (-i)):=Sk λ_ _ _ _ _ q=>neg_int q
def FP{j:SK}{Z:St}{H:Hp}{s:Shared}{Q:VK}{k i:Bool}(f:Inv X j Z H s)(q:Q (.bl k) H)(e:k=i):EP X j Z Q (.bool i) s:=by subst e;exact⟨.bl k,H,f,rfl,q⟩
def Ke:OpR X (compareOp .Lt) (Cb λi j=>.bl (decide (i<j))):=Cc λ_ _ _ _ _ _ _ q=>lt_int q
def Kf:OpR X (compareOp .LtE) (Cb λi j=>.bl (decide (i<=j))):=Cc λ_ _ _ _ _ _ _ q=>le_int q
def Kg:OpR X (compareOp .Gt) (Cb λi j=>.bl (decide (j<i))):=Cc λ_ _ _ _ _ _ _ q=>gt_int q
def Ki:OpR X (compareOp .GtE) (Cb λi j=>.bl (decide (j<=i))):=Cc λ_ _ _ _ _ _ _ q=>ge_int q
def Cd:OpR X (compareOp .IsNot) (λx y H Q=>y=.non/\Q (.bl (!decide (x=.non))) H):=by
 intro l s Z H x y v u Q f i j h;obtain⟨rfl,q⟩:=h;cases j;refine isnot_none_gen (FP f q ?_);cases x<;>first
  |(obtain⟨t,rfl⟩:=i;rfl)
def Bw(b:Expr)(h:op≠.In:=by decide)(f:op≠.NotIn:=by decide):behindInMarks op b=T:=by
 have e1:(op==CmpOp.In)=T:=by cases op<;>first | rfl | exact absurd rfl h
 have e2:(op==CmpOp.NotIn)=T:=by cases op<;>first | rfl | exact absurd rfl f
 cases b<;>simp[behindInMarks,e1,e2]
def Ce{i:CmpOp}{r:R2}(E:OpR X (compareOp i) r)(F:PE X a ta)(G:PE X b tb)(z:behindInMarks i b=T):PE X (.Compare a [i] [b] pos) (J_ r ta tb):=by intro L s Z H Q f h;exact wpAny_Compare1 (FK F G f h λv u C x y j M B l q=>E L C Z j x y v u Q M B l q) z
def Kj(t:TE):TT:=λZ H Q=>t Z H λx f=>∃k,x=.bl k/\Q k f
def Cf(S:OpR X (compareOp op) r)(W:PE X a ta)(hb:PE X b tb)(C:behindInMarks op b=T):PT X (.Compare a [op] [b] pos) (Kj (J_ r ta tb)):=by
 intro i s Z H Q f h
 refine wpAny_isTrue_Compare1 (k_ (W i s Z H _ f h) λv U ⟨x,F,P,l,G⟩=>k_ (hb i U Z F _ P G) λu L ⟨y,j,I2,R,B⟩ =>
  k_ (S i L Z j x y v u _ I2 l R B) λc s3 ⟨z,E,O,r3,k,e,M⟩=>?_) C
 subst e;cases r3;exact wpAny_truthy_bool ⟨E,O,M⟩
def wM(r B:R2)(ta tb tc:TE):TE:=λZ H Q=>ta Z H λx i=>tb Z i λy j=>r x y j λz f=>∃k,z=.bl k /\
 (if k=I then tc Z f λl u=>B y l u Q else Q (.bl T) f)
def Am(ho:OpR X (compareOp op) r)(j:OpR X (compareOp op') r')(ha:PE X a ta)(hb:PE X b tb)(hc:PE X c tc)(O:lastMarks [op,op'] [b,c]=T:=by with_unfolding_all rfl):PE X (.Compare a [op,op'] [b,c] pos) (wM r r' ta tb tc):=by
 intro f s Z H Q i h
 refine Compare_chain (k_ (ha f s Z H _ i h) λv s1 ⟨x,S,I1,G,U⟩=>chain_link (k_ (hb f s1 Z S _ I1 U) λu s2 ⟨y,F,I2,E,L⟩ =>
  k_ (ho f s2 Z F x y v u _ I2 G E L) λd W ⟨z,l,C,r3,k,e,B⟩=>?_)) O
 subst e;cases r3;refine wpAny_truthy_bool ?_
 cases k with
 |false=>exact ite_ff ⟨.bl T,l,C,rfl,B⟩
 |true=>exact ite_tt (chain_last (k_ (hc f W Z l _ C B) λw' M ⟨R,H4,I4,r4,P⟩=>j f M Z H4 y R u w' Q I4 E r4 P))
def Kk(K:h8)(x:V)(H:Hp)(k:Bool):Prop :=
 match x with
 |.non=>k=T
 |.bl b=>k=b
 |.int i=>k=(i != 0)
 |.str y=>y.length<=sizeLine/\k=((y.length:Int) != 0)
 |.byt y=>y.size<=sizeLine/\k=((y.size:Int) != 0)
 |.ref p=>(∃xs,SqL K H p xs/\k=!xs.isEmpty)\/(∃xs,SqT K H p xs/\k=!xs.isEmpty)\/∃f,H p=J (.dK f)/\k=!f.isEmpty
 |_=>False
def vh{κ:Type}{f:List (κ×V)}{i:List (κ×Value)}(r:KV f i):(!i.isEmpty)=!f.isEmpty:=by cases r<;>rfl
def m8(r:aD xs its):(!its.toArray.isEmpty)=!xs.isEmpty:=by cases r<;>simp
def nu:(sizeLine:Nat)<2^63:=by rw[sizeLine_eq];decide
def re:OT X (λx H Q=>∃k,Kk X.K x H k/\Q k H):=by
 intro O s Z H x v Q f z h;obtain⟨k,e,q⟩:=h;have P:sizeLine=16777216:=sizeLine_eq
 cases x with
 |non =>
  cases z;have j:k=T:=e;subst j;exact truthy_none ⟨H,f,q⟩
 |bl b =>
  cases z;have j:k=b:=e;subst j;exact wpAny_truthy_bool ⟨H,f,q⟩
 |int i =>
  obtain⟨t,rfl⟩:=z;have j:k=(i != 0):=e;subst j;exact PySem.P.truthy_int ⟨H,f,q⟩
 |str y =>
  obtain⟨t,rfl⟩:=z;obtain⟨L,j⟩:y.length<=sizeLine/\k=((y.length:Int) != 0):=e;subst j;exact PySem.P.truthy_str ⋯ ⟨H,f.tok _,q⟩
 |byt y =>
  obtain⟨t,rfl⟩:=z;obtain⟨L,j⟩:y.size<=sizeLine/\k=((y.size:Int) != 0):=e;subst j;exact PySem.W.truthy_bytes ⋯ ⟨H,f.tok _,q⟩
 |ref p =>
  cases z;have j:(∃xs,SqL X.K H p xs/\k=!xs.isEmpty)\/(∃xs,SqT X.K H p xs/\k=!xs.isEmpty)\/∃l,H p=J (.dK l)/\k=!l.isEmpty:=e;rcases j with⟨xs,B,j⟩|⟨xs,B,j⟩|⟨l,B,j⟩
  .subst j;obtain⟨E,r,F,G⟩:=f.list B;have u:=r.length;exact wpAny_truthy_list F.isList (by simp only[q_];lia) ⟨H,f.tok _,by rw[m8 r];exact q⟩
  .subst j;obtain⟨E,r,F,G⟩:=f.tuple B;have u:=r.length;exact truthy_tuple F (by simp only[q_];lia) ⟨H,f.tok _,by rw[m8 r];exact q⟩
  .subst j;obtain⟨G,M,C,r,m⟩:l.length<=sizeLine/\(p==sysModules)=T/\∃C,KV l C/\s.heap.DictOf (oM X.prog X.w) p C:=f.hok p _ B;have u:l.length=C.length:=Paired.length r;exact wpAny_truthy_dict M m ⋯ ⟨H,f.tok _,by rw[vh r];exact q⟩
 |_=>exact(show False from e).elim
def zk(F:PE X a ta)(B:∀f,isTrue a X.env f=(do let v <-f;standAt a.pos;holding [v] (truthy v))):
  PT X a (λZ H Q=>ta Z H λx j=>∃k,Kk X.K x j k/\Q k j):=by
 intro l s Z H Q i h;exact isTrue_plain (k_ (F l s Z H _ i h) λv E ⟨x,y,C,u,z⟩=>re l E Z y x v Q C u z) (B _)
def wC:OpR X (binaryOp .Add) (λx y H Q=>∃i j,x=.str i/\y=.str j/\i.length+j.length<=sizeLine/\Q (.str (i++j)) H):=by intro F s Z H x y v u Q f z l h;obtain⟨i,j,rfl,rfl,B,q⟩:=h;obtain⟨t,rfl⟩:=z;obtain⟨C,rfl⟩:=l;exact add_str (λC E=>⟨.str (i++j),H,f.tok _,⟨_,rfl⟩,q⟩) B
def c6(r:aD [x] us):∃u,us=[u]/\aR x u:=by
 cases r with
 |cons f i=>cases i;exact⟨_,rfl,f⟩
def vals2(r:aD [x,y] us):∃u f,us=[u,f]/\aR x u/\aR y f:=by
 cases r with
 |cons i j =>
  cases j with
  |cons r3 r4=>cases r4;exact⟨_,_,rfl,i,r3⟩
def y0:bK X (.builtin "abs") (λxs H Q=>∃i,xs=[.int i]/\Q (.int (if i<0 then -i else i)) H):=by intro j s Z H xs y Q f r h;obtain⟨i,rfl,q⟩:=h;obtain⟨u,rfl,t,rfl⟩:=c6 r;exact call_abs_int λu l=>⟨.int (if i<0 then -i else i),H,f.tok _,⟨_,rfl⟩,q⟩
def xL(y:X.calm=I):bK X (.builtin "max") (λxs H Q=>∃i j,xs=[.int i,.int j]/\Q (.int (if j>i then j else i)) H):=by
 intro F s Z H xs C Q f r h;obtain⟨i,j,rfl,q⟩:=h;obtain⟨u,z,rfl,⟨t,rfl⟩,⟨E,rfl⟩⟩:=vals2 r;refine max_two_ints (f.ok.hd y) λG B k=>⟨_,H,f.kept k,?_,q⟩;by_cases l:j>i
 .rw[b_ l,b_ l];exact⟨_,rfl⟩
 .rw[c_ l,c_ l];exact⟨_,rfl⟩
def xA(y:X.calm=I):bK X (.builtin "min") (λxs H Q=>∃i j,xs=[.int i,.int j]/\Q (.int (if j<i then j else i)) H):=by
 intro F s Z H xs C Q f r h;obtain⟨i,j,rfl,q⟩:=h;obtain⟨u,z,rfl,⟨t,rfl⟩,⟨E,rfl⟩⟩:=vals2 r;refine min_two_ints (f.ok.hd y) λG B k=>⟨_,H,f.kept k,?_,q⟩;by_cases l:j<i
 .rw[b_ l,b_ l];exact⟨_,rfl⟩
 .rw[c_ l,c_ l];exact⟨_,rfl⟩
def pD:bK X (.type "int") (λxs H Q=>(∃i,xs=[.int i]/\Q (.int i) H)\/∃k,xs=[.bl k]/\Q (.int (if k then 1 else 0)) H):=by
 intro l s Z H xs y Q f r h;rcases h with⟨i,rfl,q⟩|⟨k,rfl,q⟩
 .obtain⟨u,rfl,t,rfl⟩:=c6 r;exact call_int_int ⟨.int i,H,f,⟨_,rfl⟩,q⟩
 .obtain⟨u,rfl,j⟩:=c6 r;cases j;exact call_int_bool ⟨.int (if k then 1 else 0),H,f.tok _,⟨_,rfl⟩,q⟩
def OU(K:h8)(x:V)(H:Hp)(n:Nat):Prop :=
 match x with
 |.str y=>y.length<=sizeLine/\n=y.length
 |.byt y=>y.size<=sizeLine/\n=y.size
 |.ref p=>(∃xs,SqL K H p xs/\n=xs.length)\/∃xs,SqT K H p xs/\n=xs.length
 |_=>False
def js:bK X (.builtin "len") (λxs H Q=>∃x n,xs=[x]/\OU X.K x H n/\Q (.int n) H):=by
 intro M s Z H xs L Q f r h;obtain⟨x,n,rfl,e,q⟩:=h;obtain⟨u,rfl,l⟩:=c6 r;have O:=sizeLine_eq
 cases x with
 |str y =>
  obtain⟨t,rfl⟩:=l;obtain⟨F,j⟩:=e;subst j;exact len_str ⋯ ⟨.int _,H,f.tok _,⟨_,rfl⟩,q⟩
 |byt y =>
  obtain⟨t,rfl⟩:=l;obtain⟨F,j⟩:=e;subst j;exact PySem.W.len_bytes ⋯ ⟨.int _,H,f.tok _,⟨_,rfl⟩,q⟩
 |ref p =>
  cases l;have j:=e;rcases j with⟨xs,B,j⟩|⟨xs,B,j⟩
  .subst j;obtain⟨z,C,E,G⟩:=f.list B;have i:=C.length;exact Calls.call_len_list E.isList (by simp only[q_];lia) ⟨.int xs.length,H,f.tok _,⟨_,by simp only[q_];rw[i]⟩,q⟩
  .subst j;obtain⟨z,C,E,G⟩:=f.tuple B;have i:=C.length;exact len_tuple E (by simp only[q_];lia) ⟨.int xs.length,H,f.tok _,⟨_,by simp only[q_];rw[i]⟩,q⟩
 |_=>exact(e).elim
end
section
variable{prog:Program}{w:World}{A:Around}{E:S5}{s:Shared}{K:h8}{x dx C f:Addr}{mA:S6}{name:Str}{v:Value}
end
section
variable{P:Program}{w:World}{H H':Hp}{h h':Heap}{a C dx:Addr}{fs fs':List (Str × V)}
end
section
variable{X:Cx}{Kh:List (Addr × Obj)}{Z:St}{H:Hp}{s:Shared}{a C dx:Addr}{fs:List (Str × V)}{f:Str}{v:V}{A:Around}{E:S5}
end
section
variable{X:Cx}{o e value:Expr}{f:Str}{pos pos' tpos:Pos}{ta tv:TE}
end
section
variable{X:Cx}{Kh:List (Addr × Obj)}{Z:St}{H:Hp}{s:Shared}{A:Around}{E:S5}{Q:S5}{c:Value}{b:Bool}
end
structure Room(k:Nat)(A:Around):Prop where
 hd:A.handled=Y
 dp:A.depth+3*k+5<recursionLimit
 un:A.units+16*k+200<cLine
 gd:A.guards=J []
def Room.mono(r:Room k A)(h:j<=k):Room j A:=⟨r.hd,by have:=r.dp;lia,by have:=r.un;lia,r.gd⟩
def Room.deeper(r:Room (k+1) A)(env:Env):Room k (A.deeper env) :=
 ⟨r.hd,by have:=r.dp;show A.depth+1+3*k+5<_;lia,by have:=r.un;show A.units+3+16*k+200<_;lia,r.gd⟩
def Room.depth(r:Room k A):A.depth<recursionLimit:=by have:=r.dp;lia
def Room.units(r:Room k A):A.units+64<cLine:=by have:=r.un;lia
def OV:TA:=λ_ H Q=>Q [] H
def Kl(i:TE)(j:TA):TA:=λZ H Q=>i Z H λx a=>j Z a λxs f=>Q (x::xs) f
section
variable{X:Cx}{e:Expr}{es:S3}{te:TE}{t:TA}{pos:Pos}
def dZ:PA X [] OV:=λ_ _ _ _ H Q a h=>Calls.spliced_nil ⟨[],H,a,.nil,h⟩
def bY(G:PE X e te)(B:PA X es t)(L:starEach (e::es) X.env=(T,eval e X.env)::starEach es X.env:=by rfl):PA X (e::es) (Kl te t):=by intro pos f s Z H Q a h;rw[L];show wpAny _ _ (spliced ((T,eval e X.env)::backTo pos (starEach es X.env))) _ _ s;refine Calls.spliced_cons (k_ (G f s Z H _ a h) λu F ⟨x,y,C,j,z⟩=>?_);exact k_ (B pos f F Z y _ C z) λP O ⟨xs,i,M,E,l⟩=>⟨x::xs,i,M,.cons j E,l⟩
def OW(t:TA):TE:=λZ H Q=>t Z H λxs a=>xs.length<=sizeLine/\∀p,a p=Y->Q (.ref p) (ls a p (.tup xs))
def OX(t:TA):TE:=λZ H Q=>t Z H λxs a=>xs.length<=sizeLine/\∀p,a p=Y->Q (.ref p) (ls a p (.lst xs))
def xH{x1}(h:PA X es t):PE X (.Tuple es x1 pos) (OW t):=by intro y s Z H Q a B;refine wpAny_Tuple_spliced (k_ (h pos y s Z H _ a B) λl f ⟨xs,j,i,r,z,q⟩=>⟨by rw[<-r.length];exact z,?_⟩);have hf:=i.hok.fresh (iv _);refine⟨.ref f.heap.objs.size,ls j f.heap.objs.size (.tup xs),i.laid (t':=f.toks) (λb u e=>n6 _ e) (iv _) ?_,rfl,q _ hf⟩;exact⟨z,l,r,⟨_,yM _ rfl,rfl,⟨_,rfl⟩,rfl⟩⟩
def FQ(h:PA X es t):PE X (.List es pos) (OX t):=by intro y s Z H Q a B;refine wpAny_List_spliced (k_ (h pos y s Z H _ a B) λl f ⟨xs,j,i,r,z,q⟩=>⟨by rw[<-r.length];exact z,?_⟩);have hf:=i.hok.fresh (iv _);refine⟨.ref f.heap.objs.size,ls j f.heap.objs.size (.lst xs),i.laid (t':=f.toks) (λb u e=>n6 _ e) (iv _) ?_,rfl,q _ hf⟩;exact⟨z,l,0,r,yM _ rfl⟩
end
abbrev Sp:=List V->Hp->VK->XK->Prop
abbrev Bm:=List Env->Hp->Shared->XK->Value->Shared->Prop
structure Cg(P:Program)(w:World)(K:h8)(mg:S6)(base:Heap)(A:Around)(outer:List Env)(s:Shared)(H:Hp):Prop where
 frames:A.frames=J outer
 mod:Mod K mg base
 bs:∀b o,base.get? b=J o->s.heap.get? b=J o/\H b=Y
 bsz:base.objs.size<=s.heap.objs.size
 funs:s.heap.FunFrames base outer
 frf:∀b∈wm outer,H b=Y
 hok:HOk P w H s.heap
 bare:AllBare s.gens
inductive CE(outer:List Env)(P:Program)(w:World)(H:Hp)(s:Shared)(Q:VK)(u:Value)(s':Shared):Prop
 |mk(v:V)(H':Hp)(o:s'.os=s.os)(b:AllBare s'.gens)(n:Un (wm outer) [] H H' s.heap s'.heap)(k:HOk P w H' s'.heap)(r:aR v u)(q:Q v H'):CE outer P w H s Q u s'
def CR(f:Bm)(outer:List Env)(P:Program)(w:World)(H:Hp)(s:Shared)(Q:VK)(E:XK)(r:Result)(a:Shared):Prop :=
 match r with
 |.ok (.ret u)=>CE outer P w H s Q u a
 |.ok _=>False
 |.error e=>f outer H s E e a
structure FnOk(P:Program)(w:World)(K:h8)(mg:S6)(base:Heap)(CX:Bm)(k:Nat)(f:Addr)(fd:FuncData)(ps:SQ)(sp:Sp):Prop where
 len:∀vs H Q E,sp vs H Q E->vs.length=ps.length
 run:∀(A:Around)(outer:List Env)(s:Shared)(H:Hp)(args:Args)(us:SH)(vs:List V)(Q:VK)(E:XK),Room k A->Cg P w K mg base A outer s H->BindsTo s fd args (ps.zip us)->aD vs us->sp vs H Q E ->
  codeAny (model P w) A (.call (.ref f) args) (CR CX outer P w H s Q E) s
def FnOk.mono{P:Program}{w:World}{K:h8}{mg:S6}{base:Heap}{l:Bm}{j k:Nat}{f:Addr}{fd:FuncData}{u:SQ}{i:Sp}(F:FnOk P w K mg base l j f fd u i)(h:j<=k):
  FnOk P w K mg base l k f fd u i:=⟨F.len,λA outer s H a B y Q E z=>F.run A outer s H a B y Q E (z.mono h)⟩
def FnOk.imp{P:Program}{w:World}{K:h8}{mg:S6}{base:Heap}{u:Bm}{k:Nat}{f:Addr}{fd:FuncData}{y:SQ}{l i:Sp}(F:FnOk P w K mg base u k f fd y l)(h:∀a H Q E,i a H Q E->l a H Q E):FnOk P w K mg base u k f fd y i :=
 ⟨λa H Q E q=>F.len a H Q E (h _ _ _ _ q),λA outer s H j C a Q E z B G hv L=>F.run A outer s H j C a Q E z B G hv (h _ _ _ _ L)⟩
section
variable{X:Cx}{Kh:List (Addr × Obj)}{Z:St}{H:Hp}{s s':Shared}
def Inv.env0(a:Inv X Kh Z H s):Cg X.prog X.w X.K X.mg X.base X.A X.stack s H :=
 ⟨a.ok.frames,a.ok.mod,a.bs,mh a.ok.bsz a.sz,a.stack,a.stkFree,a.hok,a.bare⟩
def Inv.after(a:Inv X Kh Z H s)(h:CE X.stack X.prog X.w H s Q u s'):EP X Kh Z Q u s':=by obtain⟨v,j,os,bare,un,hok,r,q⟩:=h;obtain⟨f,g,d,t,i⟩:=s';obtain rfl:=os;exact⟨v,j,a.call (h':=f) (g':=g) (d':=d) (t':=t) un hok bare (λb z=>absurd z (by simp)),r,q⟩
end
def mL(K:h8)(fd:FuncData)(f:SQ)(i:SH):Prop :=
 ∀(s:Shared)(a:SH),K.In s.heap->(a++i).length=f.length->BindsTo s fd ⟨a,[]⟩ (f.zip (a++i))
def mL.all{K:h8}{fd:FuncData}{f:SQ}(h:∀a:SH,a.length=f.length->bindArgs fd ⟨a,[]⟩=pure (f.zip a)):mL K fd f []:=λs a _ i=>by
 rw[En]at i ⊢;exact .of_eq (h a i)
section
variable{X:Cx}{CX:Bm}{k:Nat}{f C:Addr}{fd:FuncData}{ps:SQ}{sp:Sp}{dvs:List V}{ds:SH}{E:XK}{x m:Str}{p pos apos:Pos}{e o:Expr}{es:S3}{ta:TE}{t:TA}
end
section
variable{X:Cx}{CX:Bm}{k:Nat}{f C:Addr}{fd:FuncData}{ps ks:SQ}{sp:Sp}{E:XK}{x m:Str}{p pos apos kpos:Pos}{e o:Expr}{es:S3}{kws:List Keyword}{te ta:TE}{t tk:TA}{nm:Option Str}{g:SH->SH->SH}{gV:List V->List V->List V}
end
structure s_(N P:SQ)(sc:Scope):Prop where
 kind:sc.kind=.function
 co:sc.isCoroutine=T
 gen:sc.isGenerator=T
 nd:N.Nodup
 pre:N.take P.length=P
 par:∀x∈P,sc.names.lookup x=J .local\/sc.names.lookup x=J .cell
 nofree:∀y∈sc.names,y.2≠.free
def pJ{kindOf:Str->Option NameKind}{x:Str}:∀{binds:List (Str×Value)}{m:S6},(∀v,(x,v)∉binds)->bindL kindOf binds m x=m x
 |[],_,_=>rfl
 |(n,v)::r,m,h=>by
  unfold bindL;rw[pJ λw a=>h w (nt _ a)];split
  .have:x≠n:=by rintro rfl;exact h v mu
   simp[this]
  .rfl
def pI{kindOf:Str->Option NameKind}{x:Str}:∀{binds:List (Str×Value)}{m:S6},(∀v,(x,v)∉binds)->bindC kindOf binds m x=m x
 |[],_,_=>rfl
 |(n,v)::r,m,h=>by
  unfold bindC;rw[pI λw a=>h w (nt _ a)];split
  .rfl
  .have:x≠n:=by rintro rfl;exact h v mu
   simp[this]
def pB{kindOf:Str->Option NameKind}{x:Str}{v:Value}:∀{P:SQ}{a:SH}{i:Nat}{m:S6},P.Nodup->P[i]?=J x->a[i]?=J v->kindOf x=J .local ->
  bindL kindOf (P.zip a) m x=J v
 |p::P,w::a,0,m,nd,j,f,l=>by
  simp at j f;subst j;subst f;show bindL kindOf ((p,w)::P.zip a) m p=_;unfold bindL;rw[pJ λv hv=>(Ff.mp nd).1 (Ow hv).1,b_ l];simp
 |p::P,w::a,i+1,m,nd,j,f,l=>by
  unfold bindL;exact pB (Ff.mp nd).2 (by simpa using j) (by simpa using f) l
def o7{kindOf:Str->Option NameKind}{x:Str}{v:Value}:∀{P:SQ}{a:SH}{i:Nat}{m:S6},P.Nodup->P[i]?=J x->a[i]?=J v->kindOf x≠J .local ->
  bindC kindOf (P.zip a) m x=J v
 |p::P,w::a,0,m,nd,j,f,l=>by
  simp at j f;subst j;subst f;show bindC kindOf ((p,w)::P.zip a) m p=_;unfold bindC;rw[pI λv hv=>(Ff.mp nd).1 (Ow hv).1,c_ l];simp
 |p::P,w::a,i+1,m,nd,j,f,l=>by
  unfold bindC;exact o7 (Ff.mp nd).2 (by simpa using j) (by simpa using f) l
def start(N:SQ)(a:List V):St:=a.map J++List.replicate (N.length-a.length) Y
def sd(u:Bm)(P:Program)(w:World)(K:h8)(mg:S6)(base:Heap)(N:SQ)(i:Str)(a:Scope)(f:Addr)(l:Value)(A:Around)(outer:List Env)(s:Shared)(H:Hp)(E:XK):Cx where
 prog:=P
 w:=w
 K:=K
 mg:=mg
 base:=base
 A:=A.deeper (envOfC i a s.heap.objs.size f l)
 N:=N
 s₀:=s
 H₀:=H
 env:=envOfC i a s.heap.objs.size f l
 outer:=outer
 stack:=envOfC i a s.heap.objs.size f l::outer
 ex:=[]
 calm:=I
 fn:=λ_=>I
 pn:=[]
 xe:=λe y=>wpAny (model P w) (A.deeper (envOfC i a s.heap.objs.size f l)) (leaving (envOfC i a s.heap.objs.size f l) e) (λ_ j=>u outer H s E e j) (λz j=>u outer H s E z j) y
def rm{a:Scope}{n:Nat}{x:Str}(h:a.names.lookup x=J .cell):∃c,(cellsFrom n a.names []).lookup x=J c:=by have q:=PySem.W.cellsFrom_some a.names n [] (.inl h);exact Option.isSome_iff_exists.mp q
def wU{CX:Bm}{P:Program}{w:World}{K:h8}{mg:S6}{base:Heap}{N G:SQ}{l:Str}{j:Scope}{f:Addr}{R:Value}{A:Around}{outer:List Env}{s s1:Shared}{H:Hp}{E:XK}{X:SH}{F:List V}(S:s_ N G j)(hd:A.handled=Y)(C:Cg P w K mg base A outer s H)(hl:F.length=G.length)(r:aD F X)(x:InCallC s s.heap.objs.size (bindL (envOfC l j s.heap.objs.size f R).kindOf (G.zip X) λ_=>Y) (cellsFrom (s.heap.objs.size+1) j.names []) (bindC (envOfC l j s.heap.objs.size f R).kindOf (G.zip X) λ_=>Y) s1):
  Inv (sd CX P w K mg base N l j f R A outer s H E) [] (start N F) H s1:=by
 have ab:G.length<=N.length:=by have:=congrArg List.length S.pre;rw[Je]at this;lia
 obtain⟨W,tk,rfl,hk⟩:=x.done;have L:∀b:Addr,b∉(sd CX P w K mg base N l j f R A outer s H E).ex:=λb z=>absurd (show b∈([]:SX)from z) (by simp)
 refine⟨⟨C.mod,S.kind,rfl,rfl,iv _,λy z c W B=>?_,λy O=>?_,λy c _ h=>?_,λ_=>hd,Around.frames_deeper C.frames,.inr ⟨rfl,rfl⟩,λb z=>absurd z (L b),C.bs,C.bsz,λb _ _=>L b,λb z=>absurd z (L b),C.funs,C.frf⟩,
  rfl,C.bare,Un.kept hk,⟨_,x.toInCall.ns,λi y v W B h3=>?_⟩,λy c h=>⟨_,x.cell y c h⟩,C.hok.fresh (iv _),λy c h=>?_,λp Q=>absurd (show p∈([]:SK)from Q) (by simp),C.hok.kept hk,?_⟩
 .exact name_of_addr x.apart (PySem.mem_of_lookup W) (PySem.mem_of_lookup B)
 .rcases O with O|O
  .exact rm O
  .exact absurd rfl (S.nofree _ (PySem.mem_of_lookup O))
 .exact vu (x.above y c (PySem.mem_of_lookup h))
 .have U:i<F.length:=by
   unfold start at B;by_cases U:i<F.length
   .exact U
   .rw[AX (by simpa using U)]at B;rw[BP]at B
    split at B<;>cases B
  have ha:F[i]?=J v:=by
   unfold start at B;rw[vj (by simpa using U),wl]at B
   cases e:F[i]? with
   |none=>rw[e]at B;cases B
   |some a=>rw[e]at B;cases B;rfl
  obtain⟨u,Z,rv⟩:=r.get ha;have Q:G[i]?=J y:=by rw[<-S.pre,M5 ⋯];exact W
  have M:G.Nodup:=by rw[<-S.pre];exact S.nd.sublist (Oo _ _)
  refine⟨u,rv,?_⟩;rcases S.par y (AC Q)with k|k
  .exact .inl ⟨k,pB M Q Z k⟩
  .obtain⟨c,e⟩:=rm k;refine .inr ⟨.inl k,c,e,?_⟩;have q:=x.cell y c e;rw[o7 M Q Z (by show j.names.lookup y≠_;rw[k];decide)]at q;exact q
 .exact C.hok.fresh (vu (x.above y c (PySem.mem_of_lookup h)))
 .unfold start;show _=N.length;rw[zv,oh,JJ];lia
def Km{X:Bm}{P:Program}{w:World}{K:h8}{mg:S6}{base:Heap}{k:Nat}{f:Addr}{F i:Str}{z:Arguments}{B:S9}{a:Scope}{dV kV R pm l ct oc:Value}{an od:TL}{al:Array (S0)}{N Z:SQ}{sp:Sp}(lk:K.lookup f=J ⟨oc,od,.func (PySem.W.fnOf F i z B a dV kV R pm an l ct),al⟩)(am:PySem.W.codeIn K l i=I)(S:s_ N Z a)(len:∀C H Q E,sp C H Q E->C.length=Z.length)(M:∀(A:Around)(outer:List Env)(s:Shared)(H:Hp)(C:List V)(Q:VK)(E:XK),Room k (A.deeper (envOfC i a s.heap.objs.size f l))->sp C H Q E ->
   ∃t,PSs (sd X P w K mg base N i a f l A outer s H E) B t/\t { nx:=λ_ G=>Q .non G,rt:=Q} (start N C) H):
  FnOk P w K mg base X (k+1) f (PySem.W.fnOf F i z B a dV kV R pm an l ct) Z sp:=by
 refine⟨len,λA outer s H as us C Q E hr U hb r W=>?_⟩;have hl:=len _ _ _ _ W;have KX:=U.mod.kin.keeps λb o e=>(U.bs b o e).1;have ap:=U.mod.nolimit.keeps λb o e=>(U.bs b o e).1;have L:∀y∈Z.zip us,a.names.lookup y.1=J .local\/(a.names.lookup y.1=J .cell/\((cellsFrom (s.heap.objs.size+1) a.names []).lookup y.1).isSome=I):=λ⟨n,v⟩ hy=>by
  rcases S.par n (Ow hy).1 with q|q
  .exact .inl q
  .exact .inr ⟨q,PySem.W.cellsFrom_some _ _ _ (.inl q)⟩
 refine codeAny_call_function hr.depth (KX _ _ lk) rfl S.co S.gen rfl (PySem.W.codeRec_of KX am) (hb _ _ _ _ ?_);refine wpAny_newFunctionEnv_cells S.kind L λenv he s1 x=>?_;subst he;refine⟨ap.keeps x.toInCall.keep,codeAny_func ?_⟩;obtain⟨t,ht,hq⟩:=M A outer s H C Q E (hr.deeper _) W;have ab:Inv (sd X P w K mg base N i a f l A outer s H E) [] (start N C) H s1:=wU S hr.hd U hl r x;refine wpAny_mono (ht [] s1 (start N C) H _ ab hq) (λfl s' O=>?_) λe s' O=>O;have fin:∀{Z':St}{G:Hp}{v:V}{u:Value},Inv (sd X P w K mg base N i a f l A outer s H E) [] Z' G s'->aR v u->Q v G->CE outer P w H s Q u s' :=
  λ{Z' G v u} j rv q=>⟨v,G,j.os,j.bare,j.base,j.hok,rv,q⟩
 cases fl with
 |ret u =>
  obtain⟨v,Z',G,j,rv,q⟩:=O;exact fin j rv q
 |next =>
  obtain⟨Z',G,j,q⟩:=O;exact fin (v:=V.non) j rfl q
 |brk =>
  obtain⟨_,_,_,q⟩:=O;exact False.elim q
 |cont =>
  obtain⟨_,_,_,q⟩:=O;exact False.elim q
section
variable{X:Cx}{x:Str}{p pos:Pos}{e:Expr}{es:S3}{t:TA}{id T:String}{r:List V->Hp->VK->Prop}
def OY(r:List V->Hp->VK->Prop)(t:TA):TE:=λZ H Q=>t Z H λf a=>r f a Q
def dD(C:bK X (.builtin id) r)(E:Gl X x)(u:X.mg x=Y)(hv:bootBuiltins x=J (.builtin id))(O:PA X (e::es) t)(P:x≠"__name__":=by decide)(f:(x==("__debug__":Str))=false:=by decide)(F:starEach (e::es) X.env=(false,eval e X.env)::starEach es X.env:=by rfl)(i:(backTo pos (starEach es X.env)).any (·.1)=false:=by rfl):PE X (.Call (.Name x p) (e::es) [] pos) (OY r t):=by
 intro j s Z H Q a h;refine wpAny_Call_Name_kw (kh a E u hv ?_ P f);exact PyProof.Rows.callWith_builtin1 (k_ (O pos j s Z H _ a h) λL M ⟨y,z,G,l,B⟩=>C j M Z z y L Q G l B) F i
def fN(C:bK X (.type T) r)(E:Gl X x)(u:X.mg x=Y)(hv:bootBuiltins x=J (.type T))(O:PA X (e::es) t)(P:x≠"__name__":=by decide)(f:(x==("__debug__":Str))=false:=by decide)(F:starEach (e::es) X.env=(false,eval e X.env)::starEach es X.env:=by rfl)(i:(backTo pos (starEach es X.env)).any (·.1)=false:=by rfl):PE X (.Call (.Name x p) (e::es) [] pos) (OY r t):=by
 intro j s Z H Q a h;refine wpAny_Call_Name_kw (kh a E u hv ?_ P f);exact PyProof.Rows.callWith_type1 (k_ (O pos j s Z H _ a h) λL M ⟨y,z,G,l,B⟩=>C j M Z z y L Q G l B) F i
end
end L2
namespace HT
open PyProof.Rows
section
open PySem.SeqAt
open PySem.AutoSeq1 (wpAny_loadPart')
open PySem.MeetsSeq PySem.MeetsSeq2 PySem.MeetsSeq3
end
section
variable{prog:Program}{w:World}{A:Around}{E:S5}{s:Shared}
def Ch(G:IsTup s.heap t vs.toArray)(M:IsTup s.heap b ws.toArray)(hv:vs≠[])(O:ws=[]->Q (.ref t) s)(L:ws≠[]->Q (.ref s.heap.objs.size) { s with heap:=s.heap.push { cls:=.type "tuple",data:=.seq (vs++ws).toArray}})(u:vs.length+ws.length<=sizeLine):wpAny (model prog w) A (binaryOp .Add (.ref t) (.ref b)) Q E s:=by
 obtain⟨⟨cls,B,data,sl⟩,l,H,n,hd⟩:=id G;obtain⟨⟨C,f,data2,i⟩,a,z,F,y⟩:=id M;subst H hd z y;have e:vs.toArray++ws.toArray=(vs++ws).toArray:=by simp
 by_cases j:ws=[]
 .exact concat_meets ⟨_,l,rfl⟩ ⟨_,a,rfl⟩ noFill_tuple_add seq_tuple_add PySem.F.slot_tuple_add PySem.F.entry_tuple_add (PySem.F.args_tuple_add_2 _ _)
   (tuple_addW1 t b vs.toArray ws.toArray n F B f sl i (by simpa using hv) (by simp[j])) ⟨l,a,O j⟩
 .refine concat_meets ⟨_,l,rfl⟩ ⟨_,a,rfl⟩ noFill_tuple_add seq_tuple_add PySem.F.slot_tuple_add PySem.F.entry_tuple_add (PySem.F.args_tuple_add_2 _ _)
   (tuple_addW2 t b vs.toArray ws.toArray n F B f sl i (by simpa using hv) (by simpa using j) (by exact u)) ⟨l,a,?_⟩
  rw[e];exact L j
def l0(n d:Nat):S1->Nat
 |none=>d
 |some v=>if v<0 then(v+(n:Int)).toNat else min v.toNat n
def sF(n d:Nat):l0 n d Y=d:=rfl
def uV(n d k:Nat):l0 n d (J (k:Int))=min k n:=rfl
def tL(v:Int)(n d:Nat):(if v<0 then max (v+(n:Int)) 0 else min v (n:Int))=((l0 n d (J v):Nat):Int):=by
 show(if v<0 then max (v+(n:Int)) 0 else min v (n:Int))=(((if v<0 then(v+(n:Int)).toNat else min v.toNat n):Nat):Int)
 grind
def vc(lo a:S1)(n:Nat):Builtin.Slice.sliceAdjust lo a 1 (n:Int)=(((l0 n 0 lo:Nat):Int),((l0 n n a:Nat):Int)):=by
 refine Prod.ext ?_ ?_
 .cases lo with
  |none=>rfl
  |some v=>exact tL v n 0
 .cases a with
  |none=>rfl
  |some v=>exact tL v n n
def ww(i j:Nat):Builtin.Slice.slicePlaces (i:Int) (j:Int) 1=j-i:=by
 unfold Builtin.Slice.slicePlaces;have a:(1:Int)>0:=by lia
 simp only[a,if_true,Int.ediv_one]
 split<;>lia
def nz(p:IsPart v o)(h:Q o s):wpAny (model prog w) A (Builtin.Slice.slicePartIndex v) Q E s:=by
 cases p with
 |none=>exact slicePart_none h
 |int i t=>exact slicePart_int h
def mf{sl:Addr}{j l:Value}{lo a:S1}{n:Nat}{Q:Int×Int×Nat->Shared->Prop}(y:s.heap.IsSliceOf sl j l .none)(B:IsPart j lo)(z:IsPart l a)(h:Q (((l0 n 0 lo:Nat):Int),1,l0 n n a-l0 n 0 lo) s):wpAny (model prog w) A (Builtin.Slice.sliceApplied (.ref sl) (pure (n:Int))) Q E s:=by
 obtain⟨os,f,u,i⟩:=id y;refine d_ (d_ (wpAny_field f i rfl (d_ (wpAny_field f i rfl (d_ (wpAny_field f i rfl (il ?_)))))));refine d_ (slicePart_none ?_);refine d_ (nz B (d_ (nz z (d_ (il ?_)))));show wpAny _ _ (match Builtin.Slice.sliceAdjust lo a 1 (n:Int)with | (lo,a)=>pure (lo,(1:Int),Builtin.Slice.slicePlaces lo a 1)) _ _ s;rw[vc lo a n];show wpAny _ _ (pure (((l0 n 0 lo:Nat):Int),(1:Int),Builtin.Slice.slicePlaces ((l0 n 0 lo:Nat):Int) ((l0 n n a:Nat):Int) 1)) _ _ s;rw[ww];exact il h
def zq(xs:Array Value)(i k:Nat):((List.range k).filterMap λ(m:Nat)=>xs[((i:Int)+(m:Int)*1).toNat]?).toArray=((xs.toList.drop i).take k).toArray:=by
 have e:(λ(m:Nat)=>xs[((i:Int)+(m:Int)*1).toNat]?)=λm=>xs[i+m]?:=by grind
 rw[e]
 have:=pick_run xs i k
 rw[List.filterMap_map]at this;have e2:((λx=>xs[x]?)∘λx=>i+x)=λm=>xs[i+m]?:=rfl;rw[e2]at this;rw[this]
def kW{t sl:Addr}{items:Array Value}{z B:Value}{lo f:S1}{Q:S5}(i:IsTup s.heap t items)(C:s.heap.IsSliceOf sl z B .none)(L:IsPart z lo)(F:IsPart B f)(M:¬(l0 items.size 0 lo=0/\l0 items.size items.size f=items.size))(h:Q (.ref s.heap.objs.size) { s with heap:=s.heap.push { cls:=.type "tuple",data:=.seq ((items.toList.drop (l0 items.size 0 lo)).take (l0 items.size items.size f-l0 items.size 0 lo)).toArray}})(G:items.size<=sizeLine):wpAny (model prog w) A (getItem (.ref t) (.ref sl)) Q E s:=by
 have a:sizeOk (.seq ((items.toList.drop (l0 items.size 0 lo)).take (l0 items.size items.size f-l0 items.size 0 lo)).toArray):=by show((items.toList.drop (l0 items.size 0 lo)).take (l0 items.size items.size f-l0 items.size 0 lo)).toArray.size<=sizeLine;rw[q_,Je,Fd,wh];lia
 obtain⟨os,u,j,H⟩:=id C;have l:s.TypeIs (.ref sl) "slice":=⟨os,u,j⟩;unfold getItem
 try with_reducible refine wpAny_holding ?_
 refine d_ (wpAny_sequenceKey i.typeIs (by decide) ?_)
 refine d_ (wpAny_callSpecial?_slot i.typeIs PyProof.Rows.slot_tuple_getitem
  (wpAny_call_entry PyProof.Rows.slot_tuple_getitem i.typeIs entry_tuple_getitem ?_ (args_tuple_getitem _ _)))
 show wpAny _ _ (Builtin.Tuple.tupleItemsOf (.ref t) >>= _) _ _ s;refine d_ (tupleItemsOf_ i ?_);refine d_ (wpAny_typeOf l ?_);refine d_ (mf C L F ?_);have y:¬((((l0 items.size 0 lo:Nat):Int)==0&&(1:Int)==1&&(l0 items.size items.size f-l0 items.size 0 lo)==items.size)=I):=by intro q;rw[Jf,Jf]at q;have P:=eq_of_beq q.1.1;have O:=eq_of_beq q.2;exact M ⟨⋯,⋯⟩
 show wpAny _ _ (if(((l0 items.size 0 lo:Nat):Int)==0&&(1:Int)==1&&(l0 items.size items.size f-l0 items.size 0 lo)==items.size)=I then _ else _) _ _ s;rw[c_ y,zq]
 first
  |exact d_ (m:=Builtin.Tuple.tupleExact _) (wpAny_newObj_type (d_ (il (il ⟨_,rfl,il h⟩))) a)
end
end HT
namespace L2
open PySem.Spec PyProof.Rows
abbrev TO:=St->Hp->(S1->Hp->Prop)->Prop
def PO(X:Cx)(e:Option Expr)(t:TO):Prop :=
 ∀(a:SK)(s:Shared)(Z:St)(H:Hp)(Q:S1->Hp->Prop),Inv X a Z H s->t Z H Q ->
  wpAny (model X.prog X.w) X.A (evalPart e X.env) (λu i=>∃o f,Inv X a Z f i/\IsPart u o/\Q o f) X.xe s
def Ci:TO:=λ_ H Q=>Q Y H
def Kn(t:TE):TO:=λZ H Q=>t Z H λx a=>∃i,x=.int i/\Q (J i) a
def vH:∀{a:SH},aD (ns.map V.int) a->IntsAre a ns:=by
 induction ns with
 |nil=>intro a r;cases r;exact .nil
 |cons n ns f =>
  intro a r
  cases r with
  |cons i j =>
   obtain⟨t,e⟩:=i;subst e;exact .cons n t (f j)
section
variable{X:Cx}{e:Expr}{te:TE}{lo hi:Option Expr}{tl th:TO}{pos p2:Pos}
def Cj:PO X Y Ci:=by intro f s Z H Q a h;rw[evalPart_none];exact il ⟨Y,H,a,.none,h⟩
def Ck(h:PE X e te):PO X (J e) (Kn te):=by intro B s Z H Q a y;refine k_ (h B s Z H _ a y) λu C ⟨x,j,z,f,l⟩=>?_;obtain⟨i,rfl,q⟩:=l;obtain⟨t,rfl⟩:=f;exact⟨J i,j,z,.int i t,q⟩
def Nt(X:Cx)(r:V->S1->S1->Hp->VK->Prop):Prop :=
 ∀(f:SK)(s:Shared)(Z:St)(H:Hp)(x:V)(v i j:Value)(lo hi:S1)(sl:Addr)(Q:VK),Inv X f Z H s->aR x v->s.heap.IsSliceOf sl i j .none->IsPart i lo->IsPart j hi->r x lo hi H Q ->
  ∃a id,typeLookup (.type a) "__getitem__"=pure (J (.builtin id))/\s.TypeIs v a/\wpAny (model X.prog X.w) X.A (getItem v (.ref sl)) (EP X f Z Q) X.xe s
def Sn(r:V->S1->S1->Hp->VK->Prop)(te:TE)(tl th:TO):TE:=λZ H Q=>te Z H λx a=>tl Z a λl f=>th Z f λu i=>r x l u i Q
def Aj(S:Nt X r)(he:PE X e te)(hl:PO X lo tl)(L:PO X hi th):PE X (.Subscript e (.Slice lo hi Y p2) pos) (Sn r te tl th):=by intro f s Z H Q y h;refine Subscript_ (k_ (he f s Z H _ y h) λv s1 ⟨x,M,I1,C,O⟩=>?_);refine wpAny_Slice (k_ (hl f s1 Z M _ I1 O) λi P ⟨l,B,I2,W,E⟩=>k_ (L f P Z B _ I2 E) λj a ⟨u,z,U,F,R⟩=>?_);refine il ?_;have I4:Inv X f Z z { a with heap:=a.heap.push { cls:=.type "slice",data:=.fields #[i,j,.none]}}:=U.kept (t':=a.toks) λb ob q=>n6 _ q;obtain⟨ab,id,hT,G,hg⟩:=S f { a with heap:=a.heap.push { cls:=.type "slice",data:=.fields #[i,j,.none]}} Z z x v i j l u a.heap.objs.size Q I4 C (Heap.IsSliceOf.new ..) W F R;exact tail_any G hT hg (by with_unfolding_all rfl)
def lM(xs:List V)(lo hi:S1):List V:=(xs.drop (HT.l0 xs.length 0 lo)).take (HT.l0 xs.length xs.length hi-HT.l0 xs.length 0 lo)
def lh(xs:List V)(lo hi:S1):(lM xs lo hi).length<=xs.length:=by unfold lM;rw[Je,Fd];lia
def OZ(K:h8):V->S1->S1->Hp->VK->Prop:=λx lo hi H Q=>∃a xs,x=.ref a/\SqT K H a xs /\
 ¬(HT.l0 xs.length 0 lo=0/\HT.l0 xs.length xs.length hi=xs.length)/\∀p,H p=Y->Q (.ref p) (ls H p (.tup (lM xs lo hi)))
def FR:Nt X (OZ X.K):=by
 intro O s Z H x v G M lo hi sl Q i z F C y h;obtain⟨a,xs,rfl,B,E,q⟩:=h;cases z;obtain⟨j,r,l,u⟩:=i.tuple B;have f:j.toArray.size=xs.length:=by exact r.length.symm
 refine⟨"tuple",_,PyProof.Rows.slot_tuple_getitem.lookup,l.typeIs,?_⟩;refine HT.kW l F C y (by rw[f];exact E) ?_ (by rw[f];exact u);rw[f];refine⟨.ref s.heap.objs.size,_,i.laid (t':=s.toks) (λb L q=>n6 _ q) (iv _) ?_,rfl,q _ (i.hok.fresh (iv _))⟩;exact⟨mh (lh xs lo hi) u,_,(r.drop (HT.l0 xs.length 0 lo)).take (HT.l0 xs.length xs.length hi-HT.l0 xs.length 0 lo),ig.new _ _⟩
def Ko(K:h8):R2:=λx y H Q=>∃a b xs ys,x=.ref a/\y=.ref b/\SqT K H a xs/\SqT K H b ys/\xs≠[]/\xs.length+ys.length<=sizeLine /\
 (ys=[]->Q (.ref a) H)/\(ys≠[]->∀p,H p=Y->Q (.ref p) (ls H p (.tup (xs++ys))))
def aD.nil_iff(r:aD xs us):us=[]↔xs=[]:=by
 cases r with
 |nil=>simp
 |cons _ _=>simp
def Cm:OpR X (binaryOp .Add) (Ko X.K):=by intro U s Z H x y v u Q f G C h;obtain⟨a,b,xs,ys,rfl,rfl,P,R,O,l,L,E⟩:=h;cases G;cases C;obtain⟨M,j,F,_⟩:=f.tuple P;obtain⟨B,i,p2,_⟩:=f.tuple R;refine HT.Ch F p2 (λz=>O (j.nil_iff.mp z)) (λz=>⟨.ref a,H,f,rfl,L (i.nil_iff.mp z)⟩) (λz=>?_) (by rw[<-j.length,<-i.length];exact l);refine⟨.ref s.heap.objs.size,_,f.laid (t':=s.toks) (λb S q=>n6 _ q) (iv _) ?_,rfl,E (λw=>z (i.nil_iff.mpr w)) _ (f.hok.fresh (iv _))⟩;exact⟨by rw[zv];exact l,_,j.append i,ig.new _ _⟩
end
def xl(n:Nat)(i:Int):S8:=if 0<=i then(if i<n then J i.toNat else Y)else if -(n:Int)<=i then J (i+n).toNat else Y
def n5{α:Type}(xs:List α)(i:Int):Option α:=(xl xs.length i).bind λj=>xs[j]?
def uD(h:xl n i=J j):seqIndex? i n=J j/\j<n /\ -(n:Int)<=i/\i<n:=by
 unfold xl at h;by_cases f:0<=i
 .rw[b_ f]at h;by_cases a:i<n
  .rw[b_ a]at h;have e:=Option.some.inj h;exact⟨by rw[seqIndex_of f a,e],⋯,⋯,a⟩
  .rw[c_ a]at h;cases h
 .rw[c_ f]at h;by_cases a:-(n:Int)<=i
  .rw[b_ a]at h;have e:=Option.some.inj h;exact⟨by rw[seqIndex_neg ⋯ a,e],⋯,a,⋯⟩
  .rw[c_ a]at h;cases h
def nY(h:n5 xs i=J v):∃j,seqIndex? i xs.length=J j/\xs[j]?=J v/\j<xs.length /\ -(xs.length:Int)<=i/\i<xs.length:=by
 unfold n5 at h
 cases e:xl xs.length i with
 |none=>rw[e]at h;cases h
 |some j =>
  rw[e]at h;obtain⟨u,f,l,a⟩:=uD e;exact⟨j,u,h,f,l,a⟩
def fh{α:Type}{xs:List α}{j:Nat}{v:α}(h:xs[j]?=J v):n5 xs (j:Int)=J v:=by
 have a:=(r_.mp h).1;have e:xl xs.length (j:Int)=J j:=by
  unfold xl
  simp_all
 unfold n5;rw[e];exact h
def kF(b:Expr):Prop:=∀o i,subscripted b T o i=operate [o,i] (getItem o i)
def IxR(X:Cx)(r:R2):Prop :=
 ∀(f a:Expr)(i:SK)(s:Shared)(Z:St)(H:Hp)(x y:V)(v u:Value)(Q:VK),Inv X i Z H s->aR x v->aR y u->r x y H Q ->
  subscripted a T v u=operate [v,u] (getItem v u)->wpAny (model X.prog X.w) X.A (subscriptTail f a v u) (EP X i Z Q) X.xe s
def FS(X:Cx)(id:String)(r:V->List V->Hp->VK->Prop):Prop :=
 ∀(a:SK)(s:Shared)(Z:St)(H:Hp)(x:V)(xs:List V)(v:Value)(f:SH)(Q:VK),Inv X a Z H s->aR x v->aD xs f->r x xs H Q ->
  wpAny (model X.prog X.w) X.A (call (.builtin id) (v::f)) (EP X a Z Q) X.xe s
section
variable{X:Cx}{a b:Expr}{ta tb:TE}{pos:Pos}
def IxR.or(h:IxR X r)(E:IxR X r'):IxR X (λx y H Q=>r x y H Q\/r' x y H Q):=by
 intro f i B s Z H x y v u Q j l z q C;rcases q with q|q
 .exact h f i B s Z H x y v u Q j l z q C
 .exact E f i B s Z H x y v u Q j l z q C
def Kp{r:R2}(B:IxR X r)(C:PE X a ta)(E:PE X b tb)(G:kF b):PE X (.Subscript a b pos) (J_ r ta tb):=by intro F s Z H Q f h;exact Subscript_ (FK C E f h λv u z x y i L l j q=>B a b F z Z i x y v u Q L l j q (G _ _))
def Kq(K:h8):R2:=λx y H Q=>∃p xs i v,x=.ref p/\y=.int i/\SqL K H p xs/\n5 xs i=J v/\Q v H
def Kr(K:h8):R2:=λx y H Q=>∃p xs i v,x=.ref p/\y=.int i/\SqT K H p xs/\n5 xs i=J v/\Q v H
def Ks:R2:=λx y H Q=>∃z i c,x=.str z/\y=.int i/\z.length<=sizeLine/\n5 z.cps.toList i=J c/\Q (.str ⟨#[c]⟩) H
def Co:IxR X (Kq X.K):=by
 intro B L Kh s Z H x y v u Q f S R h M;obtain⟨p,xs,i,z,rfl,rfl,hq,he,q⟩:=h;cases S;obtain⟨t,rfl⟩:=R;obtain⟨E,r,G,hz⟩:=f.list hq;obtain⟨j,l,W,h3,U,h5⟩:=nY he;obtain⟨w,O,C⟩:=r.get W;have hl:=r.length;have hn:=nu;have fin:EP X Kh Z Q w s:=⟨z,H,f,C,q⟩;by_cases P:0<=i
 .have F:i.toNat=j:=by
   rw[seqIndex_of P h5]at l;exact Option.some.inj l
  exact item_listR G.isList P ⋯ (by rw[F];simpa using O) fin M
 .have F:(i+(E.toArray.size:Int)).toNat=j:=by
   rw[seqIndex_neg ⋯ U]at l;rw[q_,<-hl];exact Option.some.inj l
  exact subscriptTail_builtinR G.isList.typeIs slot_list_getitem.lookup
   (wpAny_getItem_list_neg G.isList ⋯ (by rw[q_]<;>lia) ⋯ (by rw[F];simpa using O) ⟨rfl,fin⟩) M
def FT:IxR X (Kr X.K):=by
 intro l C R s Z H x y v u Q f G F h S;obtain⟨p,xs,i,z,rfl,rfl,W,O,q⟩:=h;cases G;obtain⟨t,rfl⟩:=F;obtain⟨L,r,E,hz⟩:=f.tuple W;obtain⟨j,h1,M,h3,h4,h5⟩:=nY O;obtain⟨w,U,B⟩:=r.get M;have P:=r.length;have hn:=nu;have fin:EP X R Z Q w s:=⟨z,H,f,B,q⟩;exact subscriptTail_builtinR E.typeIs slot_tuple_getitem.lookup
  (getItem_tuple E ⋯ ⋯ (by rw[q_,<-P];exact h1) (by simpa using U) ⟨rfl,fin⟩) S
def FU:IxR X Ks:=by
 intro f B Kh s Z H x y v u Q l F E h P;obtain⟨z,i,c,rfl,rfl,S,M,q⟩:=h;obtain⟨t,rfl⟩:=F;obtain⟨W,rfl⟩:=E;obtain⟨j,C,L,h3,G,R⟩:=nY M;have O:z.cps.toList.length=z.length:=by simp[Str.length]
 rw[O]at C G R;have U:=nu
 exact tail_any (typeIs_str s z t) slot_str_getitem.lookup (getItem_str (by
  have e1:decide (i < -(2^63:Int))=T:=decide_eq_false ⋯;have e2:decide (i>=2^63)=T:=decide_eq_false ⋯
  rw[e1,e2,Bool.or_false]) (by rw[C];simpa using L) ⟨.str ⟨#[c]⟩,H,l.tok _,⟨_,rfl⟩,q⟩) P
def So(K:h8):R2:=λx y H Q=>Kq K x y H Q\/Kr K x y H Q\/Ks x y H Q
def FV:IxR X (So X.K):=Co.or (FT.or FU)
def we(f:SH)(n j:Nat)(u:Value):Obj.mapSeq (·.setIfInBounds j u) { cls:=.type "list",data:=.seq f.toArray n}={ cls:=.type "list",data:=.seq (f.set j u).toArray n}:=by simp[Obj.mapSeq]
def Inv.lst{j:SK}{Z:St}{H:Hp}{s:Shared}{p:Addr}{xs:List V}(i:Inv X j Z H s)(h:H p=J (.lst xs)):
  ∃(f:SH) (n:Nat),aD xs f/\s.heap.get? p=J { cls:=.type "list",data:=.seq f.toArray n}/\xs.length<=sizeLine:=by
 obtain⟨z,f,n,r,e⟩:=i.hok p _ h;exact⟨f,n,r,e,z⟩
def Inv.lstUpd{z:SK}{Z:St}{H:Hp}{s:Shared}{p:Addr}{xs ys:List V}{j i:SH}{n l:Nat}{f:Obj->Obj}(y:Inv X z Z H s)(h:H p=J (.lst xs))(C:s.heap.get? p=J { cls:=.type "list",data:=.seq j.toArray n})(hf:f { cls:=.type "list",data:=.seq j.toArray n}={ cls:=.type "list",data:=.seq i.toArray l})(r:aD ys i)(B:ys.length<=sizeLine)(t:Nat):
  Inv X z Z (ls H p (.lst ys)) { s with heap:=s.heap.update p f,toks:=t}:=by
 have e:(s.heap.update p f).get? p=J { cls:=.type "list",data:=.seq i.toArray l}:=by rw[M7 f C (by rw[hf]<;>rfl),hf]
 refine y.write (by rw[h];trivial) (.inl rfl) (λb u E q=>(M6 _ _ (Ne.symm E)).trans q) ⟨_,e⟩ ?_;exact⟨B,i,l,r,e⟩
def Kt:V->V->V->Hp->(Hp->Prop)->Prop:=λo i v H Q=>∃p xs k j,o=.ref p/\i=.int k/\H p=J (.lst xs)/\xl xs.length k=J j/\Q (ls H p (.lst (xs.set j v)))
def Ad:J5 X Kt:=by
 intro Kh s Z H o i v ov W u Q l R O U h;obtain⟨p,xs,k,j,rfl,rfl,F,P,q⟩:=h;cases R;obtain⟨t,rfl⟩:=O;obtain⟨f,n,r,B,S⟩:=l.lst F;obtain⟨y,h2,G,E⟩:=uD P;have C:=r.length;have hn:=nu;have M :=
  l.lstUpd F B (we f n j u) (r.set U j) (by rw[Ox];exact S) s.toks
 by_cases L:0<=k
 .have z:k.toNat=j:=by
   rw[seqIndex_of L E]at y;exact Option.some.inj y
  exact PySem.W.ki_setAt B L ⋯ (by rw[q_,<-C];exact E) (by rw[z];exact⟨_,M,q⟩)
 .have z:(k+(f.toArray.size:Int)).toNat=j:=by
   rw[seqIndex_neg ⋯ G]at y;rw[q_,<-C];exact Option.some.inj y
  exact PySem.W.ki_setBack B ⋯ (by rw[q_,<-C];exact G) ⋯ (by rw[z];exact⟨_,M,q⟩)
def rR(lo f:S1)(n:Nat):(sliceBounds lo f Y n).1=((HT.l0 n 0 lo:Nat):Int)/\(sliceBounds lo f Y n).2.1=((HT.l0 n n f:Nat):Int)/\(sliceBounds lo f Y n).2.2=1:=by
 refine⟨?_,?_,rfl⟩
 .cases lo with
  |none=>simp[sliceBounds,HT.l0]
  |some i =>
   simp only[sliceBounds,HT.l0,Option.getD_none,show(1:Int)>0 by decide,if_true];by_cases h:i<0
   .simp only[h,if_true]<;>lia
   .simp only[h,if_false]<;>lia
 .cases f with
  |none=>simp[sliceBounds,HT.l0]
  |some i =>
   simp only[sliceBounds,HT.l0,Option.getD_none,show(1:Int)>0 by decide,if_true];by_cases h:i<0
   .simp only[h,if_true]<;>lia
   .simp only[h,if_false]<;>lia
def qh(f:SH)(lo i:S1):slicePick f.toArray lo i Y=((f.drop (HT.l0 f.length 0 lo)).take (HT.l0 f.length f.length i-HT.l0 f.length 0 lo)).toArray:=by obtain⟨u,j,l⟩:=rR lo i f.toArray.size;unfold slicePick;rw[u,j,l];simp only[sliceRange_one,pick_run]<;>rfl
def O0(K:h8):V->S1->S1->Hp->VK->Prop:=λx lo f H Q=>∃a xs,x=.ref a/\SqL K H a xs/\∀p,H p=Y->Q (.ref p) (ls H p (.lst (lM xs lo f)))
def uG:Nt X (O0 X.K):=by intro O s Z H x v G M lo l sl Q f y F C u h;obtain⟨a,xs,rfl,B,q⟩:=h;cases y;obtain⟨z,r,j,E⟩:=f.list B;have i:=r.length;refine⟨"list",_,slot_list_getitem.lookup,j.isList.typeIs,?_⟩;refine wpAny_getItem_list_slice j.isList F C u .none (by simp) ?_ (by rw[q_]<;>lia);rw[qh,<-i];refine⟨.ref s.heap.objs.size,_,f.laid (t':=s.toks) (λb L q=>n6 _ q) (iv _) ?_,rfl,q _ (f.hok.fresh (iv _))⟩;exact⟨mh (lh xs lo l) E,_,0,(r.drop (HT.l0 xs.length 0 lo)).take (HT.l0 xs.length xs.length l-HT.l0 xs.length 0 lo),yM _ rfl⟩
def rC:bK X (.type "list") (λxs H Q=>∃p ys,xs=[.ref p]/\(SqL X.K H p ys\/SqT X.K H p ys)/\∀l,H l=Y->Q (.ref l) (ls H l (.lst ys))):=by
 intro P s Z H xs R Q i r h;obtain⟨p,ys,rfl,E,q⟩:=h;obtain⟨u,rfl,O⟩:=c6 r;cases O;have fin:∀(f:SH),aD ys f->ys.length<=sizeLine->∀(j:Heap)(z:Nat),(∀b M,s.heap.get? b=J M->j.get? b=J M) ->
   j.get? s.heap.objs.size=J { cls:=.type "list",dict:=Y,data:=.seq f.toArray z,slots:=#[]}->EP X P Z Q (.ref s.heap.objs.size) { s with heap:=j}:=λf y B j z kp e =>
  ⟨.ref s.heap.objs.size,_,i.laid (t':=s.toks) kp (iv _) (show ObjOk X.prog X.w _ j _ (.lst ys) from⟨B,f,z,y,e⟩),rfl,q _ (i.hok.fresh (iv _))⟩
 rcases E with E|E
 .obtain⟨f,y,G,B⟩:=i.list E;have C:=y.length;obtain⟨o,L,F,n,hd⟩:=G.isList;exact call_list_seq p (.inl rfl) L F hd (λj z kp e=>fin f y B j z kp e) (by simp only[q_]<;>lia)
 .obtain⟨f,y,G,B⟩:=i.tuple E;have C:=y.length;obtain⟨o,L,F,n,hd⟩:=G;exact call_list_seq p (.inr rfl) L F hd (λj z kp e=>fin f y B j z kp e) (by simp only[q_]<;>lia)
def jF:bK X (.type "tuple") (λxs H Q=>∃p ys,xs=[.ref p]/\((SqL X.K H p ys/\∀l,H l=Y->Q (.ref l) (ls H l (.tup ys)))\/(SqT X.K H p ys/\Q (.ref p) H))):=by
 intro O s Z H xs M Q f r h;obtain⟨p,ys,rfl,h⟩:=h;obtain⟨u,rfl,F⟩:=c6 r;cases F;rcases h with⟨z,q⟩|⟨z,q⟩
 .obtain⟨i,j,y,B⟩:=f.list z;have E:=j.length;refine call_tuple_list y.isList (λG kp=>?_) (by simp only[q_]<;>lia);have C:=f.kept (t':=s.toks) kp;have L :=
   C.laid (t':=s.toks) (λb o e=>n6 _ e) (iv _) (show ObjOk X.prog X.w _ _ _ (.tup ys) from⟨B,i,j,ig.new _ _⟩)
  exact⟨.ref G.objs.size,_,L,rfl,q _ (C.hok.fresh (iv _))⟩
 .obtain⟨i,j,y,B⟩:=f.tuple z;exact call_tuple_same y ⟨.ref p,H,f,rfl,q⟩
def O3(K:h8)(f:String)(x:V)(H:Hp):Prop:=match x with
 |.str _=>f="str"
 |.int _=>f="int"
 |.ref p=>(f="list"/\∃xs,SqL K H p xs)\/(f="tuple"/\∃o,K.lookup p=J o/\o.cls=.type "tuple"/\o.dict=Y) \/
   (f="dict"/\((∃i,H p=J (.dK i))\/∃i,H p=J (.dT i)))\/(f="set"/\∃S n,H p=J (.set S n))
 |_=>False
def FW{F:SK}{Z:St}{H:Hp}{s:Shared}{l:String}{x:V}{v:Value}(f:Inv X F Z H s)(r:aR x v)(ty:O3 X.K l x H):
  s.TypeIs v l/\∀a,v=.ref a->∃y,s.heap.get? a=J y/\y.dict=Y:=by
 cases x with
 |str z =>
  obtain⟨t,rfl⟩:=r;cases(ty);exact⟨typeIs_str s z t,λ_ e=>nomatch e⟩
 |int i =>
  obtain⟨t,rfl⟩:=r;cases(ty);exact⟨typeIs_int s i t,λ_ e=>nomatch e⟩
 |ref p =>
  cases r;rcases ty with⟨rfl,xs,G⟩|⟨rfl,o,j,E,hd⟩|⟨rfl,j⟩|⟨rfl,S,n,j⟩
  .obtain⟨C,_,B,_⟩:=f.list G;refine⟨B.isList.typeIs,λa e=>?_⟩;cases e;obtain⟨o,n,e,c,hd,_⟩:=B;exact⟨o,e,hd⟩
  .refine⟨⟨o,f.kIn p o j,E⟩,λa e=>?_⟩;cases e;exact⟨o,f.kIn _ o j,hd⟩
  .have z:∃o,s.heap.get? p=J o/\o.ExactDict:=by
    rcases j with⟨u,j⟩|⟨u,j⟩
    .obtain⟨_,_,_,_,o,_,_,e,ex,_⟩:=f.hok p _ j;exact⟨o,e,ex⟩
    .obtain⟨_,_,_,_,o,_,_,e,ex,_⟩:=f.hok p _ j;exact⟨o,e,ex⟩
   obtain⟨o,e,ex⟩:=z;refine⟨⟨o,e,ex.1⟩,λa e2=>?_⟩;cases e2;exact⟨o,e,ex.2.1⟩
  .obtain⟨o,_,_,_,e,ex,_⟩:=f.hok p _ j;refine⟨⟨o,e,ex.1⟩,λa e2=>?_⟩;cases e2;exact⟨o,e,ex.2.1⟩
 |_=>exact False.elim ty
def Sq(K:h8)(f:String)(r:V->List V->Hp->VK->Prop)(to:TE)(t:TA):TE:=λZ H Q=>to Z H λx i=>O3 K f x i/\t Z i λxs j=>r x xs j Q
variable{o e:Expr}{es:S3}{to:TE}{t:TA}{name:Str}{apos cpos:Pos}{T id:String}{r:V->List V->Hp->VK->Prop}
def Ku(R:PlainAttrs T)(slot:Slot T name id)(z:typeOf (.builtin id)=pure (.type "method_descriptor"))(L:FS X id r)(ho:PE X o to)(ha:PA X (e::es) t)(i:attributeBase o name X.env (eval o X.env)=eval o X.env:=by rfl)(l:((backTo cpos (starEach (e::es) X.env)).all (λx=>!x.1)&&(backToKw cpos (keywordEach [] X.env)).all (λx=>x.1.isSome)
   && decide ((e::es).length+([]:List Keyword).length+(if([]:List Keyword).isEmpty then 0 else 1)<30))=I:=by rfl)(j:(apos.endLine==cpos.line)=I:=by rfl)(hs:starEach (e::es) X.env=(false,eval e X.env)::starEach es X.env:=by rfl)(f:(backTo cpos (starEach es X.env)).any (·.1)=false:=by rfl):
  PE X (.Call (.Attribute o name apos) (e::es) [] cpos) (Sq X.K T r to t):=by
 intro y s Z H Q u h;refine wpAny_Call_method_late i l j rfl (k_ (ho y s Z H _ u h) λv s1 ⟨x,O,C,B,ty,P⟩=>?_);obtain⟨h1,W⟩:=FW C B ty;refine⟨T,id,R,slot,z,h1,W,?_⟩;have E:=ha cpos y s1 Z O _ C P;rw[hs]at E ⊢;refine Calls.callWith_builtin (by show(false||(backTo cpos (starEach es X.env)).any (·.1))=false;rw[f]<;>rfl) (Calls.evalArgs_plain ?_);exact k_ E λus S ⟨M,F,U,r2,G⟩=>L y S Z F x M v us Q U B r2 G
end
def O4(X:Cx)(id:String)(r:V->List V->Hp->VK->Prop):Prop :=
 ∀(a:SK)(s:Shared)(Z:St)(H:Hp)(x:V)(xs:List V)(v:Value)(f:SH)(Q:VK),Inv X a Z H s->aR x v->aD xs f->r x xs H Q ->
  wpAny (model X.prog X.w) X.A (call (.builtin id) (v::f)) (EP X a Z Q) X.xe s
def aD.zero(h:aD [] us):us=[]:=by cases h;rfl
def aD.one(h:aD [x] us):∃u,us=[u]/\aR x u:=by cases h with|cons r t=>exact⟨_,by rw[aD.zero t],r⟩
def aD.eraseIdx(i:Nat)(r:aD xs us):aD (xs.eraseIdx i) (us.eraseIdx i):=by
 induction r generalizing i with
 |nil=>exact .nil
 |cons a t f =>
  cases i with
  |zero=>exact t
  |succ i=>exact .cons a (f i)
def aD.rep(h:aD xs us):∀k:Nat,aD (List.replicate k xs).flatten (List.replicate k us).flatten
 |0=>.nil
 |k+1=>by
  exact aD.append h (aD.rep h k)
def pR{α:Type}:∀(l:List α)(i:Nat),(l.eraseIdx i).length<=l.length
 |[],_=>iv _
 |_::_,0=>B4 _
 |_::r,i+1=>Fe (pR r i)
def pC(a:SH):∀(k:Nat)(f:SH),
  List.foldl (λj i=>j++i) f.toArray (List.replicate k a.toArray)=(f++(List.replicate k a).flatten).toArray
 |0,f=>by simp
 |k+1,f=>by
  have e:f.toArray++a.toArray=(f++a).toArray:=by simp
  have e2:(f++a)++(List.replicate k a).flatten=f++(List.replicate (k+1) a).flatten:=by rw[List.replicate_succ,List.flatten_cons,BU]
  rw[<-e2,<-pC a k (f++a),<-e,List.replicate_succ,JV]
section
variable{X:Cx}{Kh:List (Addr × Obj)}{Z:St}{H:Hp}{s:Shared}{l b:Addr}{xs ys zs:List V}
def Inv.lset{a its':SH}{n:Nat}{f:Array Value->Array Value}{z:Nat}(i:Inv X Kh Z H s)(j:H l=J (.lst xs))(e:s.heap.get? l=J { cls:=.type "list",data:=.seq a.toArray n})(hf:f a.toArray=its'.toArray)(hv:aD ys its')(C:ys.length<=sizeLine):
  Inv X Kh Z (ls H l (.lst ys)) { s with heap:=s.heap.update l (Obj.mapSeq f),toks:=z}:=by
 have q:=PySem.IsL.update e f;rw[hf]at q;refine i.write (x:=l) (e:=l) (by rw[j];exact trivial) (.inl rfl) (λE u y B=>(M6 s.heap (Obj.mapSeq f) (Ne.symm y)).trans B) ⟨_,q⟩ ?_;exact⟨C,its',_,hv,q⟩
def Inv.lnew(a:Inv X Kh Z H s)(hv:aD ys its)(f:ys.length<=sizeLine):
  Inv X Kh Z (ls H s.heap.objs.size (.lst ys)) { s with heap:=s.heap.push { cls:=.type "list",data:=.seq its.toArray},toks:=t'} :=
 a.laid (λ_ _ q=>n6 _ q) (iv _) ⟨f,its,0,hv,yM _ rfl⟩
def Inv.fresh(a:Inv X Kh Z H s):H s.heap.objs.size=Y:=a.hok.fresh (iv _)
def Inv.lstM(f:Inv X Kh Z H s)(i:H l=J (.lst xs)):xs.length<=sizeLine/\∃(a:SH) (n:Nat),aD xs a/\xs.length=a.length/\s.heap.get? l=J { cls:=.type "list",data:=.seq a.toArray n}:=by obtain⟨z,a,n,r,e⟩:=f.hok l _ i;exact⟨z,a,n,r,r.length,e⟩
def lF(h:n<=sizeLine):Builtin.List.listTooLong n=T:=by unfold Builtin.List.listTooLong;exact decide_eq_false ⋯
end
section
variable{X:Cx}
def Cp:V->List V->Hp->VK->Prop:=λx a H Q=>∃l xs y,x=.ref l/\a=[y]/\H l=J (.lst xs)/\xs.length<sizeLine/\Q .non (ls H l (.lst (xs++[y])))
def pq:O4 X "list.append" Cp:=by
 intro O s Z H x E v L Q f j C h;obtain⟨l,xs,y,rfl,rfl,i,G,q⟩:=h;cases j;obtain⟨u,rfl,B⟩:=C.one;obtain⟨z,a,n,r,M,e⟩:=f.lstM i;refine call_meets F.slot_list_append ⟨_,e,rfl⟩ F.entry_list_append (F.args_list_append_2 _ _) (PySem.list_append l a.toArray n u (by rw[q_];lia)) ⟨e,?_⟩;refine⟨.non,_,f.lset (its':=a++[u]) i e (by simp) (r.append (.cons B .nil)) ?_,rfl,q⟩
 grind
def Cq:V->List V->Hp->VK->Prop:=λx f H Q=>∃l b xs a,x=.ref l/\f=[.ref b]/\H l=J (.lst xs)/\H b=J (.lst a)/\xs.length+a.length<=sizeLine/\Q .non (ls H l (.lst (xs++a)))
def xu:O4 X "list.extend" Cq:=by
 intro Kh s Z H x S v W Q j C M h;obtain⟨l,b,xs,zs,rfl,rfl,B,G,U,q⟩:=h;cases C;obtain⟨u,rfl,E⟩:=M.one;cases E;obtain⟨z,f,n,r,hl,e⟩:=j.lstM B;obtain⟨R,a,O,L,P,e2⟩:=j.lstM G;have y:f.toArray.size+a.toArray.size<=sizeLine:=by rw[q_,q_];lia
 have i:¬(!f.toArray.isEmpty&&Builtin.List.listTooLong (f.toArray.size+a.toArray.size))=I:=by rw[lF y,Oy];exact JN
 refine call_meets F.slot_list_extend ⟨_,e,rfl⟩ F.entry_list_extend (F.args_list_extend_2 _ _)
  (AutoSeq1.list_extend_list_list_0 l f.toArray n b a.toArray O i (by rw[q_];lia) ⋯) ⟨e,e2,?_⟩
 refine⟨.non,_,j.lset (its':=f++a) B e (by simp) (r.append L) ?_,rfl,q⟩;rw[zv];lia
def FX:V->List V->Hp->VK->Prop:=λx a H Q=>∃l xs i k y,x=.ref l/\a=[.int i]/\H l=J (.lst xs) /\ -(2^63)<=i/\i<2^63/\seqIndex? i xs.length=J k/\xs[k]?=J y/\Q y (ls H l (.lst (xs.eraseIdx k)))
def zS:O4 X "list.pop" FX:=by
 intro Kh s Z H x U v W Q f C R h;obtain⟨l,xs,i,k,y,rfl,rfl,B,S,O,L,G,q⟩:=h;cases C;obtain⟨u,rfl,E⟩:=R.one;obtain⟨t,rfl⟩:=E;obtain⟨z,a,n,r,P,e⟩:=f.lstM B;obtain⟨w,M,j⟩:=r.get G;refine call_meets F.slot_list_pop ⟨_,e,rfl⟩ F.entry_list_pop (F.args_list_pop_2 _ _)
  (MeetsSeq.list_pop_at l a.toArray n i t k w (fitsIndex_both S O) (by rw[q_,<-P];exact L) (by rw[<-v_];exact M) (by rw[q_];lia)) ⟨e,?_⟩
 refine⟨y,_,f.lset (its':=a.eraseIdx k) B e ?_ (r.eraseIdx k) ?_,j,q⟩
 .simp_all
 .have:=pR xs k
  lia
def O5:R2:=λx y H Q=>∃l b xs a,x=.ref l/\y=.ref b/\H l=J (.lst xs)/\H b=J (.lst a)/\xs.length+a.length<=sizeLine/\∀p,H p=Y->Q (.ref p) (ls H p (.lst (xs++a)))
def FY:OpR X (binaryOp .Add) O5:=by
 intro S s Z H x y v u Q a B j h;obtain⟨l,b,xs,R,rfl,rfl,E,C,O,q⟩:=h;cases B;cases j;obtain⟨z,i,n,r,P,e⟩:=a.lstM E;obtain⟨M,f,U,F,L,e2⟩:=a.lstM C;refine PySem.P.add_list e e2 ?_ (by rw[q_,q_];lia);have G:i.toArray++f.toArray=(i++f).toArray:=by simp
 rw[G];exact⟨.ref _,_,a.lnew (t':=s.toks) (r.append F) (by rw[zv];lia),rfl,q _ a.fresh⟩
def O6:R2:=λx y H Q=>∃l k xs,x=.ref l/\y=.int k/\H l=J (.lst xs) /\ -(2^63)<=k/\k<2^63/\xs.length*k.toNat<=sizeLine /\
 ∀p,H p=Y->Q (.ref p) (ls H p (.lst (List.replicate k.toNat xs).flatten))
def uU{α:Type}(xs:List α)(k:Nat):(List.replicate k xs).flatten.length=k*xs.length:=by simp
def FZ:OpR X (binaryOp .Mult) O6:=by
 intro Kh s Z H x y v u Q j S P h;obtain⟨l,k,xs,rfl,rfl,U,h1,W,O,q⟩:=h;cases S;obtain⟨t,rfl⟩:=P;obtain⟨z,f,n,r,hl,e⟩:=j.lstM U;have G:f.toArray.size*k.toNat<=sizeLine:=by rw[q_,<-hl];exact O
 have B:¬f.toArray.size*k.toNat>(2^63-1)/8:=by
  have:(sizeLine:Nat)<=(2^63-1)/8:=by decide
  lia
 have C:¬(!Builtin.List.listFitsIndex k)=I:=by rw[fitsIndex_both h1 W];exact JN
 have i:¬Builtin.List.listTooLong (f.toArray.size*k.toNat)=I:=by rw[lF G];exact JN
 have E:List.foldl (λL M=>L++M) #[] (List.replicate (if f.toArray.isEmpty=I then 0 else k.toNat) f.toArray)=(List.replicate k.toNat f).flatten.toArray:=by
  have R:∀m:Nat,List.foldl (λL M=>L++M) #[] (List.replicate m f.toArray)=(List.replicate m f).flatten.toArray:=λm=>by
   have:=pC f m []
   exact this
  rw[R]
  cases f with
  |nil=>simp
  |cons a r'=>rw[c_ (by simp)]
 refine wpAny_binaryOp_repeat_ref (by decide) ⟨_,e,rfl⟩ (λs'=>typeIs_int s' k t) noFill_list_mul F.fills_int_mul F.slot_int_rmul repeat_list F.slot_int_index.lookup
  (call_meets F.slot_int_rmul (typeIs_int s k t) F.entry_int_rmul (F.args_int_rmul_2 _ _) (int___rmul___int_list k t l f.toArray n)
   ⟨e,rfl,⟨_,e,rfl⟩,call_meets F.slot_list_mul ⟨_,e,rfl⟩ F.entry_list_mul (F.args_list_mul_2 _ _) (AutoListH.list___mul___list_int_3 l f.toArray n k t C B i) ⟨e,?_⟩⟩)
 rw[E];exact⟨.ref _,_,j.lnew (t':=s.toks) (r.rep k.toNat) (by rw[uU,Nat.mul_comm];exact O),rfl,q _ j.fresh⟩
end
section
variable{prog:Program}{w:World}{A:Around}{E:S5}{s:Shared}
end
section
variable{X:Cx}
end
end L2
namespace Att
open PySem.W PySem.Calls PyProof.Rows
def mF:∀(ns:SS)(f:SH),WellAll P h f (ns.map WData.int)->IntsAre f ns:=by
 intro ns
 induction ns with
 |nil =>
  intro f w;rw[Au]at w;cases w;exact .nil
 |cons n ns i =>
  intro f w;rw[mO]at w
  cases w with
  |cons a b =>
   cases a;exact .cons _ _ (i _ b)
def xE{l:OpenLaw}{n:Nat}(M:l.most=J n){P:Params}{h:Heap}{f:List WData}{j:SH}(i:l.row.toRowW.claim.pre f=I)(C:WellAll P h j f):
  ∃a E ns,j=[Value.ref a]/\f=[WData.list (ns.map WData.int)]/\h.get? a=J { cls:=.type "list",data:=.seq E.toArray}/\IntsAre E ns/\ns.length<=n:=by
 have B:=(pre_splitW i).1;have F:=(pre_splitW i).2;obtain⟨d,r,rfl,R,G⟩:=hasAllW_cons B;obtain rfl:=hasAllW_nil G;obtain⟨xs,rfl,O⟩:=hasW_list R;obtain⟨ns,rfl⟩:=items_int O;have y:ns.length<=n:=by
  have z:(WTm.not (.lt (.lit (.int (n:Int))) (.len (.arg 0)))).holds [] { args:=[.list (ns.map .int)]}=I:=by have z:=(holds_andW F).1;rw[M]at z;exact z
  have S:=condW_of z (w_not (w_lt w_lit (w_len_list (w_arg rfl))))
  simp_all
 cases C with
 |cons Q H =>
  cases H
  cases Q with
  |list L u=>exact⟨_,_,ns,rfl,rfl,L,mF ns _ u,y⟩
def w8(l:OpenLaw)(a:List WData):l.row.toRowW.claim.post a (.bool I) a=I :=
 postW_of
  (show WShape.has [] (.bool I) .bool=I by first | rfl | decide | simp)
  (w_eq_bool (w_res rfl) w_lit) rfl
def sU{l:OpenLaw}{n:Nat}{q:Program}{loose:SQ}{XP:(Str->S0)->Heap->Prop}{R:World->Heap->Prop}{d:DefRec}(hn:l.most=J n)(Q:d.params.defaults=[])(call:∀(w:World)(s₀ i:Shared)(mg mb:S6)(B:Addr)(o:Obj)(pm F j:Value)(a:Addr)(y:SH)(ns:SS),
   Ground q loose [] XP w s₀ mg mb i.heap->R w i.heap ->
   i.heap.get? B=J o->o.data=.func (docDef d.name d.params d.body d.scope pm F j)->i.heap.CodeRec F d.name->mg d.name=J (.ref B) ->
   i.heap.get? a=J { cls:=.type "list",data:=.seq y.toArray}->IntsAre y ns->ns.length<=n->i.gens=#[] ->
   codeAny (model l.prog w) callerA (.call (.ref B) ⟨[.ref a],[]⟩) (λr H=>r=.ok (.ret (.bool I))/\OldK i.heap H.heap/\H.os=i.os/\AllBare H.gens) i):
  WalkO q loose XP R l.row.toRowW d [] (λf y=>PySem.call f y):=by
 intro w s₀ i mg mb G M B o pm F j dV kV ho hd O X L hg S W as C U ab P al;obtain rfl:=Dflts.none X Q;obtain rfl:=Dflts.noKw X;obtain⟨a,y,ns,rfl,rfl,z,u,E⟩:=xE hn C P;refine enter_call (codeAny_mono (call w s₀ i mg mb B o pm F j a y ns G M ho (fd_plain hd) O L z u E hg) λr H hq=>?_);obtain⟨rfl,h2,h3,h4⟩:=hq;exact⟨.inl ⟨.bool I,.bool I,[],rfl,λ_=>rfl,.bool I,w8 l _,λ_=>⟨List.Pairwise.nil,λ_ Z=>(nomatch Z)⟩⟩,h2,h3,h4⟩
section
variable{prog:Program}{w:World}{A:Around}{E:S5}{s:Shared}{K:Frag}
end
end Att
namespace L2
open PySem.Spec PyProof.Rows
def pQ:∀{a:SH}{ns:SS},IntsAre a ns->aD (ns.map V.int) a
 |_,_,.nil=>.nil
 |_,_,.cons n t h=>.cons ⟨t,rfl⟩ (pQ h)
def F0(H:Hp):Prop:=∀b,H b=Y\/∃o xs,H b=J (.frz o (.lst xs))
def yJ{P:Program}{w:World}{K:h8}{mg mb:S6}{CX:Bm}{k:Nat}{fa a:Addr}{fd:FuncData}{x:Str}{sp:Sp}{f:Shared}{C:SH}{ns:SS}(KX:K.In f.heap)(U:f.heap.Ns mainGlobals mg)(j:f.heap.Ns builtinsNs mb)(Z:∀x:Str,x≠"__name__"->mb x=bootBuiltins x)(S:f.heap.NoLimit)(hg:f.gens=#[])(W:f.heap.get? a=J { cls:=.type "list",data:=.seq C.toArray})(hi:IntsAre C ns)(hl:ns.length<=sizeLine)(hr:Room k callerA)(F:∀base:Heap,K.In base->base.Ns mainGlobals mg->FnOk P w K mg base CX k fa fd [x] sp)(E:∀(s:Shared) (u:Value),BindsTo s fd ⟨[u],[]⟩ [(x,u)])(al:∀H:Hp,F0 H->SqL K H a (ns.map V.int)->sp [.ref a] H (λv _=>v=.bl I) λ_ _ _=>False)(ab:∀H e l,CX [] H f (λ_ _ _=>False) e l->False):
  codeAny (model P w) callerA (.call (.ref fa) ⟨[.ref a],[]⟩) (λr l=>r=.ok (.ret (.bool I))/\OldK f.heap l.heap/\l.os=f.os/\AllBare l.gens) f:=by
 have rv:=pQ hi;have M:=hi.length;have B:∀H:Hp,F0 H->SqL K H a (ns.map V.int)->HOk P w H f.heap->(∀b,H b≠Y->b=a)->(H a≠Y->K.lookup a=Y) ->
   codeAny (model P w) callerA (.call (.ref fa) ⟨[.ref a],[]⟩) (λr l=>r=.ok (.ret (.bool I))/\OldK f.heap l.heap/\l.os=f.os/\AllBare l.gens) f:=by
  intro H hO hS hok hA hK;have i:∀{b:Addr}{o:Obj},f.heap.get? b=J o->H b=Y->(jy f.heap H).get? b=J o:=λe n=>zY e n;have X:∀{b:Addr}{o:Obj}{L:Array DictEntry}{O:Nat},f.heap.get? b=J o->o.data=.dict L O->H b=Y:=λ{b o L O} e d=>by
   cases q:H b with
   |none=>rfl
   |some u =>
    have e':b=a:=hA b (by rw[q];simp);subst e';rw[W]at e;cases e;have d':Data.seq C.toArray _=Data.dict L O:=d;cases d'
  have y:∀{b:Addr}{m:S6},f.heap.Ns b m->(jy f.heap H).Ns b m:=λ{b m} ⟨o,L,O,e,d,r⟩=>⟨o,L,O,i e (X e d),d,r⟩
  have R:K.In (jy f.heap H):=λb o e=>i (KX b o e) (by
   cases q:H b with
   |none=>rfl
   |some u =>
    have e':b=a:=hA b (by rw[q];simp);subst e'
    rw[hK (by rw[q];simp)]at e;cases e)
  have hM:Mod K mg (jy f.heap H):=⟨R,y U,⟨mb,y j,Z⟩,let⟨mc,h1,h2⟩:=S;⟨mc,y h1,h2⟩⟩;have e0:Cg P w K mg (jy f.heap H) callerA [] f H:=⟨rfl,hM,λb o e=>B5 e,Nk (w5 _ _),trivial,λb j=>absurd (show b∈([]:SX)from j) (by simp),hok,.of_eq hg⟩;refine codeAny_mono ((F _ R (y U)).run callerA [] f H ⟨[.ref a],[]⟩ [.ref a] [.ref a] _ _ hr e0 (E f (.ref a)) (.cons rfl .nil) (al H hO hS)) λr l h=>?_
  cases r with
  |error e=>exact(ab H e l h).elim
  |ok fl =>
   cases fl with
   |next=>exact False.elim h
   |brk=>exact False.elim h
   |cont=>exact False.elim h
   |ret u =>
    obtain⟨v,H',os,bare,un,G,r',q⟩:=h;have q':v=.bl I:=q;subst q';obtain rfl:u=Value.bool I:=r';refine⟨rfl,OldK.of_keep λb o e=>?_,os,bare⟩
    cases q:H b with
    |none=>exact un.keep b o e q (by intro z;exact absurd (show b∈([]:SX)from z) (by simp)) (by simp)
    |some u =>
     rcases hO b with z|⟨ob,xs,z⟩
     .rw[q]at z;cases z
     .have z2:=un.frzs b ob _ z;obtain⟨e1,_⟩:=hok b _ z;obtain⟨e2,_⟩:=G b _ z2;rw[e]at e1;cases e1;exact e2
 cases hk:K.lookup a with
 |some o =>
  have e:=KX a o hk;rw[W]at e;cases e;refine B (λ_=>Y) (λ_=>.inl rfl) (.inr ⟨_,C.toArray,_,hk,rfl,rfl,rfl,by rw[q_,M];exact hl,by simpa using rv⟩) (λb u z=>by have Q:(Y:Option HO)=J u:=z;cases Q) (λb z=>absurd rfl z) λz=>absurd rfl z
 |none =>
  refine B (λb=>if b=a then J (.frz { cls:=.type "list",data:=.seq C.toArray} (.lst (ns.map V.int)))else Y) (λb=>?_) (.inl (.inr ⟨{ cls:=.type "list",data:=.seq C.toArray},b_ rfl⟩)) (λb u z=>?_) (λb z=>?_) λ_=>hk
  .by_cases j:b=a
   .exact .inr ⟨_,_,b_ j⟩
   .exact .inl (c_ j)
  .by_cases j:b=a
   .have Q:=(b_ j).symm.trans z;cases Q;subst j;exact⟨W,by rw[oh];exact hl,C,_,rv,W⟩
   .have Q:=(c_ j).symm.trans z;cases Q
  .by_cases j:b=a
   .exact j
   .exact absurd (c_ j) z
abbrev p_{K:h8}{h:Heap}(_:K.In h):h8:=K
def Cr{l:PySem.W.OpenLaw}{n k:Nat}{q:Program}{loose:SQ}{XP:(Str->S0)->Heap->Prop}{R:World->Heap->Prop}{d:DefRec}{K:Params->h8}{CX:World->Bm}{sp:World->Sp}{x:Str}(hn:l.most=J n)(C:n<=sizeLine)(Q:d.params.defaults=[])(Z:Room k callerA)(W:∀(w:World)(h:Heap),R w h->(K w.params).In h)(F:∀(w:World)(mg:S6)(B:Addr)(h:Heap),(K w.params).In h->h.Ns mainGlobals mg->mg d.name=J (.ref B) ->
   ∃fd:FuncData,(∀(s:Shared)(u:Value),BindsTo s fd ⟨[u],[]⟩ [(x,u)]) /\
    ∀base:Heap,(K w.params).In base->base.Ns mainGlobals mg->FnOk l.prog w (K w.params) mg base (CX w) k B fd [x] (sp w))(O:∀(w:World)(H:Hp)(a:Addr)(ns:SS),ns.length<=n->F0 H->SqL (K w.params) H a (ns.map V.int)->sp w [.ref a] H (λv _=>v=.bl I) λ_ _ _=>False)(L:∀(w:World)(H:Hp)(s:Shared)(e:Value)(P:Shared),CX w [] H s (λ_ _ _=>False) e P->False):
  PySem.W.WalkO q loose XP R l.row.toRowW d [] (λf S=>PySem.call f S):=by
 refine Att.sU hn Q λw s₀ z mg mb B o pm cd X a S ns G M ho hd ab E y j i hg=>?_;have U:=W w _ M;obtain⟨fd,hb,hF⟩:=F w mg B _ U G.T.g E;exact yJ U G.T.g G.T.b G.T.builtins G.T.nolimit hg y j (mh i C) Z hF hb (λH hO hS=>O w H a ns i hO hS) λH e P=>L w H z e P
def gQ(s:Stmt):Arguments:=match s with
 |.FunctionDef _ a _ _ _ _ _ _ _ _=>a
 |_=>{ posonlyargs:=[],args:=[],vararg:=Y,kwonlyargs:=[],kw_defaults:=[],kwarg:=Y,defaults:=[]}
def aJ(s:Stmt):S9:=match s with
 |.FunctionDef _ _ b _ _ _ _ _ _ _=>b
 |_=>[]
def ah(s:Stmt):Scope:=match s with
 |.FunctionDef _ _ _ _ _ _ a _ _ _=>a
 |_=>{ kind:=.function,names:=[],isGenerator:=T,isCoroutine:=T}
structure Fun(K:h8)(x qual:Str)(st:Stmt)(f:Addr)(fd:FuncData):Prop where
 ex:∃(oc:Value)(od:TL)(kV doc pm:Value)(an:TL)(cdv ct:Value)(osl:Array (S0)),
  fd=PySem.W.fnOf x qual (gQ st) (aJ st) (ah st) .none kV doc pm an cdv ct/\K.lookup f=J ⟨oc,od,.func fd,osl⟩/\PySem.W.codeIn K cdv qual=I
 kp:PySem.W.keepIn K (.ref f)=I
section
variable{P:Program}{w:World}{K:h8}{mg:S6}{base:Heap}
def Fun.binds{x a:Str}{st:Stmt}{f:Addr}{fd:FuncData}{y:SQ}(F:Fun K x a st f fd)(h:∀(kV i pm:Value)(l:TL)(j ct:Value)(u:SH),u.length=y.length->bindArgs (PySem.W.fnOf x a (gQ st) (aJ st) (ah st) .none kV i pm l j ct) ⟨u,[]⟩=pure (y.zip u)):mL K fd y []:=by
 obtain⟨E,G,kV,i,pm,l,j,ct,B,rfl,C,z⟩:=F.ex;exact .all (h kV i pm l j ct)
def F1{x a:Str}{st:Stmt}{f:Addr}{B:Value}{z y:TL}{u:Array (S0)}{kV j pm i ct:Value}(l:K.lookup f=J ⟨B,z,.func (PySem.W.fnOf x a (gQ st) (aJ st) (ah st) .none kV j pm y i ct),u⟩)(c:PySem.W.codeIn K i a=I)(k:PySem.W.keepIn K (.ref f)=I):Fun K x a st f (PySem.W.fnOf x a (gQ st) (aJ st) (ah st) .none kV j pm y i ct):=⟨⟨B,z,kV,j,pm,y,i,ct,u,rfl,l,c⟩,k⟩
end
section
variable{X:Cx}
end
end L2
namespace MM
open PySem.Spec PyProof.Rows L2
inductive PV where
 |non | bl (b:Bool) | int (i:Int) | str (x:Str) | tup (xs:List PV) | frl (xs:List PV) | loc (n:Nat)
abbrev _root_.SM:=List PV
abbrev _root_.TM:=Option PV
structure A0 where
 cls:Str
 fs:List (Str×PV):=[]
inductive MO where
 |lst(xs:SM)
 |dic(kvs:List (PV×PV))
 |exc(x:A0)
abbrev MH:=List MO
abbrev k4:=List (TM)
inductive Out(α:Type) where
 |ok(a:α)(h:MH)
 |exc(x:A0)(h:MH)
 |bad
abbrev _root_.S4:=Out PV
def Out.bind{α β:Type}(o:Out α)(f:α->MH->Out β):Out β:=match o with
 |.ok a h=>f a h
 |.exc x h=>.exc x h
 |.bad=>.bad
@[simp]theorem Out.bind_ok(a:α)(h:MH)(f:α->MH->Out β):(Out.ok a h).bind f=f a h:=rfl
@[simp]theorem Out.bind_exc(x:A0)(h:MH)(f:α->MH->Out β):(Out.exc x h).bind f=.exc x h:=rfl
@[simp]theorem Out.bind_bad(f:α->MH->Out β):(Out.bad:Out α).bind f=.bad:=rfl
inductive SOut where
 |nx(Z:k4)(h:MH)
 |rt(v:PV)(h:MH)
 |bk(Z:k4)(h:MH)
 |ct(Z:k4)(h:MH)
 |exc(x:A0)(Z:k4)(h:MH)
 |rse(x:A0)(Z:k4)(h:MH)
 |bad
def Out.ne{α:Type}(o:Out α):Out α:=match o with
 |.exc _ _=>.bad
 |o=>o
@[simp]theorem Out.ne_ok(a:α)(h:MH):(Out.ok a h).ne=.ok a h:=rfl
@[simp]theorem Out.ne_bad:(Out.bad:Out α).ne=.bad:=rfl
@[simp]theorem Out.ne_ne(o:Out α):o.ne.ne=o.ne:=by cases o<;>rfl
def SqF(K:h8)(H:Hp)(a:Addr)(ys:List V):Prop :=
 (∃o,H a=J (.frz o (.lst ys))) \/
  ∃(o:Obj) (f:Array Value) (n:Nat),K.lookup a=J o/\o.cls=.type "list"/\o.dict=Y/\o.data=.seq f n/\f.size<=sizeLine/\aD ys f.toList
def SqF.sq{K:h8}{H:Hp}{a:Addr}{ys:List V}(h:SqF K H a ys):SqL K H a ys:=by
 rcases h with h|h
 .exact .inl (.inr h)
 .exact .inr h
mutual
inductive RP(K:h8)(U:SX)(H:Hp):PV->V->Prop where
 |non:RP K U H .non .non
 |bl(b:Bool):RP K U H (.bl b) (.bl b)
 |int(i:Int):RP K U H (.int i) (.int i)
 |str(x:Str):RP K U H (.str x) (.str x)
 |tup{xs:SM}{a:Addr}{ys:List V}(s:SqT K H a ys)(r:RPs K U H xs ys):RP K U H (.tup xs) (.ref a)
 |frl{xs:SM}{a:Addr}{ys:List V}(s:SqF K H a ys)(r:RPs K U H xs ys):RP K U H (.frl xs) (.ref a)
 |loc{n:Nat}{a:Addr}(e:U[n]?=J a):RP K U H (.loc n) (.ref a)
inductive RPs(K:h8)(U:SX)(H:Hp):SM->List V->Prop where
 |nil:RPs K U H [] []
 |cons{x:PV}{y:V}{xs:SM}{ys:List V}(r:RP K U H x y)(t:RPs K U H xs ys):RPs K U H (x::xs) (y::ys)
end
structure Le(U:SX)(H:Hp)(U':SX)(H':Hp):Prop where
 pre:∃m,U'=U++m
 tup:∀a xs,H a=J (.tup xs)->H' a=J (.tup xs)
 frz:∀a o u,H a=J (.frz o u)->H' a=J (.frz o u)
def Le.refl(U:SX)(H:Hp):Le U H U H:=⟨⟨[],by simp⟩,λ_ _ h=>h,λ_ _ _ h=>h⟩
def Le.trans(a:Le U H U1 H1)(b:Le U1 H1 U2 H2):Le U H U2 H2:=by obtain⟨m,e⟩:=a.pre;obtain⟨f,i⟩:=b.pre;exact⟨⟨m++f,by rw[i,e,BU]⟩,λc xs h=>b.tup c xs (a.tup c xs h),λc o u h=>b.frz c o u (a.frz c o u h)⟩
def Le.get{U f:SX}{H i:Hp}(l:Le U H f i){n:Nat}{a:Addr}(e:U[n]?=J a):f[n]?=J a:=by obtain⟨m,j⟩:=l.pre;rw[j,vj (r_.mp e).1];exact e
def Le.sqt{K:h8}{U i:SX}{H f:Hp}(l:Le U H i f){a:Addr}{xs:List V}(h:SqT K H a xs):SqT K f a xs:=by
 rcases h with(h|⟨o,h⟩)|h
 .exact .inl (.inl (l.tup _ _ h))
 .exact .inl (.inr ⟨o,l.frz _ _ _ h⟩)
 .exact .inr h
def Le.sqf{K:h8}{U i:SX}{H f:Hp}(l:Le U H i f){a:Addr}{xs:List V}(h:SqF K H a xs):SqF K f a xs:=by
 rcases h with⟨o,h⟩|h
 .exact .inl ⟨o,l.frz _ _ _ h⟩
 .exact .inr h
section
variable{K:h8}{U U':SX}{H H':Hp}
def RP.le(l:Le U H U' H'){x:PV}{y:V}(r:RP K U H x y):RP K U' H' x y :=
 RP.rec .non .bl .int .str (λs _ i=>.tup (l.sqt s) i) (λs _ i=>.frl (l.sqf s) i) (λe=>.loc (l.get e)) .nil (λ_ _ a b=>.cons a b) r
def RPs.le(l:Le U H U' H')(r:RPs K U H xs ys):RPs K U' H' xs ys:=by
 induction xs generalizing ys with
 |nil=>cases r;exact .nil
 |cons x xs f=>cases r with|cons a t=>exact .cons (a.le l) (f t)
def RPs.length(r:RPs K U H xs ys):xs.length=ys.length:=by
 induction xs generalizing ys with
 |nil=>cases r;rfl
 |cons x xs f=>cases r with|cons a t=>exact congrArg (·+1) (f t)
def RPs.get{xs:SM}{ys:List V}{i:Nat}{x:PV}(r:RPs K U H xs ys)(e:xs[i]?=J x):∃y,ys[i]?=J y/\RP K U H x y:=by
 induction xs generalizing ys i with
 |nil=>cases e
 |cons x xs f =>
  cases r with
  |cons a t =>
   cases i with
   |zero=>cases e;exact⟨_,rfl,a⟩
   |succ i=>have z:=@f _ i t e;exact z
def RPs.set(r:RP K U H x u)(i:Nat)(q:RPs K U H xs us):RPs K U H (xs.set i x) (us.set i u):=by
 induction xs generalizing us i with
 |nil=>cases q;exact .nil
 |cons x xs f =>
  cases q with
  |cons a t =>
   cases i with
   |zero=>exact .cons r t
   |succ i=>exact .cons a (f i t)
def RPs.append(r:RPs K U H xs us)(s:RPs K U H ys ws):RPs K U H (xs++ys) (us++ws):=by
 induction xs generalizing us with
 |nil=>cases r;exact s
 |cons x xs f=>cases r with|cons a t=>exact .cons a (f t)
def RPs.take(n:Nat)(r:RPs K U H xs us):RPs K U H (xs.take n) (us.take n):=by
 induction n generalizing xs us with
 |zero=>exact .nil
 |succ n f =>
  cases xs with
  |nil=>cases r;exact .nil
  |cons x xs=>cases r with|cons a t=>exact .cons a (f t)
def RPs.drop(n:Nat)(r:RPs K U H xs us):RPs K U H (xs.drop n) (us.drop n):=by
 induction n generalizing xs us with
 |zero=>exact r
 |succ n f =>
  cases xs with
  |nil=>cases r;exact .nil
  |cons x xs=>cases r with|cons a t=>exact f t
def RPs.ints:∀(ns:SS),RPs K U H (ns.map PV.int) (ns.map V.int)
 |[]=>.nil
 |n::r=>.cons (.int n) (RPs.ints r)
end
def iC(a C:Addr)(h:Heap):Prop:=∃o f,h.get? a=J o/\o.cls=.ref C/\o.data=.fields f
abbrev AE:=Str->S0
def RO(K:h8)(mg:AE)(U:SX)(H:Hp)(a:Addr):MO->Option HO->Prop
 |.lst xs,f=>∃ys,f=J (.lst ys)/\RPs K U H xs ys
 |.dic i,f=>i=[]/\f=J (.dK [])
 |.exc x,f=>x.fs=[]/\∃C,mg x.cls=J (.ref C)/\f=J (.ext (iC a C))
structure RH(K:h8)(mg:AE)(U:SX)(H:Hp)(h:MH):Prop where
 len:U.length=h.length
 nd:U.Nodup
 at':∀(n:Nat)(a:Addr)(o:MO),U[n]?=J a->h[n]?=J o->RO K mg U H a o (H a)
def RO.le{K:h8}{mg:AE}{U j:SX}{H i:Hp}{a:Addr}(l:Le U H j i){o:MO}{f:Option HO}(r:RO K mg U H a o f):RO K mg j i a o f:=by
 cases o with
 |lst xs=>obtain⟨ys,e,r⟩:=r;exact⟨ys,e,r.le l⟩
 |dic u=>exact r
 |exc x=>exact r
def RO.some{K:h8}{mg:AE}{U:SX}{H:Hp}{a:Addr}{o:MO}{f:Option HO}(r:RO K mg U H a o f):f≠Y:=by
 cases o with
 |lst xs=>obtain⟨ys,e,_⟩:=r;rw[e];simp
 |dic i=>obtain⟨_,e⟩:=r;rw[e];simp
 |exc x=>obtain⟨_,C,_,e⟩:=r;rw[e];simp
def RO.plain{K:h8}{mg:AE}{U:SX}{H:Hp}{a:Addr}{o:MO}{f:Option HO}(r:RO K mg U H a o f):(∀xs,f≠Option.some (.tup xs))/\∀p u,f≠Option.some (.frz p u):=by
 cases o with
 |lst xs=>obtain⟨ys,e,_⟩:=r;rw[e];exact⟨(λ_ z=>nomatch z),(λ_ _ z=>nomatch z)⟩
 |dic i=>obtain⟨_,e⟩:=r;rw[e];exact⟨(λ_ z=>nomatch z),(λ_ _ z=>nomatch z)⟩
 |exc x=>obtain⟨_,C,_,e⟩:=r;rw[e];exact⟨(λ_ z=>nomatch z),(λ_ _ z=>nomatch z)⟩
section
variable{K:h8}{mg:AE}{U:SX}{H:Hp}{h:MH}
def RH.obj(r:RH K mg U H h){n:Nat}{a:Addr}(e:U[n]?=J a):∃o,h[n]?=J o/\RO K mg U H a o (H a):=by
 have f:n<h.length:=by rw[<-r.len];exact(r_.mp e).1
 exact⟨h[n],by simp,r.at' n a _ e (by simp)⟩
def RH.new(r:RH K mg U H h){p:Addr}(j:H p=Y){o:MO}{ho:HO}(G:RO K mg U H p o (J ho)):RH K mg (U++[p]) (ls H p ho) (h++[o])/\Le U H (U++[p]) (ls H p ho):=by
 have i:∀n a,U[n]?=J a->a≠p:=λn a e z=>by
  obtain⟨E,_,q⟩:=r.obj e;rw[z,j]at q;exact q.some rfl
 have l:Le U H (U++[p]) (ls H p ho):=⟨⟨[p],rfl⟩,λa xs e=>by rw[aP (bD e j)];exact e,λa M u e=>by rw[aP (bD e j)];exact e⟩;refine⟨⟨by simp[r.len],?_,λn a E e1 e2=>?_⟩,l⟩
 .rw[A4];refine⟨r.nd,by simp,λa F b L=>?_⟩;obtain⟨n,e⟩:=zt.mp F;have y:b=p:=by simpa using L
  rw[y];exact i n a e
 .by_cases f:n<U.length
  .rw[vj f]at e1;rw[vj (by rw[<-r.len];exact f)]at e2;rw[aP (i n a e1)];exact(r.at' n a E e1 e2).le l
  .rw[AX ⋯]at e1;rw[AX (by rw[<-r.len];lia)]at e2;have B:n-U.length=0:=by
    grind
   rw[B]at e1;have C:n-h.length=0:=by have:=r.len;lia
   rw[C]at e2;simp at e1 e2;subst e1;subst e2;rw[bL];exact G.le l
def RH.put(r:RH K mg U H h){n:Nat}{a:Addr}(e:U[n]?=J a){o:MO}{ho:HO}(F:RO K mg U H a o (J ho)):RH K mg U (ls H a ho) (h.set n o)/\Le U H U (ls H a ho):=by
 obtain⟨Q,_,q⟩:=r.obj e;obtain⟨y,i⟩:=q.plain
 have l:Le U H U (ls H a ho):=⟨⟨[],by simp⟩,λb xs z=>by
   have:b≠a:=by rintro rfl;exact y _ z
   rw[aP this];exact z,λb M u z=>by
   have:b≠a:=by rintro rfl;exact i _ _ z
   rw[aP this];exact z⟩
 refine⟨⟨by simp[r.len],r.nd,λm b E e1 e2=>?_⟩,l⟩;by_cases f:m=n
 .subst f;rw[e]at e1;cases e1;rw[bL]
  have:m<h.length:=by rw[<-r.len];exact(r_.mp e).1
  rw[y9 this]at e2;cases e2;exact F.le l
 .rw[o0 (λz=>f z.symm)]at e2;have G:b≠a:=by
   rintro rfl;have L:=r_.mp e;have C:=r_.mp e1;obtain⟨P,j⟩:=L;obtain⟨O,B⟩:=C;exact f ((List.getElem_inj r.nd).mp (B.trans j.symm))
  rw[aP G];exact(r.at' m b E e1 e2).le l
def RH.tup(r:RH K mg U H h){p:Addr}(f:H p=Y)(ys:List V):RH K mg U (ls H p (.tup ys)) h/\Le U H U (ls H p (.tup ys)):=by
 have i:∀n a,U[n]?=J a->a≠p:=λn a e z=>by
  obtain⟨y,_,q⟩:=r.obj e;rw[z,f]at q;exact q.some rfl
 have l:Le U H U (ls H p (.tup ys)):=⟨⟨[],by simp⟩,λa xs e=>by rw[aP (bD e f)];exact e,λa j u e=>by rw[aP (bD e f)];exact e⟩;exact⟨⟨r.len,r.nd,λn a o e1 e2=>by rw[aP (i n a e1)];exact(r.at' n a o e1 e2).le l⟩,l⟩
end
def RS(K:h8)(U:SX)(H:Hp)(a:k4)(Z:L2.St):Prop :=
 Z.length=a.length/\∀(i:Nat)(v:PV),a[i]?=J (J v)->∃f,Z[i]?=J (J f)/\RP K U H v f
def RS.le{K:h8}{U f:SX}{H j:Hp}{a:k4}{Z:L2.St}(l:Le U H f j)(r:RS K U H a Z):RS K f j a Z :=
 ⟨r.1,λi v e=>by obtain⟨u,y,q⟩:=r.2 i v e;exact⟨u,y,q.le l⟩⟩
def RS.set{K:h8}{U:SX}{H:Hp}{a:k4}{Z:L2.St}(r:RS K U H a Z)(i:Nat){v:PV}{l:V}(q:RP K U H v l):RS K U H (a.set i (J v)) (Z.set i (J l)):=by
 refine⟨by simp[r.1],λj u e=>?_⟩;by_cases f:j=i
 .subst f;by_cases y:j<a.length
  .rw[y9 y]at e;cases e;exact⟨l,y9 (by rw[r.1];exact y),q⟩
  .rw[Br (by simp;lia)]at e;cases e
 .rw[o0 (λz=>f z.symm)]at e;obtain⟨C,E,B⟩:=r.2 j u e;exact⟨C,by rw[o0 (λz=>f z.symm)];exact E,B⟩
def Rk(B:Heap)(fs:SX)(h:Heap):Prop:=∀b o,h.get? b=J o->b∉fs->∃a,B.get? b=J a
def O7(l:List Env)(H:Hp)(a:Heap)(C f:Addr)(h:Heap):Prop :=
 ∃B t,Heap.FlyingW B l f (.ref C) (.ref t) h/\(∀b o,H b=J o->∃i,B.get? b=J i)/\Rk B (wm l) a/\H f=Y
structure Bx(X:Cx)(h:Heap):Prop where
 old:∀b o,X.s₀.heap.get? b=J o->b∉X.ex->∃o',h.get? b=J o'
 cell:∀x c,X.env.cells.lookup x=J c->∃o,h.get? c=J o
 pin:∀p∈X.pn,∃o,h.get? p.1=J o
def Inv.bears{X:Cx}{f:SK}{Z:L2.St}{H:Hp}{s:Shared}(a:Inv X f Z H s):Bx X s.heap :=
 ⟨λb o e n=>a.base.there b o e n,λx c e=>let⟨_,o,i,_⟩:=a.cell x c e;⟨o,i⟩,λp j=>⟨_,(a.pin p (vK _ j)).1⟩⟩
def XP(X:Cx)(j:k4)(U:SX)(H:Hp)(x:A0)(h:MH):Prop:=∀(y C:Addr)(i:SX)(a:Hp)(u:L2.St)(l:Shared)(f:Heap),x.fs=[]->X.mg x.cls=J (.ref C)->Le U H i a->RH X.K X.mg i a h->RS X.K i a j u ->
 Inv X [] u a l->Bx X f->O7 X.stack a f C y l.heap->X.xe (.ref y) l
def XM(X:Cx)(j:k4)(U:SX)(H:Hp)(x:A0)(h:MH):Prop:=∀(y C:Addr)(i:SX)(f:Hp)(u:L2.St)(l:Shared)(z:Heap)(a:SH),x.fs=[]->X.mg x.cls=J (.ref C)->Le U H i f->RH X.K X.mg i f h->RS X.K i f j u ->
 Inv X [] u f { l with heap:=z}->Heap.MadeExcOf z l.heap y (.ref C) a->X.xe (.ref y) l
def XP.le(l:Le U H U' H')(q:XP X σp U H x h):XP X σp U' H' x h :=
 λz C y i f u a e1 e2 j=>q z C y i f u a e1 e2 (l.trans j)
def XM.le(l:Le U H U' H')(q:XM X σp U H x h):XM X σp U' H' x h :=
 λB C z j i y f a e1 e2 u=>q B C z j i y f a e1 e2 (l.trans u)
abbrev Rl(α β:Type):=SX->Hp->α->β->Prop
def Ful{α β:Type}(X:Cx)(R:Rl α β)(i:k4)(U:SX)(H:Hp)(o:Out α)(Q:β->Hp->Prop):Prop:=match o with
 |.ok v j=>∀f a l,Le U H f a->RH X.K X.mg f a j->R f a v l->Q l a
 |.exc x j=>XP X i U H x j
 |.bad=>False
def gX{α β:Type}(X:Cx)(R:Rl α β)(U:SX)(H:Hp)(o:Out α)(Q:β->Hp->Prop):Prop:=match o with
 |.ok v j=>∀f a i,Le U H f a->RH X.K X.mg f a j->R f a v i->Q i a
 |_=>False
def Ful.zero(f:Ful X R σp U H o.ne Q):gX X R U H o Q:=by
 cases o with
 |ok v h=>exact f
 |exc x h=>exact f
 |bad=>exact f
def Ful.le(l:Le U H U1 H1)(f:Ful X R σp U H o Q):Ful X R σp U1 H1 o Q:=by
 cases o with
 |ok v h=>exact λa j i u=>f a j i (l.trans u)
 |exc x h=>exact XP.le l f
 |bad=>exact f
def Ful.bind{α β γ δ:Type}{X:Cx}{R:Rl α β}{S:Rl γ δ}{a:k4}{U:SX}{H:Hp}{o:Out α}{f:α->MH->Out γ}{Q:δ->Hp->Prop}{z:β->Hp->Prop}(q:Ful X S a U H (o.bind f) Q)(k:∀j i v u y,o=.ok v y->Le U H j i->RH X.K X.mg j i y->R j i v u->Ful X S a j i (f v y) Q->z u i):Ful X R a U H o z:=by
 cases o with
 |ok v h=>exact λC B u l r w=>k C B v u h rfl l r w (Ful.le l q)
 |exc x h=>exact q
 |bad=>exact q
abbrev RV'(X:Cx):Rl PV V:=λU H=>RP X.K U H
abbrev RVs'(X:Cx):Rl (SM) (List V):=λU H=>RPs X.K U H
abbrev Kv{α:Type}:Rl α α:=λ_ _ x y=>x=y
abbrev Mx(α:Type):=k4->MH->Out α
inductive tM{α β:Type}(X:Cx)(R:Rl α β)(m:Mx α)(Z:L2.St)(H:Hp)(Q:β->Hp->Prop):Prop
 |mk(U:SX)(σp:k4)(h:MH)(rs:RS X.K U H σp Z)(rh:RH X.K X.mg U H h)(q:Ful X R σp U H (m σp h) Q):tM X R m Z H Q
def ME(X:Cx)(e:Expr)(m:Mx PV):Prop:=PE X e (tM X (RV' X) m)
def MT(X:Cx)(e:Expr)(m:Mx Bool):Prop:=PT X e (tM X Kv m)
def MW(X:Cx)(e:Expr)(m:Mx Bool):Prop:=PW X e (tM X Kv m)
def MA(X:Cx)(a:S3)(m:Mx (SM)):Prop:=PA X a (tM X (RVs' X) m)
def PE.imp(h:PE X e t)(i:∀Z H Q,t' Z H Q->t Z H Q):PE X e t':=λf s Z H Q a q=>h f s Z H Q a (i Z H Q q)
def PT.imp(h:PT X e t)(i:∀Z H Q,t' Z H Q->t Z H Q):PT X e t':=λf s Z H Q a q=>h f s Z H Q a (i Z H Q q)
def PW.imp(h:PW X e t)(i:∀Z H Q,t' Z H Q->t Z H Q):PW X e t':=λa j s Z H Q f q=>h a j s Z H Q f (i Z H Q q)
def PA.imp(h:PA X e t)(i:∀Z H Q,t' Z H Q->t Z H Q):PA X e t':=λa j s Z H Q f q=>h a j s Z H Q f (i Z H Q q)
def PS.imp(h:PS X e t)(i:∀D Z H,t' D Z H->t D Z H):PS X e t':=λf s Z H D a q=>h f s Z H D a (i D Z H q)
def PSs.imp(h:PSs X e t)(i:∀D Z H,t' D Z H->t D Z H):PSs X e t':=λf s Z H D a q=>h f s Z H D a (i D Z H q)
def bA(X:Cx)(U:SX)(H:Hp)(o:SOut)(D:Ends):Prop:=match o with
 |.nx f j=>∀i a l,Le U H i a->RH X.K X.mg i a j->RS X.K i a f l->D.nx l a
 |.bk f j=>∀i a l,Le U H i a->RH X.K X.mg i a j->RS X.K i a f l->D.bk l a
 |.ct f j=>∀i a l,Le U H i a->RH X.K X.mg i a j->RS X.K i a f l->D.ct l a
 |.rt v j=>∀i a u,Le U H i a->RH X.K X.mg i a j->RP X.K i a v u->D.rt u a
 |.exc x f j=>XP X f U H x j
 |.rse x f j=>XM X f U H x j
 |.bad=>False
def bA.le(l:Le U H U1 H1)(f:bA X U H o D):bA X U1 H1 o D:=by
 cases o with
 |nx a h=>exact λi u j y=>f i u j (l.trans y)
 |bk a h=>exact λi u j y=>f i u j (l.trans y)
 |ct a h=>exact λi u j y=>f i u j (l.trans y)
 |rt v h=>exact λi u j y=>f i u j (l.trans y)
 |exc x a h=>exact XP.le l f
 |rse x a h=>exact XM.le l f
 |bad=>exact f
abbrev l_:=k4->MH->SOut
inductive Nu(X:Cx)(m:l_)(D:Ends)(Z:L2.St)(H:Hp):Prop
 |mk(U:SX)(σp:k4)(h:MH)(rs:RS X.K U H σp Z)(rh:RH X.K X.mg U H h)(q:bA X U H (m σp h) D):Nu X m D Z H
def MS(X:Cx)(st:Stmt)(m:l_):Prop:=PS X st (Nu X m)
def Av(X:Cx)(st:S9)(m:l_):Prop:=PSs X st (Nu X m)
section
variable{X:Cx}{N W G:SQ}{k:Nat}
structure Good(X:Cx)(N W G:SQ)(k:Nat):Prop where
 hN:X.N=N
 nd:N.Nodup
 loc:∀x∈N,Loc X.env.scope x
 fn:∀x∈W,X.fn x=I\/X.env.scope.names.lookup x=J .local
 gl:∀x∈G,Gl X x
 dbg:∀x∈N++G,(x==("__debug__":Str))=T/\(x==("__classdict__":Str))=T/\x≠"__name__"
 calm:X.calm=I
 room:Room k X.A
 po:PassesOwn (model X.prog X.w) X.A X.env X.xe
def Good.x(g:Good X N W G k){i:Nat}{x:Str}(a:N[i]?=J x):X.N[i]?=J x:=by rw[g.hN];exact a
def az{l:SQ}{i:Nat}{x:Str}(a:l[i]?=J x):x∈l:=AC a
def rJ(X:Cx)(g:PV->PV->MH->S4):R2:=λa f H Q=>∃U h x y,RH X.K X.mg U H h/\RP X.K U H x a/\RP X.K U H y f/\gX X (RV' X) U H (g x y h) Q
abbrev yP(X:Cx)(f:Value->Value->Sem Value)(g:PV->PV->MH->S4):Prop:=OpR X f (rJ X g)
def uJ(X:Cx)(g:PV->MH->S4):V->Hp->VK->Prop:=λa H Q=>∃U h x,RH X.K X.mg U H h/\RP X.K U H x a/\gX X (RV' X) U H (g x h) Q
abbrev Rm(X:Cx)(f:Value->Sem Value)(g:PV->MH->S4):Prop:=Nr X f (uJ X g)
def cJ(X:Cx)(g:SM->MH->S4):List V->Hp->VK->Prop:=λa H Q=>∃U h xs,RH X.K X.mg U H h/\RPs X.K U H xs a/\gX X (RV' X) U H (g xs h) Q
abbrev ck(X:Cx)(f:Value)(g:SM->MH->S4):Prop:=bK X f (cJ X g)
def af(i:Nat):Mx PV:=λZ h=>match Z[i]? with
 |some (J v)=>.ok v h
 |_=>.bad
def mC(v:PV):Mx PV:=λ_ h=>.ok v h
def xR(g:Good X N W G k)(i:Nat){x:Str}{a:Pos}(l:N[i]?=J x):ME X (.Name x a) (af i):=by
 have d:=g.dbg x (vK _ (az l));have hv:Np X.env.scope x:=by
  rcases g.loc x (az l)with q|q
  .exact .inl q
  .exact .inr (.inl q)
 refine PE.imp (yq (g.x l) hv d.1 d.2.1) λZ H Q ⟨U,j,h,z,y,f⟩=>?_;unfold af at f
 cases e:j[i]? with
 |none=>rw[e]at f;exact f.elim
 |some o =>
  rw[e]at f
  cases o with
  |none=>exact f.elim
  |some v =>
   obtain⟨u,B,r⟩:=z.2 i v e;exact⟨u,B,f U H u (Le.refl _ _) y r⟩
def aC:ME X (.Constant (.int i) j pos) (mC (.int i)):=PE.imp Fq λ_ H _ ⟨U,_,_,_,a,f⟩=>f U H _ (Le.refl _ _) a (.int i)
def F2:ME X (.Constant (.str i) j pos) (mC (.str i)):=PE.imp Ft λ_ H _ ⟨U,_,_,_,a,f⟩=>f U H _ (Le.refl _ _) a (.str i)
def mW:ME X (.Constant (.bool i) j pos) (mC (.bl i)):=PE.imp JY λ_ H _ ⟨U,_,_,_,a,f⟩=>f U H _ (Le.refl _ _) a (.bl i)
def F3:ME X (.Constant .none j pos) (mC .non):=PE.imp Fs λ_ H _ ⟨U,_,_,_,a,f⟩=>f U H _ (Le.refl _ _) a .non
def ao(f:PV->PV->MH->S4)(a mb:Mx PV):Mx PV:=λZ h=>(a Z h).bind λx j=>(mb Z j).bind λy i=>(f x y i).ne
def Cs(f:PV->MH->S4)(a:Mx PV):Mx PV:=λZ h=>(a Z h).bind λx i=>(f x i).ne
def qy{f:PV->PV->MH->S4}{l mb:Mx PV}{Z:L2.St}{H:Hp}{Q:VK}(q:tM X (RV' X) (ao f l mb) Z H Q):J_ (rJ X f) (tM X (RV' X) l) (tM X (RV' X) mb) Z H Q:=by obtain⟨U,a,h,u,O,q⟩:=q;refine⟨U,a,h,u,O,Ful.bind q λL H1 x x' S _ P i E F=>?_⟩;refine⟨L,a,S,u.le P,i,Ful.bind F λC H2 y y' R _ M j z B=>?_⟩;exact⟨C,R,x,y,j,E.le M,z,B.zero⟩
def aQ(l:yP X (binaryOp op) f)(i:ME X a ma)(j:ME X b mb):ME X (.BinOp a op b pos) (ao f ma mb) :=
 PE.imp (Ka l i j) λ_ _ _ q=>qy q
def Kw(E:Rm X (unaryOp op) f)(z:ME X a ma):ME X (.UnaryOp op a pos) (Cs f ma) :=
 PE.imp (Kb E z) λ_ _ _ ⟨U,i,h,l,C,q⟩=>⟨U,i,h,l,C,Ful.bind q λB H x L F _ M j u y=>⟨B,F,x,j,u,y.zero⟩⟩
def F4(u:yP X (compareOp op) f)(i:ME X a ma)(j:ME X b mb)(l:behindInMarks op b=T):ME X (.Compare a [op] [b] pos) (ao f ma mb) :=
 PE.imp (Ce u i j l) λ_ _ _ q=>qy q
def mB(m:Mx PV):Mx Bool:=λZ h=>(m Z h).bind λv a=>match v with
 |.bl b=>.ok b a
 |_=>.bad
def Kx(q:tM X Kv (mB m) Z H Q):tM X (RV' X) m Z H λx a=>∃c,x=.bl c/\Q c a:=by
 obtain⟨U,f,h,z,y,q⟩:=q;refine⟨U,f,h,z,y,Ful.bind q λu a x B E _ C i l j=>?_⟩
 cases l with
 |bl b=>exact⟨b,rfl,j u a b (Le.refl _ _) i rfl⟩
 |_=>exact j.elim
def yi(B:yP X (compareOp op) f)(l:ME X a ma)(u:ME X b mb)(z:behindInMarks op b=T):MT X (.Compare a [op] [b] pos) (mB (ao f ma mb)) :=
 PT.imp (Cf B l u z) λZ H Q q=>by
  obtain⟨U,i,h,j,y,q⟩:=Kx q;exact qy ⟨U,i,h,j,y,q⟩
def yk(h:ME X e m)(f:∀a,isTrue e X.env a=(do let v <-a;standAt e.pos;holding [v] (truthy v)):=by intro _;rfl):MT X e (mB m) :=
 PT.imp (Fv h f) λ_ _ _ q=>Kx q
def Ct(m:Mx Bool):Mx Bool:=λZ h=>(m Z h).bind λb a=>.ok (!b) a
def xp(h:MT X e m):MT X (.UnaryOp .Not e pos) (Ct m) :=
 PT.imp (Fy h) λ_ _ _ ⟨U,a,h,i,z,q⟩=>⟨U,a,h,i,z,Ful.bind q λy j x B E _ C f l u=>by
  cases l;exact u y j _ (Le.refl _ _) f rfl⟩
def F5(a b:Mx Bool):Mx Bool:=λZ h=>(a Z h).bind λx f=>if x=I then b Z f else .ok T f
def Jo(a b:Mx Bool):Mx Bool:=λZ h=>(a Z h).bind λx f=>if x=I then .ok I f else b Z f
section
variable{a b:Expr}{rest:S3}{ma mb:Mx Bool}{pos:Pos}
def Cu(f:MT X a ma):MW X (.BoolOp .And [a] pos) ma:=B6 f
def qQ(f:MT X a ma):MW X (.BoolOp .Or [a] pos) ma:=Fw f
def F6(E:MT X a ma)(F:MW X (.BoolOp .And (b::rest) pos) mb):MW X (.BoolOp .And (a::b::rest) pos) (F5 ma mb) :=
 PW.imp (Fx E F) λZ H Q ⟨U,f,h,u,B,q⟩=>⟨U,f,h,u,B,Ful.bind q λl z x M L _ C i y j=>by
  cases y
  cases x with
  |true=>exact⟨l,f,L,u.le C,i,j⟩
  |false=>exact j l z _ (Le.refl _ _) i rfl⟩
def qm(E:MT X a ma)(F:MW X (.BoolOp .Or (b::rest) pos) mb):MW X (.BoolOp .Or (a::b::rest) pos) (Jo ma mb) :=
 PW.imp (JZ E F) λZ H Q ⟨U,f,h,u,B,q⟩=>⟨U,f,h,u,B,Ful.bind q λl z x M L _ C i y j=>by
  cases y
  cases x with
  |true=>exact j l z _ (Le.refl _ _) i rfl
  |false=>exact⟨l,f,L,u.le C,i,j⟩⟩
def MW.mt(h:MW X e m):MT X e m:=PW.pt h
end
def vf(a b:Mx PV):Mx PV:=λZ h=>(a Z h).bind λx f=>match x with
 |.bl c=>if c=I then b Z f else .ok (.bl T) f
 |_=>.bad
def vW(a:Mx PV):Mx PV:=λZ h=>(a Z h).bind λx f=>match x with
 |.bl c=>.ok (.bl (!c)) f
 |_=>.bad
section
variable{a b:Expr}{rest:S3}{ma mb:Mx PV}{pos:Pos}
def F7(f:ME X a ma):ME X (.BoolOp op [a] pos) ma:=Fz f
def F8(E:ME X a ma)(F:ME X (.BoolOp .And (b::rest) pos) mb):ME X (.BoolOp .And (a::b::rest) pos) (vf ma mb) :=
 PE.imp (FA E F) λZ H Q ⟨U,f,h,u,B,q⟩=>⟨U,f,h,u,B,Ful.bind q λl z x M L _ C i y j=>by
  cases y with
  |bl c =>
   refine⟨c,rfl,?_⟩
   cases c with
   |true=>exact⟨l,f,L,u.le C,i,j⟩
   |false=>exact j l z _ (Le.refl _ _) i (.bl T)
  |_=>exact j.elim⟩
def F9(C:ME X a ma):ME X (.UnaryOp .Not a pos) (vW ma) :=
 PE.imp (FC C) λZ H Q ⟨U,f,h,B,z,q⟩=>⟨U,f,h,B,z,Ful.bind q λy u x E L _ F i l j=>by
  cases l with
  |bl c=>exact⟨c,rfl,j y u _ (Le.refl _ _) i (.bl _)⟩
  |_=>exact j.elim⟩
end
def e_:Mx (SM):=λ_ h=>.ok [] h
def ae(a:Mx PV)(r:Mx (SM)):Mx (SM):=λZ h=>(a Z h).bind λx i=>(r Z i).bind λxs f=>.ok (x::xs) f
def aS:MA X [] e_:=PA.imp dZ λZ H Q ⟨U,a,h,i,f,q⟩=>q U H _ (Le.refl _ _) f .nil
def aB(R:ME X e m)(O:MA X es ms)(S:starEach (e::es) X.env=(T,eval e X.env)::starEach es X.env:=by rfl):MA X (e::es) (ae m ms) :=
 PA.imp (bY R O S) λZ H Q ⟨U,a,h,j,M,q⟩=>⟨U,a,h,j,M,Ful.bind q λF H1 x x' h1 _ P f C E =>
  ⟨F,a,h1,j.le P,f,Ful.bind E λB l y y' h2 _ L i u z=>z B l _ (Le.refl _ _) i (.cons (C.le L) u)⟩⟩
def sf(xs:SM)(h:MH):S4:=if xs.length<=sizeLine then .ok (.loc h.length) (h++[.lst xs])else .bad
def wn(xs:SM)(h:MH):S4:=if xs.length<=sizeLine then .ok (.tup xs) h else .bad
def kM{U:SX}{H:Hp}{h:MH}{xs:SM}{ys:List V}{Q:VK}(i:RH X.K X.mg U H h)(a:RPs X.K U H xs ys)(f:gX X (RV' X) U H (sf xs h) Q):ys.length<=sizeLine/\∀p,H p=Y->Q (.ref p) (ls H p (.lst ys)):=by
 unfold sf at f
 split at f
 .rename_i y
  refine⟨by rw[<-a.length];exact y,λp l=>?_⟩;obtain⟨j,u⟩:=i.new l (o:=.lst xs) ⟨ys,rfl,a⟩;refine f _ _ _ u j (.loc ?_);rw[<-i.len];simp
 .exact f.elim
def uO{U:SX}{H:Hp}{h:MH}{xs:SM}{ys:List V}{Q:VK}(l:RH X.K X.mg U H h)(a:RPs X.K U H xs ys)(f:gX X (RV' X) U H (wn xs h) Q):ys.length<=sizeLine/\∀p,H p=Y->Q (.ref p) (ls H p (.tup ys)):=by
 unfold wn at f
 split at f
 .rename_i y
  refine⟨by rw[<-a.length];exact y,λp u=>?_⟩;obtain⟨j,i⟩:=l.tup u ys;exact f _ _ _ i j (.tup (.inl (.inl bL)) (a.le i))
 .exact f.elim
def F_{a:k4}{U:SX}{H:Hp}{h:MH}{xs:SM}{Q:VK}(f:Ful X (RV' X) a U H (sf xs h) Q):gX X (RV' X) U H (sf xs h) Q:=by
 unfold sf at f ⊢
 split at f
 .rw[b_ (by assumption)];exact f
 .exact f.elim
def Ga{a:k4}{U:SX}{H:Hp}{h:MH}{xs:SM}{Q:VK}(f:Ful X (RV' X) a U H (wn xs h) Q):gX X (RV' X) U H (wn xs h) Q:=by
 unfold wn at f ⊢
 split at f
 .rw[b_ (by assumption)];exact f
 .exact f.elim
def dC(m:Mx (SM)):Mx PV:=λZ h=>(m Z h).bind sf
def Cv(m:Mx (SM)):Mx PV:=λZ h=>(m Z h).bind wn
def xG(h:MA X es ms):ME X (.List es pos) (dC ms) :=
 PE.imp (FQ h) λZ H Q ⟨U,a,h,u,l,q⟩=>⟨U,a,h,u,l,Ful.bind q λB y x z E _ C f i j=>kM f i (F_ j)⟩
def Gb(h:MA X es ms):ME X (.Tuple es j pos) (Cv ms) :=
 PE.imp (xH h) λZ H Q ⟨U,a,h,y,u,q⟩=>⟨U,a,h,y,u,Ful.bind q λC z x B F _ E f i l=>uO f i (Ga l)⟩
def SOut.then(o:SOut)(k:l_):SOut:=match o with
 |.nx Z h=>k Z h
 |o=>o
def aL(a b:l_):l_:=λZ h=>(a Z h).then b
def lg:l_:=λZ h=>.nx Z h
def fw:Av X [] lg:=PSs.imp B7 λD Z H ⟨U,f,h,a,i,q⟩=>q U H Z (Le.refl _ _) i a
def Cw{st:Stmt}{m:l_}(h:MS X st m):Av X [st] m:=uv h
def bA.then{U:SX}{H:Hp}{o:SOut}{k:l_}{D:Ends}(q:bA X U H (o.then k) D):bA X U H o { D with nx:=λZ H=>Nu X k D Z H}:=by
 cases o with
 |nx a h=>exact λf j i l r s=>⟨f,a,h,s,r,bA.le l q⟩
 |_=>exact q
def yK{st:Stmt}{a:S9}{m u:l_}(y:MS X st m)(j:Av X a u):Av X (st::a) (aL m u) :=
 PSs.imp (yI y j) λD Z H ⟨U,f,h,i,l,q⟩=>⟨U,f,h,i,l,bA.then q⟩
def bO(m:Mx PV):l_:=λZ h=>match m Z h with
 |.ok v a=>.rt v a
 |.exc x a=>.exc x Z a
 |.bad=>.bad
def Gc(i:ME X e m):MS X (.Return (J e) pos) (bO m) :=
 PS.imp (FD i) λD Z H ⟨U,a,h,f,j,q⟩=>⟨U,a,h,f,j,by
  unfold bO at q
  cases e:m a h with
  |ok v l=>rw[e]at q;exact q
  |exc x l=>rw[e]at q;exact q
  |bad=>rw[e]at q;exact q⟩
def zO{α:Type}(m:Mx α)(k:α->l_):l_:=λZ h=>match m Z h with
 |.ok v a=>k v Z a
 |.exc x a=>.exc x Z a
 |.bad=>.bad
def bA.ex{α β:Type}{R:Rl α β}{m:Mx α}{k:α->l_}{U:SX}{H:Hp}{a:k4}{h:MH}{D:Ends}{Q:β->Hp->Prop}(q:bA X U H (zO m k a h) D)(w:∀i f v j y,Le U H i f->RH X.K X.mg i f y->R i f v j->bA X i f (k v a y) D->Q j f):Ful X R a U H (m a h) Q:=by
 unfold zO at q
 cases e:m a h with
 |ok v u=>rw[e]at q;exact λi f j l r z=>w i f v j u l r z (bA.le l q)
 |exc x u=>rw[e]at q;exact q
 |bad=>rw[e]at q;exact q
def cj(m:Mx PV):l_:=zO m λ_=>lg
def gT{e:Expr}{m:Mx PV}{a:Pos}(B:ME X e m)(C:swapsWith e Y a.line X.env=pure T:=by rfl):MS X (.Expr e a) (cj m) :=
 PS.imp (B8 B C) λD Z H ⟨U,f,h,i,y,q⟩=>⟨U,f,h,i,y,bA.ex q λu j v E F l r z w=>w u j Z (Le.refl _ _) r (i.le l)⟩
def AF(c:Mx Bool)(a b:l_):l_:=zO c λx=>if x=I then a else b
def iD{c:Expr}{a b:S9}{y:Mx Bool}{u mb:l_}{i:Pos}(E:MT X c y)(L:Av X a u)(M:Av X b mb):MS X (.If c a b i) (AF y u mb) :=
 PS.imp (J4 E L M) λD Z H ⟨U,f,h,j,F,q⟩=>⟨U,f,h,j,F,bA.ex q λB O v P C l r z w=>by
  cases z
  cases v with
  |true=>exact⟨B,f,C,j.le l,r,w⟩
  |false=>exact⟨B,f,C,j.le l,r,w⟩⟩
def bf(i:Nat)(m:Mx PV):l_:=zO m λv Z h=>.nx (Z.set i (J v)) h
def nK(g:Good X N W G k)(i:Nat){x:Str}{e:Expr}{m:Mx PV}{f a:Pos}(y:N[i]?=J x)(F:W[i]?=J x)(L:ME X e m)(M:swapsWith e (J (.Name x a)) f.line X.env=pure T:=by rfl):
  MS X (.Assign [.Name x a] e f) (bf i m):=by
 refine PS.imp (w4 (by rw[g.hN];exact g.nd) (g.x y) (g.loc x (az y)) L M (g.fn x (az F))) λD Z H ⟨U,j,h,u,E,q⟩=>?_;exact⟨U,j,h,u,E,bA.ex q λC B v O P l r z w=>w C B _ (Le.refl _ _) r ((u.le l).set i z)⟩
end
section
variable{X:Cx}{N W G:SQ}{k:Nat}
abbrev Mg:=PV->l_
def lj(X:Cx)(U:SX)(H:Hp)(o:SOut)(Q:L2.St->Hp->Prop):Prop:=match o with
 |.nx a j=>∀i f l,Le U H i f->RH X.K X.mg i f j->RS X.K i f a l->Q l f
 |.exc x a j=>XP X a U H x j
 |_=>False
def lj.le(l:Le U H U1 H1)(f:lj X U H o Q):lj X U1 H1 o Q:=by
 cases o with
 |nx a h=>exact λi u j y=>f i u j (l.trans y)
 |exc x a h=>exact XP.le l f
 |_=>exact f
inductive tG(X:Cx)(g:Mg)(v':V)(Z:L2.St)(H:Hp)(Q:L2.St->Hp->Prop):Prop
 |mk(U:SX)(σp:k4)(h:MH)(v:PV)(rs:RS X.K U H σp Z)(rh:RH X.K X.mg U H h)(rv:RP X.K U H v v')(q:lj X U H (g v σp h) Q):tG X g v' Z H Q
def MG(X:Cx)(a:Expr)(g:Mg):Prop:=PG X a (tG X g)
def PG.imp(h:PG X e t)(i:∀v Z H Q,t' v Z H Q->t v Z H Q):PG X e t':=λf s Z H v u Q a r q=>h f s Z H v u Q a r (i v Z H Q q)
def wo(i:Nat):Mg:=λv Z h=>.nx (Z.set i (J v)) h
def ug(g:Good X N W G k)(i:Nat)(a:N[i]?=J x)(y:W[i]?=J x):MG X (.Name x pos) (wo i) :=
 PG.imp (tR (by rw[g.hN];exact g.nd) (g.x a) (g.loc x (az a)) (g.fn x (az y))) λz Z H Q ⟨U,j,h,v,f,u,l,q⟩=>q U H _ (Le.refl _ _) u (f.set i l)
abbrev Cy:=SM->l_
inductive Rn(X:Cx)(g:Cy)(v':List V)(Z:L2.St)(H:Hp)(Q:L2.St->Hp->Prop):Prop
 |mk(U:SX)(σp:k4)(h:MH)(v:SM)(rs:RS X.K U H σp Z)(rh:RH X.K X.mg U H h)(rv:RPs X.K U H v v')(q:lj X U H (g v σp h) Q):Rn X g v' Z H Q
def Ky(X:Cx)(a:S3)(g:Cy):Prop:=PGs X a (Rn X g)
def PGs.imp(h:PGs X e t)(i:∀v Z H Q,t' v Z H Q->t v Z H Q):PGs X e t':=λf s Z H v u Q a r q=>h f s Z H v u Q a r (i v Z H Q q)
def Ge:Cy:=λa Z h=>match a with
 |[]=>.nx Z h
 |_=>.bad
def Es(a:Mg)(r:Cy):Cy:=λi Z h=>match i with
 |v::f=>(a v Z h).then (r f)
 |[]=>.bad
def tY:Ky X [] Ge:=PGs.imp B9 λl Z H Q ⟨U,f,h,v,a,j,i,q⟩=>by
 cases i with
 |nil=>exact⟨rfl,q U H Z (Le.refl _ _) j a⟩
 |cons _ _=>exact q.elim
def lC(i:MG X e a)(F:Ky X es r)(O:(assignEach (e::es) X.env).map (·.2)=assign e X.env::(assignEach es X.env).map (·.2):=by rfl):Ky X (e::es) (Es a r) :=
 PGs.imp (yA i F O) λS Z H Q ⟨U,f,h,v,C,B,M,q⟩=>by
  cases M with
  |nil=>exact q.elim
  |@cons x y xs ys z u =>
   refine⟨_,_,rfl,U,f,h,x,C,B,z,?_⟩;dsimp only[Es]at q
   cases e:a x f h with
   |nx P i=>rw[e]at q;exact λE R Z' l j L=>⟨E,P,i,xs,L,j,u.le l,lj.le l q⟩
   |_=>rw[e]at q;exact q
def Gf(r:Cy)(n:Nat):Mg:=λv Z h=>match v with
 |.tup xs=>if xs.length=n then r xs Z h else .bad
 |_=>.bad
def wT(g:Good X N W G k){a:S3}{j:Nat}{r:Cy}{n:Nat}{f:Pos}(h:Ky X a r)(C:(assignEach a X.env).length=n:=by rfl)(l:(assignEach a X.env).findIdx? (·.1)=Y:=by rfl):
  MG X (.Tuple a j f) (Gf r n) :=
 PG.imp (FE g.calm h C l) λF Z H Q ⟨U,i,h,v,z,y,E,q⟩=>by
  cases E with
  |tup s u =>
   dsimp only[Gf]at q
   split at q
   .rename_i B
    exact⟨_,_,rfl,s,by rw[<-u.length];exact B,U,i,h,_,z,y,u,q⟩
   .exact q.elim
  |_=>exact q.elim
def lR(m:Mx PV)(g:Mg):l_:=zO m λv Z h=>match g v Z h with
 |.nx a f=>.nx a f
 |.exc x a f=>.exc x a f
 |_=>.bad
def qB{f e:Expr}{m:Mx PV}{g:Mg}{i:Pos}(F:ME X e m)(E:MG X f g)(L:swapsWithSole [f] e i.line X.env=pure T:=by rfl)(C:swappedStores [f] e X.env=pure Y:=by rfl)(j:(assignEach [f] X.env).map (·.2)=[assign f X.env]:=by rfl):MS X (.Assign [f] e i) (lR m g) :=
 PS.imp (FG F E L C j) λD Z H ⟨U,a,h,u,B,q⟩=>⟨U,a,h,u,B,bA.ex q λy M v O j l r z w=>⟨y,a,j,v,u.le l,r,z,by
  cases e:g v a j with
  |_=>rw[e]at w;exact w⟩⟩
def qG(o i v:PV)(h:MH):Option MH:=match o,i with
 |.loc n,.int j=>(match h[n]? with
  |some (.lst xs)=>(xl xs.length j).map λp=>h.set n (.lst (xs.set p v))
  |_=>Y)
 |_,_=>Y
def Kz(mo f:Mx PV):Mg:=λv=>zO mo λo=>zO f λi Z h=>match qG o i v h with
 |some a=>.nx Z a
 |none=>.bad
def yj(ho:ME X o mo)(hi:ME X i mi)(ha:∀v,assign (.Subscript o i pos) X.env v=(do
   let u <-holding [v] (eval o X.env)
   let B <-holding [v,u] (eval i X.env)
   standAt pos
   holding [v,u,B] (setItem u B v)
   release [v,u,B] []):=by intro _;rfl):MG X (.Subscript o i pos) (Kz mo mi) :=
 PG.imp (FF ho hi Ad ha) λv' Z H Q ⟨U,f,h,v,E,rh,rv,q⟩=>by
  refine⟨U,f,h,E,rh,?_⟩;unfold Kz zO at q
  cases e:mo f h with
  |exc x P=>rw[e]at q;exact q
  |bad=>rw[e]at q;exact q
  |ok u P =>
   rw[e]at q;intro U1 H1 o' l L ro;refine⟨U1,f,P,E.le l,L,?_⟩;dsimp only at q
   cases e2:mi f P with
   |exc x h2=>rw[e2]at q;exact XP.le l q
   |bad=>rw[e2]at q;exact q
   |ok B h2 =>
    rw[e2]at q;intro U2 H2 i' z y ri;have M:=ro.le z;have F:=(rv.le l).le z;unfold qG at q
    cases M with
    |@loc n a S =>
     cases ri with
     |int j =>
      dsimp only at q;obtain⟨ob,eo,O⟩:=y.obj S;rw[eo]at q
      cases ob with
      |dic ab=>exact q.elim
      |exc x=>exact q.elim
      |lst xs =>
       obtain⟨ys,ey,R⟩:=O;dsimp only at q
       cases C:xl xs.length j with
       |none=>rw[C]at q;exact q.elim
       |some p =>
        rw[C]at q;refine⟨a,ys,j,p,rfl,rfl,ey,by rw[<-R.length];exact C,?_⟩;obtain⟨r3,l3⟩:=y.put S (o:=.lst (xs.set p v)) ⟨_,rfl,RPs.set F p R⟩;exact q U2 _ Z (l.trans (z.trans l3)) r3 (E.le (l.trans (z.trans l3)))
     |_=>exact q.elim
    |_=>exact q.elim
structure MIt where
 xs:SM
 gd:List (Nat×SM):=[]
def MIt.ok(a:MIt)(h:MH):Prop:=∀p∈a.gd,h[p.1]?=J (.lst p.2)
def Cz(X:Cx):Rl MIt It:=λz y j a=>∀U H h (i:Nat),Le z y U H->RH X.K X.mg U H h->j.ok h ->
 (i<j.xs.length->a.go i H/\∀u f,a.yld i H u f->∃l x,Le U H l f/\RH X.K X.mg l f h/\j.xs[i]?=J x/\RP X.K l f x u)/\(j.xs.length<=i->a.stop i H)
def MI(X:Cx)(f a:Expr)(m:Mx MIt):Prop:=PI X f a (tM X (Cz X) m)
def PI.imp(h:PI X tg e t)(i:∀Z H Q,t' Z H Q->t Z H Q):PI X tg e t':=λf s Z H Q a q=>h f s Z H Q a (i Z H Q q)
def vO(i:MIt)(g:Mg)(b:l_):SM->l_
 |[]=>λZ h=>if i.ok h then .nx Z h else .bad
 |x::r=>λZ h=>if i.ok h then (match g x Z h with
   |.nx j l=>(match b j l with
    |.nx f a=>vO i g b r f a
    |.ct f a=>vO i g b r f a
    |.bk f a=>.nx f a
    |.rt v a=>.rt v a
    |.exc e f a=>.exc e f a
    |.rse e f a=>.rse e f a
    |.bad=>.bad)
   |.exc e j l=>.exc e j l
   |_=>.bad)else .bad
def jl(f:Mx MIt)(g:Mg)(b:l_):l_:=zO f λa=>vO a g b a.xs
def nD(gd:Good X N W G k)(hi:MI X tg iter mi)(hg:MG X tg g)(hb:Av X body mb)(hs:∀x,foldedSetIterable iter X.env x=pure x:=by intro _;rfl):MS X (.For tg iter body [] pos) (jl mi g mb):=by
 refine PS.imp (FJ gd.po gd.calm hi hg hb hs) λD Z H ⟨U,l,h,rs,rh,q⟩=>⟨U,l,h,rs,rh,bA.ex q λS H1 j an h1 l1 am jr w=>?_⟩;refine⟨λi m Z H=>m=j.xs.length-i/\i<=j.xs.length/\∃U l h,Le S H1 U H/\RS X.K U H l Z/\RH X.K X.mg U H h/\bA X U H (vO j g mb (j.xs.drop i) l h) D,⟨_,rfl,u0 _,S,l,h1,Le.refl _ _,rs.le l1,am,w⟩,?_⟩;rintro i m Z2 H2 ⟨rfl,hi,U2,C,h2,l2,P,L,u⟩;by_cases B:i<j.xs.length
 .have ed:j.xs.drop i=j.xs[i]::j.xs.drop (i+1):=Oc B;rw[ed]at u;unfold vO at u
  split at u
  .rename_i hok
   obtain⟨j1,j2⟩:=jr U2 H2 h2 i l2 L hok;obtain⟨go,yl⟩:=j1 B;refine .inr ⟨go,λZ3 O=>∃R E h3,Le S H1 R O/\RS X.K R O E Z3/\RH X.K X.mg R O h3/\bA X R O (vO j g mb (j.xs.drop (i+1)) E h3) D,λZ3 O z=>⟨_,by ext,rfl,B,z⟩,λx' H' y=>?_⟩;obtain⟨U',x,l',ab,ex,rx⟩:=yl x' H' y;have al:x=j.xs[i]:=by rw[AY B]at ex;exact(Option.some.inj ex).symm
   subst al;refine⟨U',C,h2,_,P.le l',ab,rx,?_⟩;have f:=bA.le l' u
   cases eg:g j.xs[i] C h2 with
   |nx Z4 h4 =>
    rw[eg]at f;intro U5 H5 Z5 l5 r5 s5;refine⟨U5,Z4,h4,s5,r5,?_⟩;have a:=bA.le l5 f;have l6:Le S H1 U5 H5:=l2.trans (l'.trans l5);dsimp only at a
    cases em:mb Z4 h4 with
    |nx M F=>rw[em]at a;exact λU7 H7 Z7 Q r7 s7=>⟨U7,M,F,l6.trans Q,s7,r7,bA.le Q a⟩
    |ct M F=>rw[em]at a;exact λU7 H7 Z7 Q r7 s7=>⟨U7,M,F,l6.trans Q,s7,r7,bA.le Q a⟩
    |bk M F=>rw[em]at a;exact a
    |rt v F=>rw[em]at a;exact a
    |exc e M F=>rw[em]at a;exact a
    |rse e M F=>rw[em]at a;exact a
    |bad=>rw[em]at a;exact a
   |exc e Z4 h4=>rw[eg]at f;exact f
   |_=>rw[eg]at f;exact f.elim
  .exact u.elim
 .have e:i=j.xs.length:=by ext
  rw[e,List.drop_length]at u;unfold vO at u
  split at u
  .rename_i hok
   obtain⟨j1,j2⟩:=jr U2 H2 h2 i l2 L hok;exact .inl ⟨j2 (by ext),u U2 H2 Z2 (Le.refl _ _) L P⟩
  .exact u.elim
def Et(v:PV)(h:MH):Out MIt:=match v with
 |.loc n=>(match h[n]? with
  |some (.lst xs)=>.ok ⟨xs,[(n,xs)]⟩ h
  |_=>.bad)
 |.frl xs=>.ok ⟨xs,[]⟩ h
 |_=>.bad
def KA(m:Mx PV):Mx MIt:=λZ h=>(m Z h).bind Et
def ue(O:∀j f h,Le U H j f->RH X.K X.mg j f h->(⟨xs,gd⟩:MIt).ok h->∃ys,SqL X.K f a ys/\RPs X.K j f xs ys):Cz X U H ⟨xs,gd⟩ (OQ X.K a):=by
 intro j f h i l F ok;obtain⟨ys,B,L⟩:=O j f h l F ok;refine⟨λu=>?_,λu=>⟨ys,B,by rw[<-L.length];exact u⟩⟩;have C:=AY u;obtain⟨y,E,M⟩:=L.get C;refine⟨⟨ys,y,B,E⟩,λQ P ⟨e,z⟩=>?_⟩;subst e
 have:=z ys B
 rw[E]at this;cases this;exact⟨j,_,Le.refl _ _,F,C,M⟩
def CA(hl:ME X l m):MI X tg l (KA m) :=
 PI.imp (Ca hl) λZ H Q ⟨U,z,h,S,R,q⟩=>⟨U,z,h,S,R,Ful.bind q λF E x x' h1 _ l1 i M f=>by
  cases M with
  |@loc n a e =>
   obtain⟨L,eo,C⟩:=i.obj e;dsimp only[Et]at f;rw[eo]at f
   cases L with
   |dic ab=>exact f.elim
   |exc x=>exact f.elim
   |lst xs =>
    obtain⟨ys,O,ry⟩:=C;refine⟨a,rfl,⟨ys,SqL.of O⟩,f F E _ (Le.refl _ _) i (ue λU' P h' l j ok=>?_)⟩;obtain⟨y,u,B⟩:=j.at' n a _ (l.get e) (ok (n,xs) (by simp));exact⟨y,SqL.of u,B⟩
  |frl s r =>
   exact⟨_,rfl,⟨_,s.sq⟩,f F E _ (Le.refl _ _) i (ue λU' P h' l j ok=>⟨_,(l.sqf s).sq,r.le l⟩)⟩
  |_=>exact f.elim⟩
def KC(m:Mx PV):Mx MIt:=λZ h=>(m Z h).bind λv a=>match v with
 |.tup xs=>.ok ⟨xs,[]⟩ a
 |_=>.bad
def Gg(hl:ME X l m):MI X tg l (KC m) :=
 PI.imp (FI hl) λZ H Q ⟨U,f,h,rs,rh,q⟩=>⟨U,f,h,rs,rh,Ful.bind q λS P x R h1 _ l1 j O E=>by
  cases O with
  |@tup xs a ys s r =>
   refine⟨_,rfl,⟨_,s⟩,E S P _ (Le.refl _ _) j ?_⟩;intro U' H' h' i l C ok;have B:=l.sqt s;have r':=r.le l;refine⟨λu=>?_,λu=>⟨ys,B,by rw[<-r.length];exact u⟩⟩;have F:=AY u;obtain⟨y,L,M⟩:=r'.get F;refine⟨⟨ys,y,B,L⟩,λR H2 ⟨e,z⟩=>?_⟩;subst e
   have:=z ys B
   rw[L]at this;cases this;exact⟨U',_,Le.refl _ _,C,F,M⟩
  |_=>exact E.elim⟩
def bM(lo:Int)(n:Nat):SM:=(List.range n).map λ(i:Nat)=>PV.int (lo+(i:Int))
def wc(lo:Int)(n:Nat):(bM lo n).length=n:=by simp[bM]
def CC(lo:Int)(n:Nat):Cz X U H ⟨bM lo n,[]⟩ (Nq lo n):=by intro j B h i l u ok;have f:=wc lo n;refine⟨λa=>⟨by rw[f]at a;exact a,λz y ⟨e1,e2⟩=>?_⟩,λa=>by rw[f]at a;exact a⟩;subst e1;subst e2;rw[f]at a;exact⟨j,.int (lo+i),Le.refl _ _,u,by simp[bM,a],.int _⟩
def eR(m:Mx (SM)):Mx MIt:=λZ h=>(m Z h).bind λf a=>match f with
 |[.int j]=>if -(2^62)<=j/\j<2^62 then .ok ⟨bM 0 j.toNat,[]⟩ a else .bad
 |_=>.bad
def pf(O:Gl X "range")(B:X.mg "range"=Y)(P:MA X [a] m)(R:starEach [a] X.env=[(T,eval a X.env)]:=by rfl):MI X tg (.Call (.Name "range" p) [a] [] pos) (eR m):=by
 refine PI.imp (wV O B P R) λZ H Q ⟨U,i,h,M,L,q⟩=>⟨U,i,h,M,L,Ful.bind q λF E x S h1 _ l1 l C f=>?_⟩
 cases C with
 |nil=>exact f.elim
 |cons u z =>
  cases z with
  |nil =>
   cases u with
   |int j =>
    dsimp only at f
    split at f
    .rename_i y
     exact⟨j,rfl,y.1,y.2,f F E _ (Le.refl _ _) l (CC 0 j.toNat)⟩
    .exact f.elim
   |_=>exact f.elim
  |cons r2 t2=>cases u<;>exact f.elim
def cm(c:Mx Bool)(b:l_):Nat->l_
 |0=>λ_ _=>.bad
 |n+1=>zO c λx=>if x=I then (λZ h=>match b Z h with
   |.nx f a=>cm c b n f a
   |.ct f a=>cm c b n f a
   |.bk f a=>.nx f a
   |.rt v a=>.rt v a
   |.exc e f a=>.exc e f a
   |.rse e f a=>.rse e f a
   |.bad=>.bad)else lg
def Gh(c:Mx Bool)(b:l_):l_:=λZ h=>if z:∃n,cm c b n Z h≠.bad then cm c b (Classical.choose z) Z h else .bad
def jV:∀{n:Nat}{Z:k4}{h:MH},cm c b n Z h≠.bad->cm c b (n+1) Z h=cm c b n Z h
 |n+1,Z,h,q=>by
  rw[cm]at q;rw[cm]
  conv=>rhs;rw[cm]
  unfold zO at q ⊢
  cases e:c Z h with
  |exc x a=>rfl
  |bad=>rfl
  |ok x a =>
   rw[e]at q
   cases x with
   |false=>rfl
   |true =>
    simp only[if_true]at q ⊢
    cases em:b Z a with
    |nx f i=>rw[em]at q;exact jV q
    |ct f i=>rw[em]at q;exact jV q
    |_=>rfl
def ub(q:cm c b n Z h≠.bad)(l:n<=m):cm c b m Z h=cm c b n Z h:=by
 induction l with
 |refl=>rfl
 |step l a=>rw[jV (by rw[a];exact q),a]
def iL(q:cm c b n Z h≠.bad):Gh c b Z h=cm c b n Z h:=by
 have z:∃n,cm c b n Z h≠.bad:=⟨n,q⟩;unfold Gh;rw[dif_pos z];have a:=Classical.choose_spec z;rcases Nat.le_total n (Classical.choose z)with l|l
 .exact ub q l
 .exact (ub a l).symm
def zR(gd:Good X N W G k)(hc:MT X c mc)(hb:Av X body mb):MS X (.While c body [] pos) (Gh mc mb):=by
 refine PS.imp (zU gd.po hc hb) λD Z H ⟨U,a,h,rs,rh,q⟩=>?_;refine⟨λm Z H=>∃U a h,RS X.K U H a Z/\RH X.K X.mg U H h/\bA X U H (cm mc mb m a h) D,?_,?_⟩
 .unfold Gh at q
  split at q
  .exact⟨_,U,a,h,rs,rh,q⟩
  .exact q.elim
 .rintro m Z1 H1 ⟨S,f,h1,i,E,L⟩
  cases m with
  |zero=>exact L.elim
  |succ m =>
   refine⟨S,f,h1,i,E,bA.ex L λF Q v v' O M P z w=>?_⟩;cases z
   cases v with
   |false=>exact w F Q Z1 (Le.refl _ _) P (i.le M)
   |true =>
    rw[b_ rfl]at w ⊢;refine⟨λZ H=>∃U a h,RS X.K U H a Z/\RH X.K X.mg U H h/\bA X U H (cm mc mb m a h) D,λZ' H' z=>⟨m,Jg _,z⟩,F,f,O,i.le M,P,?_⟩
    cases em:mb f O with
    |nx l j=>rw[em]at w;exact λu R Z7 y C B=>⟨u,l,j,B,C,bA.le y w⟩
    |ct l j=>rw[em]at w;exact λu R Z7 y C B=>⟨u,l,j,B,C,bA.le y w⟩
    |bk l j=>rw[em]at w;exact w
    |rt v j=>rw[em]at w;exact w
    |exc e l j=>rw[em]at w;exact w
    |rse e l j=>rw[em]at w;exact w
    |bad=>rw[em]at w;exact w
def cC(f:PV->Option PyData):SM->Option (List PyData)
 |[]=>J []
 |x::r=>match f x,cC f r with
  |some d,J a=>J (d::a)
  |_,_=>Y
def rd:Nat->MH->PV->Option PyData
 |0,_,v=>(match v with
  |.non=>J .none
  |.bl b=>J (.bool b)
  |.int i=>J (.int i)
  |.str x=>J (.str x)
  |_=>Y)
 |n+1,h,v=>(match v with
  |.non=>J .none
  |.bl b=>J (.bool b)
  |.int i=>J (.int i)
  |.str x=>J (.str x)
  |.tup xs=>(cC (rd n h) xs).map PyData.tuple
  |.frl xs=>(cC (rd n h) xs).map PyData.list
  |.loc m=>(match h[m]? with
   |some (.lst xs)=>(cC (rd n h) xs).map PyData.list
   |_=>Y))
def fF{l:Heap}{f:PV->Option PyData}{K:h8}{U:SX}{H:Hp}(hf:∀v y u d,RP K U H v y->aR y u->f v=J d->∃j,Reads l u d j):
  ∀{xs:SM}{ys:List V}{a:SH}{i:List PyData},RPs K U H xs ys->aD ys a->cC f xs=J i->∃j,ReadsAll l a i j:=by
 intro xs
 induction xs with
 |nil =>
  intro ys a i r v e;cases r;cases v;cases e;exact⟨_,.nil⟩
 |cons x xs C =>
  intro ys a i r v e;cases r with|cons r t=>cases v with|cons v w =>
  simp only[cC]at e
  split at e
  .rename_i d E e1 e2
   cases e;obtain⟨L,B⟩:=hf _ _ _ _ r v e1;obtain⟨F,z⟩:=C t w e2;exact⟨_,.cons B z⟩
  .cases e
def eG{Kh:SK}{Z:L2.St}{H:Hp}{s:Shared}{U:SX}{h:MH}(f:Inv X Kh Z H s)(Q:RH X.K X.mg U H h):
  ∀(n:Nat)(v:PV)(B:V)(u:Value)(d:PyData),RP X.K U H v B->aR B u->rd n h v=J d->∃z,Reads s.heap u d z:=by
 intro n
 induction n with
 |zero =>
  intro v B u d rp r e
  cases rp with
  |non=>cases e;cases r;exact⟨_,.none⟩
  |bl b=>cases e;cases r;exact⟨_,.bool b⟩
  |int i=>cases e;obtain⟨t,rfl⟩:=r;exact⟨_,.int i t⟩
  |str i=>cases e;obtain⟨t,rfl⟩:=r;exact⟨_,.str i t⟩
  |_=>cases e
 |succ n C =>
  intro v B u d rp r e
  cases rp with
  |non=>cases e;cases r;exact⟨_,.none⟩
  |bl b=>cases e;cases r;exact⟨_,.bool b⟩
  |int i=>cases e;obtain⟨t,rfl⟩:=r;exact⟨_,.int i t⟩
  |str i=>cases e;obtain⟨t,rfl⟩:=r;exact⟨_,.str i t⟩
  |@tup xs a ys s F =>
   cases r;simp only[rd]at e
   cases q:cC (rd n h) xs with
   |none=>rw[q]at e;cases e
   |some L =>
    rw[q]at e;cases e;obtain⟨j,y,⟨o,e1,e2,m,e3⟩,_⟩:=f.tuple s;obtain⟨z,l⟩:=fF (C) F y q;exact⟨_,.tuple e1 e2 e3 (by simpa using l)⟩
  |@frl xs a ys s F =>
   cases r;simp only[rd]at e
   cases q:cC (rd n h) xs with
   |none=>rw[q]at e;cases e
   |some L =>
    rw[q]at e;cases e;obtain⟨j,y,⟨o,m,e1,e2,_,e3⟩,_⟩:=f.list s.sq;obtain⟨z,l⟩:=fF (C) F y q;exact⟨_,.list e1 e2 e3 (by simpa using l)⟩
  |loc R =>
   cases r;simp only[rd]at e;obtain⟨O,eo,E⟩:=Q.obj R;rw[eo]at e
   cases O with
   |dic S=>cases e
   |exc x=>cases e
   |lst xs =>
    obtain⟨ys,P,M⟩:=E;dsimp only at e
    cases q:cC (rd n h) xs with
    |none=>rw[q]at e;cases e
    |some L =>
     rw[q]at e;cases e;obtain⟨j,y,⟨o,m',e1,e2,_,e3⟩,_⟩:=f.list (SqL.of P);obtain⟨z,l⟩:=fF (C) M y q;exact⟨_,.list e1 e2 e3 (by simpa using l)⟩
def AG(x y:PV)(h:MH):S4:=match rd 60 h x,rd 60 h y with
 |some a,J b=>if SeqAt.shaped a=I/\SeqAt.shaped b=I then .ok (.bl (PyData.eqv a b)) h else .bad
 |_,_=>.bad
def vw(x y:PV)(h:MH):S4:=match rd 60 h x,rd 60 h y with
 |some a,J b=>if SeqAt.shaped a=I/\SeqAt.shaped b=I then .ok (.bl (!PyData.eqv a b)) h else .bad
 |_,_=>.bad
def Eu(M:Room k X.A):yP X (compareOp .Eq) AG:=by
 intro S s Z H F C u v Q f i l ⟨U,h,x,y,j,E,B,q⟩;unfold AG at q
 split at q
 .rename_i a b P O
  split at q
  .rename_i z
   obtain⟨_,L⟩:=eG f j 60 x F u a E i P;obtain⟨_,R⟩:=eG f j 60 y C v b B l O;exact eq_dataH L R z.1 z.2 M.units ⟨.bl _,H,f,rfl,q U H _ (Le.refl _ _) j (.bl _)⟩
  .exact q.elim
 .exact q.elim
def nG(M:Room k X.A):yP X (compareOp .NotEq) vw:=by
 intro S s Z H F C u v Q f i l ⟨U,h,x,y,j,E,B,q⟩;unfold vw at q
 split at q
 .rename_i a b P O
  split at q
  .rename_i z
   obtain⟨_,L⟩:=eG f j 60 x F u a E i P;obtain⟨_,R⟩:=eG f j 60 y C v b B l O;exact ne_dataH L R z.1 z.2 M.units ⟨.bl _,H,f,rfl,q U H _ (Le.refl _ _) j (.bl _)⟩
  .exact q.elim
 .exact q.elim
def lp(f:Int->Int->PV):PV->PV->MH->S4:=λx y h=>match x,y with
 |.int i,.int j=>.ok (f i j) h
 |_,_=>.bad
def nO(L:OpR X F (Cb f))(NL:∀U H i j,RP X.K U H (g i j) (f i j)):yP X F (lp g):=by
 intro M s Z H P O u v Q l a z ⟨U,h,x,y,E,C,B,q⟩;unfold lp at q
 split at q
 .cases C;cases B;exact L M s Z H _ _ u v Q l a z ⟨_,_,rfl,rfl,q U H _ (Le.refl _ _) E (NL U H _ _)⟩
 .exact q.elim
def By:=lp λi j=>.bl (decide (i<j))
def Gi:=lp λi j=>.bl (decide (i<=j))
def Bz:=lp λi j=>.bl (decide (j<i))
def BA:=lp λi j=>.bl (decide (j<=i))
def Ev:yP X (compareOp .Lt) By:=nO Ke λ_ _ _ _=>.bl _
def KD:yP X (compareOp .LtE) Gi:=nO Kf λ_ _ _ _=>.bl _
def Ew:yP X (compareOp .Gt) Bz:=nO Kg λ_ _ _ _=>.bl _
def KG:yP X (compareOp .GtE) BA:=nO Ki λ_ _ _ _=>.bl _
def KH(a:Bool):PV->PV->MH->S4:=λx y h=>match y with
 |.non=>(match x with
  |.non=>.ok (.bl (!a)) h
  |_=>.ok (.bl a) h)
 |.bl b=>(match x with
  |.bl c=>.ok (.bl (if a then !(c==b)else c==b)) h
  |.non=>.ok (.bl a) h
  |.int _=>.ok (.bl a) h
  |.str _=>.ok (.bl a) h
  |.tup _=>.ok (.bl a) h
  |_=>.bad)
 |_=>.bad
def jj(x y:PV)(h:MH):S4:=match x,y with
 |.int i,.int j=>if IntMulOk i j then .ok (.int (i*j)) h else .bad
 |.loc n,.int j=>(match h[n]? with
  |some (.lst xs)=>if -(2^63)<=j/\j<2^63 then sf (List.flatten (List.replicate j.toNat xs)) h else .bad
  |_=>.bad)
 |_,_=>.bad
def A_(x y:PV)(h:MH):S4:=match x,y with
 |.int i,.int j=>if j≠0/\Builtin.divisionGoesByPylong i j=T then .ok (.int (i.fdiv j)) h else .bad
 |_,_=>.bad
def m_(x y:PV)(h:MH):S4:=match x,y with
 |.int i,.int j=>if j≠0 then .ok (.int (i.fmod j)) h else .bad
 |_,_=>.bad
def q7(x y:PV)(h:MH):S4:=match x,y with
 |.int i,.int j=>if eS i j then .ok (.int (i^j.toNat)) h else .bad
 |_,_=>.bad
def li(x y:PV)(h:MH):S4:=match x,y with
 |.int i,.int j=>.ok (.int (i+j)) h
 |.str a,.str b=>if a.length+b.length<=sizeLine then .ok (.str (a++b)) h else .bad
 |.loc n,.loc m=>(match h[n]?,h[m]? with
  |some (.lst xs),J (.lst ys)=>sf (xs++ys) h
  |_,_=>.bad)
 |.tup xs,.tup ys=>if xs≠[]then wn (xs++ys) h else .bad
 |_,_=>.bad
def BC:=lp λi j=>.int (i-j)
def BD(x:PV)(h:MH):S4:=match x with
 |.int i=>.ok (.int (-i)) h
 |_=>.bad
def Gj:yP X (binaryOp .Sub) BC:=nO FM λ_ _ _ _=>.int _
def Gk:Rm X (unaryOp .USub) BD:=by
 intro l s Z H z u Q f a ⟨U,h,x,y,j,q⟩
 cases j with
 |int i=>exact FO l s Z H _ u Q f a ⟨i,rfl,q U H _ (Le.refl _ _) y (.int _)⟩
 |_=>exact q.elim
def Ex:yP X (binaryOp .FloorDiv) A_:=by
 intro L s Z H E C u v Q f a i ⟨U,h,x,y,B,z,l,q⟩;unfold A_ at q
 split at q
 .cases z;cases l
  split at q
  .rename_i j
   obtain⟨t,rfl⟩:=a;obtain⟨F,rfl⟩:=i;exact floordiv_int j.1 ⟨.int _,H,f.tok _,⟨_,rfl⟩,q U H _ (Le.refl _ _) B (.int _)⟩ (.inl j.2)
  .exact q.elim
 .exact q.elim
def dX:yP X (binaryOp .Mod) m_:=by
 intro L s Z H E C u v Q f a i ⟨U,h,x,y,B,l,j,q⟩;unfold m_ at q
 split at q
 .cases l;cases j
  split at q
  .rename_i z
   obtain⟨t,rfl⟩:=a;obtain⟨F,rfl⟩:=i;exact mod_int' z ⟨.int _,H,f.tok _,⟨_,rfl⟩,q U H _ (Le.refl _ _) B (.int _)⟩
  .exact q.elim
 .exact q.elim
def rj:yP X (binaryOp .Pow) q7:=by
 intro F s Z H M L u v Q f a l ⟨U,h,x,y,E,B,z,q⟩;unfold q7 at q
 split at q
 .rename_i i j
  cases B;cases z
  split at q
  .rename_i C
   exact FN F s Z H _ _ u v Q f a l ⟨i,j,rfl,rfl,C,q U H _ (Le.refl _ _) E (.int _)⟩
  .exact q.elim
 .exact q.elim
def dt:yP X (binaryOp .Add) li:=by
 intro M s Z H x' y' u v Q l f B ⟨U,h,x,y,C,rx,E,q⟩
 cases rx with
 |int i =>
  cases E with
  |int j=>exact FL M s Z H _ _ u v Q l f B ⟨i,j,rfl,rfl,q U H _ (Le.refl _ _) C (.int _)⟩
  |_=>exact q.elim
 |str a =>
  cases E with
  |str b =>
   dsimp only[li]at q
   split at q
   .rename_i hl
    exact wC M s Z H _ _ u v Q l f B ⟨a,b,rfl,rfl,hl,q U H _ (Le.refl _ _) C (.str _)⟩
   .exact q.elim
  |_=>exact q.elim
 |@loc n a e =>
  cases E with
  |@loc m b e2 =>
   dsimp only[li]at q;obtain⟨o1,h1,F⟩:=C.obj e;obtain⟨o2,h2,L⟩:=C.obj e2;rw[h1,h2]at q
   cases o1 with
   |dic am=>exact q.elim
   |exc x=>exact q.elim
   |lst xs =>
    cases o2 with
    |dic am=>exact q.elim
    |exc x=>exact q.elim
    |lst ys =>
     obtain⟨al,ex,an⟩:=F;obtain⟨R,ey,S⟩:=L;obtain⟨P,O⟩:=kM C (an.append S) q;exact FY M s Z H _ _ u v Q l f B ⟨a,b,al,R,rfl,rfl,ex,ey,by rw[<-zv];exact P,O⟩
  |_=>exact q.elim
 |tup s1 F =>
  cases E with
  |tup s2 L =>
   dsimp only[li]at q
   split at q
   .rename_i ab
    obtain⟨P,O⟩:=uO C (F.append L) q;refine Cm M s Z H _ _ u v Q l f B ⟨_,_,_,_,rfl,rfl,s1,s2,?_,by rw[<-zv];exact P,λz=>?_,λ_=>O⟩
    .rintro rfl;cases F;exact ab rfl
    .subst z;cases L;unfold wn at q
     split at q
     .exact q U H _ (Le.refl _ _) C (by rw[En];exact .tup s1 F)
     .exact q.elim
   .exact q.elim
  |_=>exact q.elim
 |_=>cases E<;>exact q.elim
def RPs.rep{K:h8}{U:SX}{H:Hp}{xs:SM}{ys:List V}(r:RPs K U H xs ys):∀n:Nat,RPs K U H (List.replicate n xs).flatten (List.replicate n ys).flatten
 |0=>.nil
 |n+1=>by exact r.append (RPs.rep r n)
def fT:yP X (binaryOp .Mult) jj:=by
 intro Kh s Z H x' y' u v Q l f z ⟨U,h,x,y,C,R,B,q⟩
 cases R with
 |int i =>
  cases B with
  |int j =>
   dsimp only[jj]at q
   split at q
   .rename_i S
    obtain⟨t,rfl⟩:=f;obtain⟨t',rfl⟩:=z;exact PyProof.Rows.mul_int ⟨.int _,H,l.tok _,⟨_,rfl⟩,q U H _ (Le.refl _ _) C (.int _)⟩ S
   .exact q.elim
  |_=>exact q.elim
 |@loc n a e =>
  cases B with
  |int j =>
   dsimp only[jj]at q;obtain⟨o1,h1,O⟩:=C.obj e;rw[h1]at q
   cases o1 with
   |dic ab=>exact q.elim
   |exc x=>exact q.elim
   |lst xs =>
    dsimp only at q
    split at q
    .rename_i L
     obtain⟨E,ex,F⟩:=O;obtain⟨M,P⟩:=kM C (F.rep j.toNat) q;refine FZ Kh s Z H _ _ u v Q l f z ⟨a,j,E,rfl,rfl,ex,L.1,L.2,?_,P⟩;rw[uU]at M;rw[Nat.mul_comm];exact M
    .exact q.elim
  |_=>exact q.elim
 |_=>cases B<;>exact q.elim
def kn{f:SK}{Z:L2.St}{H:Hp}{s:Shared}{Q:VK}{x':V}{u:Value}{b c:Bool}(a:Inv X f Z H s)(r:aR x' u)(j:plainIs u (.bool b)=I)(i:(!(u == .bool b))=c)(q:Q (.bl c) H):
  wpAny (model X.prog X.w) X.A (compareOp .IsNot u (.bool b)) (EP X f Z Q) X.xe s:=by
 exact d_ (wpAny_isSame_plain j (il (by rw[i];exact⟨.bl c,H,a,rfl,q⟩)))
def Gm:yP X (compareOp .IsNot) (KH I):=by
 intro C s Z H L F u v Q f a l ⟨U,h,x,y,j,z,B,q⟩
 cases B with
 |non =>
  refine Cd C s Z H _ _ u v Q f a l ⟨rfl,?_⟩;cases z<;>exact q U H _ (Le.refl _ _) j (by first | exact .bl I | exact .bl T)
 |bl b =>
  cases l
  cases z with
  |non=>cases a;exact kn (x':=.non) f rfl (by cases b<;>rfl) (by cases b<;>rfl) (q U H _ (Le.refl _ _) j (.bl I))
  |bl c=>cases a;exact kn (x':=.bl c) f rfl (by cases b<;>cases c<;>rfl) (by cases b<;>cases c<;>rfl) (q U H _ (Le.refl _ _) j (.bl _))
  |int i=>obtain⟨t,rfl⟩:=a;exact kn (x':=.int i) f ⟨_,rfl⟩ (by cases b<;>rfl) (by cases b<;>rfl) (q U H _ (Le.refl _ _) j (.bl I))
  |str i=>obtain⟨t,rfl⟩:=a;exact kn (x':=.str i) f ⟨_,rfl⟩ (by cases b<;>rfl) (by cases b<;>rfl) (q U H _ (Le.refl _ _) j (.bl I))
  |tup M E=>cases a;exact kn (x':=.ref _) f rfl (by cases b<;>rfl) (by cases b<;>rfl) (q U H _ (Le.refl _ _) j (.bl I))
  |_=>exact q.elim
 |_=>exact q.elim
def bB(x y:PV)(h:MH):S4:=match y with
 |.int i=>(match x with
  |.loc n=>(match h[n]? with
   |some (.lst xs)=>(match n5 xs i with
    |some v=>.ok v h
    |none=>.bad)
   |_=>.bad)
  |.tup xs=>(match n5 xs i with
   |some v=>.ok v h
   |none=>.bad)
  |.frl xs=>(match n5 xs i with
   |some v=>.ok v h
   |none=>.bad)
  |.str z=>(match n5 z.cps.toList i with
   |some c=>if z.length<=sizeLine then .ok (.str ⟨#[c]⟩) h else .bad
   |none=>.bad)
  |_=>.bad)
 |_=>.bad
def oC{K:h8}{U:SX}{H:Hp}{xs:SM}{ys:List V}{i:Int}{v:PV}(r:RPs K U H xs ys)(e:n5 xs i=J v):∃a,n5 ys i=J a/\RP K U H v a:=by
 unfold n5 at e ⊢;rw[<-r.length]
 cases q:xl xs.length i with
 |none=>rw[q]at e;cases e
 |some j =>
  rw[q]at e;exact r.get e
def Ey{a b:Expr}{ma mb:Mx PV}{O:Pos}(ha:ME X a ma)(hb:ME X b mb)(hs:kF b):ME X (.Subscript a b O) (ao bB ma mb):=by
 refine PE.imp (Kp FV ha hb hs) λZ H Q q=>?_;obtain⟨U,B,h,rs,rh,q⟩:=q;refine⟨U,B,h,rs,rh,Ful.bind q λU1 H1 x x' h1 _ l1 S rx q1=>⟨U1,B,h1,rs.le l1,S,Ful.bind q1 λM L y y' h2 _ l2 l ry f=>?_⟩⟩;have P:=rx.le l2
 cases ry with
 |int i =>
  cases P with
  |@loc n a e =>
   obtain⟨ob,eo,ab⟩:=l.obj e;dsimp only[bB]at f;rw[eo]at f
   cases ob with
   |dic al=>exact f.elim
   |exc x=>exact f.elim
   |lst xs =>
    obtain⟨ys,ey,u⟩:=ab;dsimp only at f
    cases j:n5 xs i with
    |none=>rw[j]at f;exact f.elim
    |some v =>
     rw[j]at f;obtain⟨C,F,E⟩:=oC u j;exact .inl ⟨a,ys,i,C,rfl,rfl,SqL.of ey,F,f M L _ (Le.refl _ _) l E⟩
  |@tup xs a ys R u =>
   dsimp only[bB]at f
   cases j:n5 xs i with
   |none=>rw[j]at f;exact f.elim
   |some v =>
    rw[j]at f;obtain⟨C,F,E⟩:=oC u j;exact .inr (.inl ⟨_,_,i,C,rfl,rfl,R,F,f M L _ (Le.refl _ _) l E⟩)
  |@frl xs a ys R u =>
   dsimp only[bB]at f
   cases j:n5 xs i with
   |none=>rw[j]at f;exact f.elim
   |some v =>
    rw[j]at f;obtain⟨C,F,E⟩:=oC u j;exact .inl ⟨_,_,i,C,rfl,rfl,R.sq,F,f M L _ (Le.refl _ _) l E⟩
  |str z =>
   dsimp only[bB]at f
   cases j:n5 z.cps.toList i with
   |none=>rw[j]at f;exact f.elim
   |some c =>
    rw[j]at f;dsimp only at f
    split at f
    .rename_i hz
     exact .inr (.inr ⟨z,i,c,rfl,rfl,hz,j,f M L _ (Le.refl _ _) l (.str _)⟩)
    .exact f.elim
  |_=>exact f.elim
 |_=>exact f.elim
def vx(f:SM->MH->S4)(m:Mx (SM)):Mx PV:=λZ h=>(m Z h).bind λxs a=>(f xs a).ne
section
variable{x:Str}{id T:String}{e:Expr}{es:S3}{f:SM->MH->S4}{m:Mx (SM)}{p pos:Pos}
def Ez{Z:L2.St}{H:Hp}{Q:VK}(q:tM X (RV' X) (vx f m) Z H Q):OY (cJ X f) (tM X (RVs' X) m) Z H Q:=by obtain⟨U,a,h,z,y,q⟩:=q;exact⟨U,a,h,z,y,Ful.bind q λu C x E B _ F i j l=>⟨u,B,x,i,j,l.zero⟩⟩
def rV(g:Good X N W G k)(j:Nat)(i:G[j]?=J x)(u:ck X (.builtin id) f)(z:X.mg x=Y)(hv:bootBuiltins x=J (.builtin id))(l:MA X (e::es) m)(y:starEach (e::es) X.env=(false,eval e X.env)::starEach es X.env:=by rfl)(a:(backTo pos (starEach es X.env)).any (·.1)=false:=by rfl):ME X (.Call (.Name x p) (e::es) [] pos) (vx f m) :=
 have d:=g.dbg x (pu _ (az i))
 PE.imp (dD u (g.gl x (az i)) z hv l d.2.2 d.1 y a) λ_ _ _ q=>Ez q
def pj(g:Good X N W G k)(j:Nat)(i:G[j]?=J x)(u:ck X (.type T) f)(z:X.mg x=Y)(hv:bootBuiltins x=J (.type T))(l:MA X (e::es) m)(y:starEach (e::es) X.env=(false,eval e X.env)::starEach es X.env:=by rfl)(a:(backTo pos (starEach es X.env)).any (·.1)=false:=by rfl):ME X (.Call (.Name x p) (e::es) [] pos) (vx f m) :=
 have d:=g.dbg x (pu _ (az i))
 PE.imp (fN u (g.gl x (az i)) z hv l d.2.2 d.1 y a) λ_ _ _ q=>Ez q
end
def AH(xs:SM)(h:MH):S4:=match xs with
 |[.int i]=>.ok (.int (if i<0 then -i else i)) h
 |_=>.bad
def AI(xs:SM)(h:MH):S4:=match xs with
 |[.int i,.int j]=>.ok (.int (if j<i then j else i)) h
 |_=>.bad
def CD(xs:SM)(h:MH):S4:=match xs with
 |[.int i,.int j]=>.ok (.int (if j>i then j else i)) h
 |_=>.bad
def CF(xs:SM)(h:MH):S4:=match xs with
 |[.int i]=>.ok (.int i) h
 |[.bl b]=>.ok (.int (if b then 1 else 0)) h
 |_=>.bad
def u6(xs:SM)(h:MH):S4:=match xs with
 |[.loc n]=>(match h[n]? with
  |some (.lst ys)=>.ok (.int ys.length) h
  |_=>.bad)
 |[.tup ys]=>.ok (.int ys.length) h
 |[.frl ys]=>.ok (.int ys.length) h
 |[.str z]=>if z.length<=sizeLine then .ok (.int z.length) h else .bad
 |_=>.bad
def ya:ck X (.builtin "abs") AH:=by
 intro y s Z H xs u Q a r ⟨U,h,z,l,rp,q⟩
 cases rp with
 |nil=>exact q.elim
 |cons f j =>
  cases j with
  |cons _ _=>cases f<;>exact q.elim
  |nil =>
   cases f with
   |int i=>exact y0 y s Z H _ u Q a r ⟨i,rfl,q U H _ (Le.refl _ _) l (.int _)⟩
   |_=>exact q.elim
def qH{f:SM->MH->S4}{F:Int->Int->Int}{r:List V->Hp->VK->Prop}{u:Value}(hf:∀i j h,f [.int i,.int j] h=.ok (.int (F i j)) h)(P:∀xs h,(∀i j,xs≠[.int i,.int j])->f xs h=.bad)(E:bK X u (λxs H Q=>∃i j,xs=[.int i,.int j]/\Q (.int (F i j)) H)):ck X u f:=by
 intro R s Z H xs O Q a r ⟨U,h,l,L,rp,q⟩;by_cases z:∃i j,l=[.int i,.int j]
 .obtain⟨i,j,rfl⟩:=z
  cases rp with
  |cons y B=>cases B with
   |cons M C =>
    cases C;cases y;cases M;rw[hf]at q;exact E R s Z H _ O Q a r ⟨i,j,rfl,q U H _ (Le.refl _ _) L (.int _)⟩
 .rw[P l h λi j e=>z ⟨i,j,e⟩]at q;exact q.elim
def rB(g:Good X N W G k):ck X (.builtin "min") AI:=qH (r:=λ_ _ _=>True) (λ_ _ _=>rfl) (λxs h z=>by unfold AI;split<;>first | rfl | exact absurd rfl (z _ _)) (xA g.calm)
def Gn(g:Good X N W G k):ck X (.builtin "max") CD:=qH (r:=λ_ _ _=>True) (λ_ _ _=>rfl) (λxs h z=>by unfold CD;split<;>first | rfl | exact absurd rfl (z _ _)) (xL g.calm)
def Go:ck X (.type "int") CF:=by
 intro u s Z H xs l Q a r ⟨U,h,z,j,rp,q⟩
 cases rp with
 |nil=>exact q.elim
 |cons f y =>
  cases y with
  |cons _ _=>cases f<;>exact q.elim
  |nil =>
   cases f with
   |int i=>exact pD u s Z H _ l Q a r (.inl ⟨i,rfl,q U H _ (Le.refl _ _) j (.int _)⟩)
   |bl b=>exact pD u s Z H _ l Q a r (.inr ⟨b,rfl,q U H _ (Le.refl _ _) j (.int _)⟩)
   |_=>exact q.elim
def nB:ck X (.builtin "len") u6:=by
 intro u s Z H xs l Q f r ⟨U,h,R,j,rp,q⟩
 cases rp with
 |nil=>exact q.elim
 |cons C E =>
  cases E with
  |cons _ _=>cases C<;>exact q.elim
  |nil =>
   cases C with
   |@loc n a e =>
    obtain⟨F,P,B⟩:=j.obj e;dsimp only[u6]at q;rw[P]at q
    cases F with
    |dic O=>exact q.elim
    |exc x=>exact q.elim
    |lst xs =>
     obtain⟨ys,L,i⟩:=B;exact js u s Z H _ l Q f r ⟨_,_,rfl,.inl ⟨ys,SqL.of L,rfl⟩,by rw[<-i.length];exact q U H _ (Le.refl _ _) j (.int _)⟩
   |tup y i=>exact js u s Z H _ l Q f r ⟨_,_,rfl,.inr ⟨_,y,rfl⟩,by rw[<-i.length];exact q U H _ (Le.refl _ _) j (.int _)⟩
   |frl y i=>exact js u s Z H _ l Q f r ⟨_,_,rfl,.inl ⟨_,y.sq,rfl⟩,by rw[<-i.length];exact q U H _ (Le.refl _ _) j (.int _)⟩
   |str z =>
    dsimp only[u6]at q
    split at q
    .rename_i M
     exact js u s Z H _ l Q f r ⟨_,_,rfl,⟨M,rfl⟩,q U H _ (Le.refl _ _) j (.int _)⟩
    .exact q.elim
   |_=>exact q.elim
def Bb(h:MH):PV->Option String
 |.non=>J "NoneType"
 |.bl _=>J "bool"
 |.int _=>J "int"
 |.str _=>J "str"
 |.tup _=>J "tuple"
 |.frl _=>J "list"
 |.loc n=>match h[n]? with
  |some (.lst _)=>J "list"
  |some (.dic _)=>J "dict"
  |_=>Y
def cQ(t:String)(a:String):Bool:=t==a||(t == "bool" && a == "int")
def oQ(a:List String)(x:PV)(h:MH):S4:=match Bb h x with
 |some t=>.ok (.bl (a.any (cQ t))) h
 |none=>.bad
def Jp(a:String):Prop:=∀K:h8,∀t∈["NoneType","bool","int","str","tuple","list","dict"],PySem.W.kitOne K (.type t) (.type a)=J (cQ t a)
def rE(z:∀K,PySem.W.kitOne K (.type "NoneType") (.type b)=J (cQ "NoneType" b))(i:∀K,PySem.W.kitOne K (.type "bool") (.type b)=J (cQ "bool" b))(j:∀K,PySem.W.kitOne K (.type "int") (.type b)=J (cQ "int" b))(f:∀K,PySem.W.kitOne K (.type "str") (.type b)=J (cQ "str" b))(u:∀K,PySem.W.kitOne K (.type "tuple") (.type b)=J (cQ "tuple" b))(y:∀K,PySem.W.kitOne K (.type "list") (.type b)=J (cQ "list" b))(l:∀K,PySem.W.kitOne K (.type "dict") (.type b)=J (cQ "dict" b)):Jp b:=by
 intro K t a;simp only[j_,Bs,or_false]at a;rcases a with rfl|rfl|rfl|rfl|rfl|rfl|rfl
 .exact z K
 .exact i K
 .exact j K
 .exact f K
 .exact u K
 .exact y K
 .exact l K
def CG:Jp "int":=rE (λ_=>rfl) (λ_=>rfl) (λ_=>rfl) (λ_=>rfl) (λ_=>rfl) (λ_=>rfl) (λ_=>rfl)
def Ah:Jp "bool":=rE (λ_=>rfl) (λ_=>rfl) (λ_=>rfl) (λ_=>rfl) (λ_=>rfl) (λ_=>rfl) (λ_=>rfl)
def sI:Jp "list":=rE (λ_=>rfl) (λ_=>rfl) (λ_=>rfl) (λ_=>rfl) (λ_=>rfl) (λ_=>rfl) (λ_=>rfl)
def oq{Kh:SK}{Z:L2.St}{H:Hp}{s:Shared}{U:SX}{h:MH}{x:PV}{F:V}{u:Value}{t:String}(f:Inv X Kh Z H s)(Q:RH X.K X.mg U H h)(P:RP X.K U H x F)(j:aR F u)(e:Bb h x=J t):
  t∈["NoneType","bool","int","str","tuple","list","dict"]/\u≠.builtin "__main__.__loader__#opaque"/\∃E,PySem.W.KitX X.K u (.type t) E/\E s.heap:=by
 cases P with
 |non=>cases e;cases j;exact⟨by simp,(λz=>nomatch z),_,PySem.W.kitx_none,trivial⟩
 |bl b=>cases e;cases j;exact⟨by simp,(λz=>nomatch z),_,PySem.W.kitx_bool,trivial⟩
 |int i=>cases e;obtain⟨t,rfl⟩:=j;exact⟨by simp,(λz=>nomatch z),_,PySem.W.kitx_int,trivial⟩
 |str i=>cases e;obtain⟨t,rfl⟩:=j;exact⟨by simp,(λz=>nomatch z),_,PySem.W.kitx_str,trivial⟩
 |tup C M =>
  cases e;cases j;obtain⟨l,L,⟨o,e1,e2,_⟩,_⟩:=f.tuple C;exact⟨by simp,(λz=>nomatch z),_,PySem.W.kitx_tuple,⟨o,e1,e2⟩⟩
 |frl C M =>
  cases e;cases j;obtain⟨l,L,⟨o,m,e1,e2,_,e3⟩,_⟩:=f.list C.sq;exact⟨by simp,(λz=>nomatch z),_,PySem.W.kitx_list,⟨o,e1,e2⟩⟩
 |@loc n a R =>
  obtain⟨O,eo,y⟩:=Q.obj R;dsimp only[Bb]at e;rw[eo]at e;cases j
  cases O with
  |lst xs =>
   cases e;obtain⟨ys,B,_⟩:=y;obtain⟨l,L,⟨o,m,e1,e2,_,e3⟩,_⟩:=f.list (SqL.of B);exact⟨by simp,(λz=>nomatch z),_,PySem.W.kitx_list,⟨o,e1,e2⟩⟩
  |dic ab =>
   cases e;obtain⟨_,B⟩:=y;obtain⟨_,_,vs,_,p⟩:=(f.hok a _ B);obtain⟨o,es,ep,h1,S,_⟩:=p;exact⟨by simp,(λz=>nomatch z),_,PySem.W.kitx_dict,⟨o,h1,S.1⟩⟩
  |exc x=>cases e
def wW(g:Good X N W G k){a:Expr}{m:Mx PV}{f:String}{c:Str}{i j:Nat}{p q y:Pos}(hi:G[i]?=J "isinstance")(hm:X.mg "isinstance"=Y)(R:G[j]?=J c)(hc:X.mg c=Y)(hv:bootBuiltins c=J (.type f))(hT:Jp f)(ha:ME X a m)(S:starEach [a,.Name c q] X.env=(T,eval a X.env)::starEach [.Name c q] X.env:=by rfl)(M:starEach [.Name c q] X.env=[(T,eval (.Name c q) X.env)]:=by rfl)(P:(backTo y (starEach [.Name c q] X.env)).any (·.1)=T:=by rfl):
  ME X (.Call (.Name "isinstance" p) [a,.Name c q] [] y) (Cs (oQ [f]) m):=by
 have d1:=g.dbg _ (pu _ (az hi));have d:=g.dbg c (pu _ (az R));have l:bK X (.builtin "isinstance") (λxs H Q=>∃z,xs=[z,.ty f]/\uJ X (oQ [f]) z H Q):=by
  intro Kh s Z H xs us Q u r ⟨z,e,U,h,x,B,C,q⟩;subst e
  cases r with
  |cons r1 t1=>cases t1 with
   |cons r2 t2 =>
    cases t2;obtain rfl:=(r2);unfold oQ at q
    cases E:Bb h x with
    |none=>rw[E]at q;exact q.elim
    |some t =>
     rw[E]at q;obtain⟨ht,F,Hq,Za,hz⟩:=oq u B C r1 E
     exact PySem.W.kia_one Za u.kIn hz (hT X.K t ht) F λtk=>⟨.bl _,H,u.tok _,rfl,by
      have q':=q U H _ (Le.refl _ _) B (.bl _)
      simpa using q'⟩
 refine PE.imp (dD l (g.gl _ (az hi)) hm PyProof.Rows.Boot.«isinstance» (bY ha (bY (tJ (v:=.ty f) (g.gl c (az R)) hc hv rfl d.2.2 d.1) dZ M) S) d1.2.2 d1.1 S P) λZ H Q ⟨U,L,h,rs,B,q⟩=>?_;exact⟨U,L,h,rs,B,Ful.bind q λU1 H1 x z h1 _ l1 O C q1=>⟨z,rfl,U1,h1,x,O,C,q1.zero⟩⟩
def Gp(K:h8)(mg:AE)(F:SM->MH->S4):Sp:=λu H Q E=>∃U j h,RPs K U H j u/\RH K mg U H h/\match F j h with
 |.ok v i=>∀f a l,Le U H f a->RH K mg f a i->RP K f a v l->Q l a
 |.exc x i=>∀C f a,x.fs=[]->mg x.cls=J (.ref C)->Le U H f a->RH K mg f a i->E (.ref C) Y a
 |.bad=>False
def Jq(P:Program)(w:World):Bm:=λouter H s E e a=>∃i C f,e=.ref i/\a.os=s.os/\AllBare a.gens/\Un (wm outer) [] H f s.heap a.heap/\HOk P w f a.heap/\O7 outer f s.heap C i a.heap/\E (.ref C) Y f
structure Cal(X:Cx)(x:Str)(ps:SQ)(F:SM->MH->S4)(k:Nat):Prop where
 ex:∃f fd,X.mg x=J (.ref f)/\PySem.W.keepIn X.K (.ref f)=I/\mL X.K fd ps []/\FnOk X.prog X.w X.K X.mg X.base (Jq X.prog X.w) k f fd ps (Gp X.K X.mg F)
def Cal.to(c:Cal X x ps F i)(e1:g.prog=X.prog)(e2:g.w=X.w)(e3:g.K=X.K)(e4:g.mg=X.mg)(e5:g.base=X.base):Cal g x ps F i:=by obtain⟨f,fd,a,b,d,e⟩:=c.ex;refine⟨f,fd,by rw[e4];exact a,by rw[e3];exact b,by rw[e3];exact d,?_⟩;rw[e1,e2,e3,e4,e5];exact e
def bE(F:SM->MH->S4)(m:Mx (SM)):Mx PV:=λZ h=>(m Z h).bind F
def uN(g:Good X N W G k){x:Str}{j:Nat}(hj:G[j]?=J x){ps:SQ}{F:SM->MH->S4}(C:Cal X x ps F k){e:Expr}{es:S3}{m:Mx (SM)}{p P:Pos}(ha:MA X (e::es) m)(he:starEach (e::es) X.env=(T,eval e X.env)::starEach es X.env:=by rfl)(ap:(backTo P (starEach es X.env)).any (·.1)=T:=by rfl):ME X (.Call (.Name x p) (e::es) [] P) (bE F m):=by
 obtain⟨f,fd,hm,hk,hb,F'⟩:=C.ex;have d:=g.dbg x (pu _ (az hj));intro Kh s Z H Q R ⟨U,al,h,rs,rh,q⟩;refine wpAny_Call_Name_kw (oz R (g.gl x (az hj)) hm ?_ d.1)
 refine PySem.W.callWith_K R.ok.mod.kin hk (k_ (ha P Kh s Z H (λvs B=>∃y xs M,Le U H y B/\RH X.K X.mg y B M/\RPs X.K y B xs vs/\Ful X (RV' X) al y B (F xs M) Q) R
  ⟨U,al,h,rs,rh,Ful.bind q λy B xs vs M _ l1 L rx O=>⟨y,xs,M,l1,L,rx,O⟩⟩) λus S ⟨vs,B,I1,r,y,xs,M,l1,L,rx,O⟩=>⟨I1.kIn,?_⟩) he ap
 have run:∀E:XK,Gp X.K X.mg F vs B Q E->(∀ea C i l,l.os=S.os->AllBare l.gens->Un (wm X.stack) [] B i S.heap l.heap->HOk X.prog X.w i l.heap->O7 X.stack i S.heap C ea l.heap->E (.ref C) Y i->X.xe (.ref ea) l) ->
   wpAny (model X.prog X.w) X.A (call (.ref f) us) (EP X Kh Z Q) X.xe S:=λE am hE=>by
  have hl:(us++[]).length=ps.length:=by rw[En,<-r.length];exact F'.len _ _ _ _ am
  have ab:=hb S us I1.kIn hl;rw[En]at ab;refine wpAny_call (codeAny_mono (F'.run X.A X.stack S B ⟨us,[]⟩ us vs Q E g.room I1.env0 ab r am) λr l hq=>?_)
  cases r with
  |error e =>
   obtain⟨ea,C,i,rfl,a1,a2,a3,a4,a5,a6⟩:=hq;exact hE ea C i l a1 a2 a3 a4 a5 a6
  |ok fl =>
   cases fl with
   |ret u=>exact I1.after hq
   |next=>exact False.elim hq
   |brk=>exact False.elim hq
   |cont=>exact False.elim hq
 cases eF:F xs M with
 |bad=>rw[eF]at O;exact O.elim
 |ok v h' =>
  rw[eF]at O;exact run (λ_ _ _=>False) ⟨y,xs,M,rx,L,by rw[eF];exact O⟩ λ_ _ _ _ _ _ _ _ _ z=>z.elim
 |exc x' h' =>
  rw[eF]at O;refine run (λc _ i=>∃C U',c=.ref C/\x'.fs=[]/\X.mg x'.cls=J (.ref C)/\Le y B U' i/\RH X.K X.mg U' i h') ⟨y,xs,M,rx,L,by rw[eF];exact λC U' i a b c d=>⟨C,U',rfl,a,b,c,d⟩⟩ λea C i l a1 a2 a3 a4 a5 a6=>?_;obtain⟨C',U',eC,b1,b2,b3,b4⟩:=a6;cases eC;have IX:=I1.call' (s':=l) a1 a3 a4 a2 (λb z=>absurd z (by simp));have an:=Inv.unpinned (Kh:=[]) IX;exact O ea C U' i Z l S.heap b1 b2 b3 b4 (rs.le (l1.trans b3)) an (Inv.bears I1) a5
def ci(n:Nat)(a:SM):k4:=a.map J++List.replicate (n-a.length) Y
def eD(n i:Nat)(m:l_):SM->MH->S4:=λf h=>if f.length=i then (match m (ci n f) h with
 |.nx _ a=>.ok .non a
 |.rt v a=>.ok v a
 |.exc x _ a=>.exc x a
 |.rse x _ a=>.exc x a
 |_=>.bad)else .bad
def zX{K:h8}{U:SX}{H:Hp}{N:SQ}{a:SM}{f:List V}(r:RPs K U H a f):RS K U H (ci N.length a) (L2.start N f):=by
 have l:=r.length;refine⟨by simp[ci,L2.start,l],λi v e=>?_⟩;unfold ci at e;by_cases j:i<a.length
 .rw[vj (by simpa using j),wl]at e
  cases q:a[i]? with
  |none=>rw[q]at e;cases e
  |some x =>
   rw[q]at e;cases e;obtain⟨u,z,y⟩:=r.get q;refine⟨u,?_,y⟩;unfold L2.start;rw[vj (by simp;lia),wl,z];rfl
 .rw[AX (by simpa using j),BP]at e
  split at e<;>cases e
def qJ{B h:Heap}(k:B.StaysIn h){b:Addr}{o a:Obj}(e1:B.get? b=J a)(e2:h.get? b=J o):a=o:=by
 have:=k b a e1
 rw[e2]at this;exact(Option.some.inj this).symm
def uS{X:Cx}{Z':L2.St}{M:Hp}{O:Shared}{F B:Heap}(f:Inv X [] Z' M O)(S:X.ex=[])(Z:B.StaysIn O.heap)(H:B.StaysIn F)(U:O.heap.UpToSlots F)(E:∀b o,X.s₀.heap.get? b=J o->b∉X.fs->∃i,B.get? b=J i)(C:∀b o,M b=J o->∃i,B.get? b=J i):Un X.fs [] X.H₀ M X.s₀.heap F/\HOk X.prog X.w M F:=by
 have j:∀b:Addr,b∉X.ex:=λb=>by rw[S];simp
 have kp:∀b o i,B.get? b=J i->O.heap.get? b=J o->F.get? b=J o:=λb o i e1 e2=>by
  have:=qJ Z e1 e2
  subst this;exact H b i e1
 refine⟨⟨λb o e n hf _=>?_,λb o e n hf _=>?_,λb o e n _=>f.base.free b o e n (j b),λb o e _=>?_,f.base.tups,f.base.frzs,f.base.tbls⟩,λa o e=>?_⟩
 .obtain⟨i,l⟩:=E b o e hf;exact kp b o i l (f.base.keep b o e n hf (j b))
 .obtain⟨sl,e1⟩:=f.base.slot b o e n hf (j b);obtain⟨_,oF,y,Q⟩:=f.ok.funs.mem hf;rw[e]at y;cases y;obtain⟨L,e2⟩:=U b _ e1 (λP z=>Q P z);exact⟨L,e2⟩
 .by_cases hf:b∈X.fs
  .obtain⟨_,oF,y,Q⟩:=f.ok.funs.mem hf;rw[e]at y;cases y;obtain⟨sl,e1⟩:=f.base.slot b o e (f.ok.frf b hf) hf (j b);obtain⟨L,e2⟩:=U b _ e1 (λP z=>Q P z);exact⟨_,e2⟩
  .obtain⟨i,l⟩:=E b o e hf;exact⟨i,H b i l⟩
 .refine (f.hok a o e).stay (λb u R z=>?_) (λ_ z=>z) λ_ _ z=>z;rcases R with rfl|R
  .obtain⟨i,l⟩:=C _ _ e;exact kp _ u i l z
  .obtain⟨i,l⟩:=C _ _ R;exact kp _ u i l z
def _root_.L2.ObjOk.has(x:ObjOk P w H h a o):∃u,h.get? a=J u:=by
 cases o with
 |lst xs=>obtain⟨_,_,_,_,e⟩:=x;exact⟨_,e⟩
 |tup xs=>obtain⟨_,_,_,o,e,_⟩:=x;exact⟨o,e⟩
 |dK i=>obtain⟨_,_,_,_,o,_,_,e,_⟩:=x;exact⟨o,e⟩
 |dT i=>obtain⟨_,_,_,_,o,_,_,e,_⟩:=x;exact⟨o,e⟩
 |set S n=>obtain⟨o,_,_,_,e,_⟩:=x;exact⟨o,e⟩
 |ins C l fs=>obtain⟨_,_,_,e,_⟩:=x;exact⟨_,e⟩
 |own y=>obtain⟨o,e⟩:=x;exact⟨o,e⟩
 |xd fs=>obtain⟨_,⟨o,_,_,e,_⟩,_⟩:=x;exact⟨o,e⟩
 |rng lo B=>obtain⟨_,_,_,e⟩:=x;exact⟨_,e⟩
 |frz j u=>obtain⟨e,_⟩:=x;exact⟨_,e⟩
 |tbl z=>exact⟨_,(x)⟩
 |met f y=>exact⟨_,(x)⟩
 |ext φ=>obtain⟨_,⟨o,e⟩,_⟩:=x;exact⟨o,e⟩
structure ip(X:Cx):Prop where
 stk:X.stack=X.env::X.outer
 fr:X.env.frame=J X.env.locals
 ex:X.ex=[]
def O8{P:Program}{w:World}{K:h8}{mg:S6}{base:Heap}{x a:Str}{st:Stmt}{f:Addr}{fd:FuncData}{ps:SQ}{m:l_}(Fu:Fun K x a st f fd)(S:s_ N ps (ah st))(hl:∀y∈N,Loc (ah st) y)(a6:∀y∈G,(ah st).names.lookup y=J .globalImplicit)(dbg:∀x∈N++G,(x==("__debug__":Str))=T/\(x==("__classdict__":Str))=T/\x≠"__name__")(hb:∀X:Cx,X.prog=P->X.w=w->X.K=K->X.mg=mg->X.base=base->X.env.scope=ah st->Good X N N G k->ip X->Av X (aJ st) m):
  FnOk P w K mg base (Jq P w) (k+1) f fd ps (Gp K mg (eD N.length ps.length m)):=by
 have len:∀vs H Q E,Gp K mg (eD N.length ps.length m) vs H Q E->vs.length=ps.length:=by
  rintro vs H Q E ⟨U,zs,h,r,rh,q⟩;rw[<-r.length];unfold eD at q;by_cases hp:zs.length=ps.length
  .exact hp
  .rw[c_ hp]at q;exact q.elim
 obtain⟨oc,od,kV,bm,pm,an,i,ct,bi,rfl,lk,a4⟩:=Fu.ex;refine Km lk a4 S len λA outer s H vs Q E hr a8=>?_;obtain⟨U,zs,h,r,rh,q⟩:=a8;refine⟨_,hb _ rfl rfl rfl rfl rfl rfl ⟨rfl,S.nd,hl,λ_ _=>.inl rfl,a6,dbg,rfl,hr,PassesOwn.leaving⟩ ⟨rfl,rfl,rfl⟩,U,ci N.length zs,h,zX r,rh,?_⟩;unfold eD at q;by_cases hp:zs.length=ps.length
 .rw[b_ hp]at q
  cases e:m (ci N.length zs) h with
  |nx Z' h'=>rw[e]at q;exact λU' R Z' l r' s'=>q U' R .non l r' .non
  |rt v h'=>rw[e]at q;exact q
  |bk Z h'=>rw[e]at q;exact q.elim
  |ct Z h'=>rw[e]at q;exact q.elim
  |bad=>rw[e]at q;exact q.elim
  |exc x Z h' =>
   rw[e]at q;intro ea C U' R Z' s' bj ab al l am a2 F a3 a9;obtain⟨B,t,ax,O,ay,as⟩:=a9;refine wpAny_leaves_onW (base:=B) (env:=envOfC a (ah st) s.heap.objs.size f i) (outer:=outer) F.ok.frames rfl ax λa0 j sm=>?_;have L:∀b o,s.heap.get? b=J o->b∉wm outer->∃ob,B.get? b=J ob:=λb o eb hf=>by
    obtain⟨o',e'⟩:=a3.old b o eb (by show b∉([]:SX);simp);refine ay b o' e' λhm=>?_;rcases j_.mp (F.stkSub b hm)with z|z
    .exact absurd (nj eb) (by rw[z];exact At _)
    .exact hf z
   obtain⟨un,ap⟩:=uS (B:=B) F rfl ax.1 j.1 sm L O;exact⟨ea,C,R,rfl,F.os,F.bare,un,ap,⟨B,t,j,O,L,as⟩,q C U' R ab al l am⟩
  |rse x Z h' =>
   rw[e]at q;intro ea C U' R Z' s' h0 be ab al l am a2 F M;have a5:=F.stack;have a1:∀env∈(envOfC a (ah st) s.heap.objs.size f i::outer),∀b,env.frame=J b->b∈wm (envOfC a (ah st) s.heap.objs.size f i::outer):=λenv he b hb=>BS.mpr ⟨env,he,hb⟩;refine wpAny_leaves_madeW (base:=PySem.W.hideAll h0 (wm (envOfC a (ah st) s.heap.objs.size f i::outer))) (h:=h0) (env:=envOfC a (ah st) s.heap.objs.size f i) (outer:=outer) F.ok.frames rfl (λb o z=>PySem.W.of_hideAll _ z)
    (PySem.W.funFrames_hide (base:=base) a5 a1) M λa0 t j _ _ sm=>?_
   have sub:∀b,b∈wm (envOfC a (ah st) s.heap.objs.size f i::outer)->b=s.heap.objs.size\/b∈wm outer:=λb hm=>j_.mp (F.stkSub b hm);have L:∀b o,s.heap.get? b=J o->b∉wm outer->∃ob,(PySem.W.hideAll h0 (wm (envOfC a (ah st) s.heap.objs.size f i::outer))).get? b=J ob:=λb o eb hf=>by
    obtain⟨o',e'⟩:=F.base.there b o eb (by show b∉([]:SX);simp);refine⟨o',PySem.W.hideAll_get _ e' λhm=>?_⟩;rcases sub b hm with z|z
    .exact absurd (nj eb) (by rw[z];exact At _)
    .exact hf z
   have O:∀b o,R b=J o->∃ob,(PySem.W.hideAll h0 (wm (envOfC a (ah st) s.heap.objs.size f i::outer))).get? b=J ob:=λb o eb=>by
    obtain⟨u,eu⟩:∃u,h0.get? b=J u:=(F.hok b o eb).has;refine⟨u,PySem.W.hideAll_get _ eu λhm=>?_⟩
    have:=F.stkFree b hm
    rw[eb]at this;cases this
   have a7:h0.UpToSlots a0:=(Heap.UpToSlots.of_keeps M.keeps).trans sm;obtain⟨un,ap⟩:=uS (B:=PySem.W.hideAll h0 (wm (envOfC a (ah st) s.heap.objs.size f i::outer))) F rfl (λb o z=>PySem.W.of_hideAll _ z) j.1 a7 L O;have as:R ea=Y:=by
    cases z:R ea with
    |none=>rfl
    |some o =>
     obtain⟨u,eu⟩:=(F.hok ea o z).has;rw[M.new]at eu;cases eu
   exact⟨ea,C,R,rfl,F.os,F.bare,un,ap,⟨_,t,j,O,L,as⟩,q C U' R ab al l am⟩
 .rw[c_ hp]at q;exact q.elim
def vl(v:PV)(h:MH):Out MIt:=match v with
 |.loc n=>(match h[n]? with
  |some (.lst xs)=>.ok ⟨xs,[(n,xs)]⟩ h
  |_=>.bad)
 |.frl xs=>.ok ⟨xs,[]⟩ h
 |.tup xs=>.ok ⟨xs,[]⟩ h
 |_=>.bad
def kq(m:Mx PV):Mx MIt:=λZ h=>(m Z h).bind vl
def yb(y:ME X l m):MI X tg l (kq m):=by
 intro B s Z H R f ⟨U,a,h,u,j,q⟩;by_cases z:∃xs i,m a h=.ok (.tup xs) i
 .obtain⟨xs,i,e⟩:=z;refine Gg y B s Z H R f ⟨U,a,h,u,j,?_⟩;unfold kq at q;unfold KC;rw[e]at q ⊢;exact q
 .refine CA y B s Z H R f ⟨U,a,h,u,j,?_⟩;unfold kq at q;unfold KA
  cases e:m a h with
  |ok v i =>
   rw[e]at q
   cases v with
   |tup xs=>exact absurd ⟨xs,i,e⟩ z
   |_=>exact q
  |exc x i=>rw[e]at q;exact q
  |bad=>rw[e]at q;exact q
def Inv.bigM{f:SK}{Z:L2.St}{H:Hp}{s:Shared}(a:Inv X f Z H s):sysModules<s.heap.objs.size:=by have h:=(a.mod.glob.keeps a.bk).lt;exact Nl (by decide) h
def Gq:Mx PV:=λ_ h=>.ok (.loc h.length) (h++[.dic []])
def CH:ME X (.Dict [] [] pos) Gq:=λy s Z H Q a ⟨U,j,h,u,f,q⟩=>by
 have hf:=a.hok.fresh (iv _);obtain⟨i,l⟩:=f.new hf (o:=.dic []) ⟨rfl,rfl⟩;refine wpAny_Dict_empty ⟨.ref s.heap.objs.size,_,a.laid (t':=s.toks) (λ_ _ q=>n6 _ q) (iv _) ?_,rfl,q _ _ _ l i (.loc (by rw[<-f.len];simp))⟩;exact⟨u0 _,beq_eq_false_iff_ne.mpr (Ne.symm (sv (Inv.bigM a))),[],.nil,Heap.DictOf.new s.heap⟩
structure FnAt(P:Program)(w:World)(K:h8)(mg:S6)(base:Heap)(x:Str)(ps:SQ)(F:SM->MH->S4)(k:Nat):Prop where
 ex:∃f fd,mg x=J (.ref f)/\PySem.W.keepIn K (.ref f)=I/\mL K fd ps []/\FnOk P w K mg base (Jq P w) k f fd ps (Gp K mg F)/\∃oc od osl,K.lookup f=J ⟨oc,od,.func fd,osl⟩
def FnAt.mono{P:Program}{w:World}{K:h8}{mg:S6}{base:Heap}{x:Str}{l:SQ}{F:SM->MH->S4}{i j:Nat}(c:FnAt P w K mg base x l F i)(h:i<=j):FnAt P w K mg base x l F j :=
 let⟨f,fd,a,b,d,e,z⟩:=c.ex;⟨f,fd,a,b,d,e.mono h,z⟩
def FnAt.cal{P:Program}{w:World}{K:h8}{mg:S6}{base:Heap}{x:Str}{j:SQ}{F:SM->MH->S4}{i:Nat}(c:FnAt P w K mg base x j F i){X:Cx}(e1:X.prog=P)(e2:X.w=w)(e3:X.K=K)(e4:X.mg=mg)(e5:X.base=base):Cal X x j F i:=by subst e1;subst e2;subst e3;subst e4;subst e5;obtain⟨f,fd,a,b,d,e,_⟩:=c.ex;exact⟨f,fd,a,b,d,e⟩
structure g_(K:h8)(x:Str)(st:Stmt):Prop where
 ex:∃f fd,PySem.W.nsIn K mainGlobals x=J (J (.ref f))/\Fun K x x st f fd
def BE{K:h8}{x:Str}{st:Stmt}{f:Addr}{z:Value}{j y:TL}{sl:Array (S0)}{kV u pm i ct:Value}(a:PySem.W.nsIn K mainGlobals x=J (J (.ref f)))(l:K.lookup f=J ⟨z,j,.func (PySem.W.fnOf x x (gQ st) (aJ st) (ah st) .none kV u pm y i ct),sl⟩)(c:PySem.W.codeIn K i x=I)(kp:PySem.W.keepIn K (.ref f)=I):g_ K x st :=
 ⟨f,_,a,F1 l c kp⟩
def iS(x:Str)(st:Stmt)(j:SQ):Prop:=∀(kV f pm:Value)(l:TL)(a ct:Value)(i:SH),i.length=j.length->bindArgs (PySem.W.fnOf x x (gQ st) (aJ st) (ah st) .none kV f pm l a ct) ⟨i,[]⟩=pure (j.zip i)
def wO{P:Program}{w:World}{K:h8}{mg:S6}{base:Heap}{x:Str}{st:Stmt}{j:SQ}{m:l_}(kin:K.In base)(ns:base.Ns mainGlobals mg)(D:g_ K x st)(S:s_ N j (ah st))(B:iS x st j)(L:∀y∈N,(ah st).names.lookup y=J .local\/(ah st).names.lookup y=J .cell)(l:∀y∈G,(ah st).names.lookup y=J .globalImplicit)(dbg:∀x∈N++G,(x==("__debug__":Str))=T/\(x==("__classdict__":Str))=T/\x≠"__name__")(M:∀X:Cx,X.prog=P->X.w=w->X.K=K->X.mg=mg->X.base=base->X.env.scope=ah st->Good X N N G k->ip X->Av X (aJ st) m):
  FnAt P w K mg base x j (eD N.length j.length m) (k+1):=by
 obtain⟨f,fd,a,i⟩:=D.ex;have H:=i.ex;obtain⟨E,F,kV,z,pm,O,C,ct,u,e1,e2,_⟩:=H;exact⟨f,fd,PySem.W.mg_of kin ns a,i.kp,i.binds B,O8 i S L l dbg M,E,F,u,e2⟩
def Gr{P:Program}{w:World}{K:h8}{mg:S6}{h:Heap}{x y:Str}{st:Stmt}{F:SM->MH->S4}{z:Addr}(D:g_ K x st)(B:iS x st [y])(i:mg x=J (.ref z))(kin:K.In h)(ns:h.Ns mainGlobals mg)(H:∀base:Heap,K.In base->base.Ns mainGlobals mg->FnAt P w K mg base x [y] F k):
  ∃fd:FuncData,(∀(s:Shared)(u:Value),BindsTo s fd ⟨[u],[]⟩ [(y,u)])/\∀base:Heap,K.In base->base.Ns mainGlobals mg->FnOk P w K mg base (Jq P w) k z fd [y] (Gp K mg F):=by
 obtain⟨f,fd,a,L⟩:=D.ex;have e:=i.symm.trans (PySem.W.mg_of kin ns a);obtain⟨oc,od,kV,j,pm,E,l,ct,R,e1,e2,e3⟩:=L.ex;refine⟨fd,λs u=>.of_eq ?_,λbase kb nb=>?_⟩
 .rw[e1];exact B kV j pm E l ct [u] rfl
 .obtain⟨U,Q,S,g2,Z,g4,O,M,C,g5⟩:=(H base kb nb).ex
  grind
def KI(K:h8):Sp:=λi H Q _=>∃(a:Addr)(ns:SS),i=[.ref a]/\SqF K H a (ns.map V.int)/\ns.length<=63/\∀f,Q (.bl I) f
def Gs{l:PySem.W.OpenLaw}{q:Program}{loose:SQ}{XP:(Str->S0)->Heap->Prop}{O:World->Heap->Prop}{d:DefRec}{K:Params->h8}{x:Str}{F:SM->MH->S4}(hn:l.most=J 63)(M:d.params.defaults=[])(hr:Room k callerA)(S:∀(w:World)(h:Heap),O w h->(K w.params).In h)(HF:∀(w:World)(mg:S6)(i:Addr)(h:Heap),(K w.params).In h->h.Ns mainGlobals mg->mg d.name=J (.ref i) ->
   ∃fd:FuncData,(∀(s:Shared)(u:Value),BindsTo s fd ⟨[u],[]⟩ [(x,u)])/\∀base:Heap,(K w.params).In base->base.Ns mainGlobals mg->FnOk l.prog w (K w.params) mg base (Jq l.prog w) k i fd [x] (Gp (K w.params) mg F))(U:∀ns:SS,ns.length<=63->∃R,F [.frl (ns.map .int)] []=.ok (.bl I) R):
  PySem.W.WalkO q loose XP O l.row.toRowW d [] (λf P=>PySem.call f P):=by
 refine L2.Cr (x:=x) (CX:=λw=>Jq l.prog w) (sp:=λw=>KI (K w.params)) hn (by decide) M hr S (λw mg i h Z B j=>?_) (λw H a ns L hO hS=>?_) λw H s e s' z=>?_
 .obtain⟨fd,hb,hF⟩:=HF w mg i h Z B j;refine⟨fd,hb,λbase kb nb=>(hF base kb nb).imp λP H Q E z=>?_⟩;obtain⟨a,ns,rfl,C,L,hq⟩:=z;obtain⟨R,e⟩:=U ns L;refine⟨[],[.frl (ns.map .int)],[],.cons (.frl C (RPs.ints ns)) .nil,⟨rfl,Ni,λn a o z _=>by simp at z⟩,?_⟩;rw[e];intro U' H' v' _ _ r;cases r;exact hq H'
 .have C:SqF (K w.params) H a (ns.map V.int):=by
   rcases hS with(z|z)|z
   .rcases hO a with y|⟨o,xs,y⟩
    .rw[y]at z;cases z
    .rw[y]at z;cases z
   .exact .inl z
   .exact .inr z
  exact⟨a,ns,rfl,C,L,λ_=>rfl⟩
 .obtain⟨_,_,_,_,_,_,_,_,_,z⟩:=z;exact z
end
section
variable{α:Type}{Z:k4}{h:MH}
@[simp]theorem vM:mC v Z h=.ok v h:=rfl
@[simp]theorem ng{v:PV}{r:k4}:af 0 (J v::r) h=.ok v h:=rfl
@[simp]theorem nh{i:Nat}{o:TM}{r:k4}:af (i+1) (o::r) h=af i r h:=by simp[af]
@[simp]theorem CJ:ao f a b Z h=(a Z h).bind λx h1=>(b Z h1).bind λy h2=>(f x y h2).ne:=rfl
@[simp]theorem O9:Cs f a Z h=(a Z h).bind λx h1=>(f x h1).ne:=rfl
@[simp]theorem O_:vx f a Z h=(a Z h).bind λx h1=>(f x h1).ne:=rfl
@[simp]theorem jx:bE f a Z h=(a Z h).bind f:=rfl
@[simp]theorem eM:e_ Z h=.ok [] h:=rfl
@[simp]theorem eB:ae a r Z h=(a Z h).bind λx h1=>(r Z h1).bind λxs h2=>.ok (x::xs) h2:=rfl
@[simp]theorem uM:dC a Z h=(a Z h).bind sf:=rfl
@[simp]theorem Nv:Cv a Z h=(a Z h).bind wn:=rfl
@[simp]theorem Nw:Gq Z h=.ok (.loc h.length) (h++[.dic []]):=rfl
@[simp]theorem Ro:mB a Z h=(a Z h).bind λv h1=>match v with|.bl b=>.ok b h1|_=>.bad:=rfl
@[simp]theorem Nx:Ct a Z h=(a Z h).bind λb h1=>.ok (!b) h1:=rfl
@[simp]theorem Ny:F5 a b Z h=(a Z h).bind λx h1=>if x=I then b Z h1 else .ok T h1:=rfl
@[simp]theorem Pa:Jo a b Z h=(a Z h).bind λx h1=>if x=I then .ok I h1 else b Z h1:=rfl
@[simp]theorem KJ:vf a b Z h=(a Z h).bind λx h1=>match x with|.bl c=>if c=I then b Z h1 else .ok (.bl T) h1|_=>.bad:=rfl
@[simp]theorem KL:vW a Z h=(a Z h).bind λx h1=>match x with|.bl c=>.ok (.bl (!c)) h1|_=>.bad:=rfl
@[simp]theorem KN:lg Z h=.nx Z h:=rfl
@[simp]theorem bH:aL a b Z h=(a Z h).then b:=rfl
@[simp]theorem ag:(SOut.nx Z h).then k=k Z h:=rfl
@[simp]theorem iW:(SOut.rt v h).then k=.rt v h:=rfl
@[simp]theorem then_bk:(SOut.bk Z h).then k=.bk Z h:=rfl
@[simp]theorem then_ct:(SOut.ct Z h).then k=.ct Z h:=rfl
@[simp]theorem zP:(SOut.rse x Z h).then k=.rse x Z h:=rfl
@[simp]theorem zr:(SOut.exc x Z h).then k=.exc x Z h:=rfl
@[simp]theorem Ae:SOut.bad.then k=.bad:=rfl
def Out.rt(o:S4)(Z:k4):SOut:=match o with
 |.ok v a=>.rt v a
 |.exc x a=>.exc x Z a
 |.bad=>.bad
@[simp]theorem Rq:(Out.ok v h).rt Z=.rt v h:=rfl
@[simp]theorem Pc:(Out.exc x h:S4).rt Z=.exc x Z h:=rfl
@[simp]theorem Ph:(Out.bad:S4).rt Z=.bad:=rfl
@[simp]theorem CK:bO m Z h=(m Z h).rt Z:=rfl
def Out.go{α:Type}(o:Out α)(Z:k4)(k:α->l_):SOut:=match o with
 |.ok v a=>k v Z a
 |.exc x a=>.exc x Z a
 |.bad=>.bad
@[simp]theorem au:(Out.ok v h).go Z k=k v Z h:=rfl
@[simp]theorem go_exc:(Out.exc x h:Out α).go Z k=.exc x Z h:=rfl
@[simp]theorem go_bad:(Out.bad:Out α).go Z k=.bad:=rfl
@[simp]theorem Pj:zO m k Z h=(m Z h).go Z k:=rfl
@[simp]theorem r9:cj m Z h=(m Z h).go Z λ_=>lg:=rfl
@[simp]theorem xJ:AF c a b Z h=(c Z h).go Z λx=>if x=I then a else b:=rfl
@[simp]theorem fD:bf i m Z h=(m Z h).go Z λv Z h=>.nx (Z.set i (J v)) h:=rfl
@[simp]theorem Nz:lR m g Z h=(m Z h).go Z λv Z h=>match g v Z h with|.nx Z2 h2=>.nx Z2 h2|.exc x Z2 h2=>.exc x Z2 h2|_=>.bad:=rfl
@[simp]theorem Gu:wo i v Z h=.nx (Z.set i (J v)) h:=rfl
@[simp]theorem Pk:Ge [] Z h=.nx Z h:=rfl
@[simp]theorem Pm:Es a r (v::vs) Z h=(a v Z h).then (r vs):=rfl
@[simp]theorem Po:Gf r n (.tup xs) Z h=if xs.length=n then r xs Z h else .bad:=rfl
@[simp]theorem uX:jl mi g b Z h=(mi Z h).go Z λit=>vO it g b it.xs:=rfl
@[simp]theorem CM:kq m Z h=(m Z h).bind vl:=rfl
@[simp]theorem KO:eR m Z h=(m Z h).bind λvs h1=>match vs with
 |[.int j]=>if -(2^62)<=j/\j<2^62 then .ok ⟨bM 0 j.toNat,[]⟩ h1 else .bad
 |_=>.bad:=rfl
@[simp]theorem Pp:Kz mo mi v Z h=(mo Z h).go Z λo=>zO mi λi Z h=>match qG o i v h with
 |some h2=>.nx Z h2
 |none=>.bad:=rfl
def SOut.fin(o:SOut):S4:=match o with
 |.nx _ a=>.ok .non a
 |.rt v a=>.ok v a
 |.exc x _ a=>.exc x a
 |.rse x _ a=>.exc x a
 |_=>.bad
@[simp]theorem fin_exc:(SOut.exc x Z h).fin=.exc x h:=rfl
@[simp]theorem fin_rse:(SOut.rse x Z h).fin=.exc x h:=rfl
@[simp]theorem cR:(SOut.rt v h).fin=.ok v h:=rfl
@[simp]theorem fin_nx:(SOut.nx Z h).fin=.ok .non h:=rfl
theorem iX(e:ps.length=np):eD n np m ps h=(m (ci n ps) h).fin:=by unfold eD;rw[b_ e];rfl
end
section
variable{h:MH}{i j:Int}
@[simp]theorem KP:li (.int i) (.int j) h=.ok (.int (i+j)) h:=rfl
@[simp]theorem KQ:BC (.int i) (.int j) h=.ok (.int (i-j)) h:=rfl
@[simp]theorem NA:BD (.int i) h=.ok (.int (-i)) h:=rfl
@[simp]theorem NB:By (.int i) (.int j) h=.ok (.bl (decide (i<j))) h:=rfl
@[simp]theorem NC:Gi (.int i) (.int j) h=.ok (.bl (decide (i<=j))) h:=rfl
@[simp]theorem ND:Bz (.int i) (.int j) h=.ok (.bl (decide (j<i))) h:=rfl
@[simp]theorem NE:BA (.int i) (.int j) h=.ok (.bl (decide (j<=i))) h:=rfl
@[simp]theorem NF:AG (.int i) (.int j) h=.ok (.bl (decide (i=j))) h:=rfl
@[simp]theorem NG:vw (.int i) (.int j) h=.ok (.bl (!decide (i=j))) h:=rfl
@[simp]theorem NH:AG (.bl a) (.bl b) h=.ok (.bl (a==b)) h:=by simp[AG,rd,SeqAt.shaped,PyData.canLay0,PyData.depth,PyData.eqv]
@[simp]theorem NI:vw (.bl a) (.bl b) h=.ok (.bl (!(a==b))) h:=by simp[vw,rd,SeqAt.shaped,PyData.canLay0,PyData.depth,PyData.eqv]
theorem fu(a:j≠0):m_ (.int i) (.int j) h=.ok (.int (i.fmod j)) h:=by simp[m_,a]
def tE(f:j≠0)(a:j.natAbs.log2<9000):A_ (.int i) (.int j) h=.ok (.int (i.fdiv j)) h:=by simp[A_,f,PyProof.noPylong_of_log2 a]
def gN(a:-(2^64)<i/\i<2^64):jj (.int i) (.int j) h=.ok (.int (i*j)) h:=by simp[jj,IntMulOk.of_left (intBits_le_64 a.1 a.2)]
def CN(a:-(2^64)<j/\j<2^64):jj (.int i) (.int j) h=.ok (.int (i*j)) h:=by simp[jj,IntMulOk.of_right (intBits_le_64 a.1 a.2)]
def rG(a:0<=j/\j<=1000000/\i.natAbs<2^64):q7 (.int i) (.int j) h=.ok (.int (i^j.toNat)) h:=by simp[q7,eS,a]
@[simp]theorem Pq:AH [.int i] h=.ok (.int (if i<0 then -i else i)) h:=rfl
@[simp]theorem NJ:AI [.int i,.int j] h=.ok (.int (if j<i then j else i)) h:=rfl
@[simp]theorem NK:CD [.int i,.int j] h=.ok (.int (if j>i then j else i)) h:=rfl
@[simp]theorem Pr:CF [.int i] h=.ok (.int i) h:=rfl
@[simp]theorem Ps:CF [.bl b] h=.ok (.int (if b then 1 else 0)) h:=rfl
@[simp]theorem KR:u6 [.frl xs] h=.ok (.int xs.length) h:=rfl
@[simp]theorem KU:u6 [.tup xs] h=.ok (.int xs.length) h:=rfl
theorem jk(a:xs.length<=1000):sf xs h=.ok (.loc h.length) (h++[.lst xs]):=by unfold sf;rw[b_ (mh a (by decide))]
def uk(a:m<n):xl n (m:Int)=J m:=by unfold xl;rw[b_ ⋯,b_ ⋯];simp
@[simp]theorem iz:n5 (a::r) 0=J a:=fh (j:=0) rfl
@[simp]theorem KW:n5 (a::b::r) 1=J b:=fh (j:=1) rfl
@[simp]theorem Rr:n5 (a::b::c::r) 2=J c:=fh (j:=2) rfl
@[simp]theorem Rs:n5 (a::b::c::d::r) 3=J d:=fh (j:=3) rfl
def Out.ofO(o:TM)(h:MH):S4:=match o with
 |some v=>.ok v h
 |none=>.bad
@[simp]theorem KY:Out.ofO (J v) h=.ok v h:=rfl
@[simp]theorem KZ:bB (.tup xs) (.int i) h=Out.ofO (n5 xs i) h:=rfl
@[simp]theorem K1:bB (.frl xs) (.int i) h=Out.ofO (n5 xs i) h:=rfl
theorem ic(e:h[n]?=J (.lst xs)):bB (.loc n) (.int i) h=Out.ofO (n5 xs i) h:=by simp only[bB,e];rfl
def lx(e:h[n]?=J (.lst xs)):qG (.loc n) (.int i) v h=(xl xs.length i).map λp=>h.set n (.lst (xs.set p v)):=by simp only[qG,e]
@[simp]theorem Jr:vl (.tup xs) h=.ok ⟨xs,[]⟩ h:=rfl
@[simp]theorem Js:vl (.frl xs) h=.ok ⟨xs,[]⟩ h:=rfl
@[simp]theorem tU:(⟨xs,[]⟩:MIt).ok h↔True:=⟨λ_=>trivial,λ_ p hp=>nomatch hp⟩
@[simp]theorem CO:(⟨xs,[(n,zs)]⟩:MIt).ok h↔h[n]?=J (.lst zs):=by
 constructor
 .intro q;exact q (n,zs) (by simp)
 .intro q p hp;have e:=AD.mp hp;subst e;exact q
end
def SOut.turn(o:SOut)(k:l_):SOut:=match o with
 |.nx f a=>k f a
 |.ct f a=>k f a
 |.bk f a=>.nx f a
 |.rt v a=>.rt v a
 |.exc e f a=>.exc e f a
 |.rse e f a=>.rse e f a
 |.bad=>.bad
@[simp]theorem yL:(SOut.rse x Z h).turn k=.rse x Z h:=rfl
@[simp]theorem Ag:(SOut.exc x Z h).turn k=.exc x Z h:=rfl
@[simp]theorem turn_nx:(SOut.nx Z h).turn k=k Z h:=rfl
@[simp]theorem turn_ct:(SOut.ct Z h).turn k=k Z h:=rfl
@[simp]theorem turn_bk:(SOut.bk Z h).turn k=.nx Z h:=rfl
@[simp]theorem turn_rt:(SOut.rt v h).turn k=.rt v h:=rfl
theorem CP(e:it.ok h):vO it g b [] Z h=.nx Z h:=by rw[vO];dsimp only;rw[b_ e]
def yB(e:it.ok h)(a:g x Z h=.nx Z1 h1):vO it g b (x::r) Z h=(b Z1 h1).turn (vO it g b r):=by rw[vO];dsimp only;rw[b_ e,a];rfl
def qW(f:Nat->Shared->Prop)(turn:∀n s,f n s->wpAny (model prog w) A (pyNext it) (λr a=>match r with
   |none=>R (.ok .next) a
   |some v=>wpAny (model prog w) A (letOwnedTupleGo target it v) (λ_ i=>wpAny (model prog w) A (assign target env v) (λ_ B =>
     wpAny (model prog w) A (forIn ifs I λc r=>if r=I then do let ok <-isTrue c env (eval c env);pure (ForInStep.yield ok)else pure (ForInStep.yield r)) (λok j =>
      if ok=I then wpAny (model prog w) A (eval elt env) (λx u =>
       wpAny (model prog w) A (call (.builtin "list.append") [acc,x]) (λ_ z=>∃m,m<n/\f m z) (λ_ _=>False) u) (λ_ _=>False) j
      else ∃m,m<n/\f m j) (λ_ _=>False) B) (λ_ _=>False) i) (λ_ _=>False) a) (λ_ _=>False) s)(n:Nat)(h:f n s):
  codeAny (model prog w) A (.compLoop (.ListComp elt [⟨target,iter,ifs,0⟩] scope pos) 0 it acc env) R s:=by
 refine codeAny_loop rfl f (λn s L=>?_) n h;refine wpAny_noted ?_;rw[compTurn_list];refine d_ (wpAny_standAt (d_ (wpAny_mono (turn n s L) (λr a y=>?_) λ_ _ l=>l.elim)))
 cases r with
 |none=>exact il y
 |some v =>
  refine d_ (wpAny_mono y (λ_ i E=>?_) λ_ _ l=>l.elim);refine d_ (wpAny_mono E (λ_ B G=>d_ (wpAny_mono G (λok j C=>?_) λ_ _ l=>l.elim)) λ_ _ l=>l.elim)
  cases ok with
  |false=>exact il ⟨rfl,C⟩
  |true =>
   exact d_ (d_ (wpAny_mono C (λx u F=>d_ (wpAny_mono F (λ_ z H=>il (il ⟨rfl,H⟩)) λ_ _ l=>l.elim)) λ_ _ l=>l.elim))
def jz(env:Env):List (Str×NameKind)->List (Str×Addr)->List (Str×Addr)
 |[],a=>a
 |(n,k)::r,a=>jz env r (if(k==NameKind.free)=I then(n,(env.cells.lookup n).getD 0)::a else a)
def pS(h:∀y∈scope.names,y.2=.free->∃c,env.cells.lookup y.1=J c):closureFor scope env=pure (jz env scope.names []):=by
 have key:∀(l:List (Str×NameKind))(f:List (Str×Addr)),(∀y∈l,y.2=.free->∃c,env.cells.lookup y.1=J c) ->
   (forIn l f λ(x:Str×NameKind)(r:List (Str×Addr))=>if(x.2==NameKind.free)=I then(do let a <-cellOf env x.1;pure (ForInStep.yield ((x.1,a)::r)):Sem _)else pure (ForInStep.yield r))=(pure (jz env l f):Sem _):=by
  intro l
  induction l with
  |nil=>intro f _;rfl
  |cons y l B =>
   intro f E;obtain⟨n,k⟩:=y;rw[List.forIn_cons];have C:=λz F=>E z (nt _ F);by_cases i:(k==NameKind.free)=I
   .obtain⟨c,u⟩:=E (n,k) mu (by simpa using i);rw[b_ i];have j:cellOf env n=pure c:=by unfold cellOf;rw[u]
    rw[j];refine(B ((n,c)::f) C).trans ?_;simp only[jz,i,if_true,u,Aq]
   .rw[c_ i];refine(B f C).trans ?_;simp[jz,i]
 exact(congrArg (λz=>z >>= λr=>pure r) (key scope.names [] h)).trans rfl
def kX:∀(l:List (Str×NameKind))(f:List (Str×Addr)),(∀a,f.lookup x=J a->a=(env.cells.lookup x).getD 0)->(∀a,(jz env l f).lookup x=J a->a=(env.cells.lookup x).getD 0)/\((∃k,(x,k)∈l/\k=.free)\/(∃a,f.lookup x=J a)->∃a,(jz env l f).lookup x=J a):=by
 intro l
 induction l with
 |nil =>
  intro f h;refine⟨h,λz=>?_⟩;rcases z with⟨k,z,_⟩|z
  .cases z
  .exact z
 |cons y r E =>
  intro f h;obtain⟨n,k⟩:=y;have F:∀a,(if(k==NameKind.free)=I then(n,(env.cells.lookup n).getD 0)::f else f).lookup x=J a->a=(env.cells.lookup x).getD 0:=λa i=>by
   split at i
   .rw[B1]at i
    split at i
    .rename_i e
     have:x=n:=by simpa using e
     subst this;exact(Option.some.inj i).symm
    .exact h a i
   .exact h a i
  obtain⟨C,u⟩:=E _ F;refine⟨C,λz=>u ?_⟩;rcases z with⟨B,z,j⟩|⟨a,z⟩
  .rcases j_.mp z with e|e
   .cases e;right;subst j;exact⟨(env.cells.lookup x).getD 0,by simp⟩
   .exact .inl ⟨B,e,j⟩
  .right;split
   .rw[B1];split
    .exact⟨_,rfl⟩
    .exact⟨a,z⟩
   .exact⟨a,z⟩
def cy{env:Env}(l:env.scope.kind=.function):∀{names:List (Str×NameKind)}{x:Str}{k:NameKind},names.lookup x=J k ->
  (names.map λ(n,k)=>if(k==NameKind.free&&env.scope.kind == .function&&env.kindOf n==J .cell)then(n,NameKind.cell)else(n,k)).lookup x=J (if k=.free/\env.kindOf x=J .cell then .cell else k):=by
 intro names
 induction names with
 |nil=>intro x k h;simp at h
 |cons y r i =>
  intro x k h;obtain⟨n,f⟩:=y;have u:=@i x k;show List.lookup x ((if(f==NameKind.free&&env.scope.kind == .function&&env.kindOf n==J .cell)=I then(n,NameKind.cell)else(n,f))::_)=_
  cases a:x==n with
  |true =>
   have e:x=n:=by simpa using a
   subst e;simp only[B1,a]at h;cases h;by_cases z:k=.free/\env.kindOf x=J .cell
   .rw[b_ (by simp[z.1,z.2,l]),b_ z];simp
   .rw[c_ (by simp[l];intro C B;exact z ⟨C,B⟩),c_ z];simp
  |false =>
   simp only[B1,a]at h;by_cases j:(f==NameKind.free&&env.scope.kind == .function&&env.kindOf n==J .cell)=I
   .rw[b_ j];simp only[B1,a];exact u h
   .rw[c_ j];simp only[B1,a];exact u h
def dv(X:Cx)(a:Scope)(cl:List (Str×Addr))(f:Shared)(i:Hp)(l:SX)(j:SQ):Cx :=
 { X with N:=j,s₀:=f,H₀:=i,env:=compEnvC a cl f.heap.objs.size X.env,outer:=X.stack,ex:=l,fn:=λx=>decide (a.names.lookup x=J .cell),pn:=[],xe:=λ_ _=>False}
structure yQ(X:Cx)(N:SQ)(scope:Scope)(vars frees:SQ)(fm:SV):Prop where
 kind:scope.kind=.function
 cell:∀y∈scope.names,y.2=.cell->scope.names.lookup y.1=J .cell
 names:∀y∈scope.names,y.2=.local->scope.names.lookup y.1=J .local
 hv:∀x∈vars,scope.names.lookup x=J .local\/scope.names.lookup x=J .cell
 hf:∀x∈frees,scope.names.lookup x=J .free
 all:∀y∈scope.names,y.2=.free->y.1∈frees
 fm:fm.map (λi=>N[i]?)=frees.map J
 cl:∀x∈frees,X.env.kindOf x=J .cell
def Bn(a:Nat)(fm:SV)(Z:k4):k4:=List.replicate a Y++fm.map λi=>(Z[i]?).getD Y
def zi(a:MIt)(n:Nat)(gt:Mg)(mt:Mx Bool)(i:Mx PV):SM->k4->MH->Out Unit
 |[],_,h=>if a.ok h then .ok () h else .bad
 |x::r,Z,h=>if a.ok h then (match gt x Z h with
  |.nx f u=>(mt f u).ne.bind λb j=>if b=I then (i f j).ne.bind λv l=>(match l[n]? with
    |some (.lst ys)=>if ys.length<sizeLine then zi a n gt mt i r f (l.set n (.lst (ys++[v])))else .bad
    |_=>.bad)else zi a n gt mt i r f j
  |_=>.bad)else .bad
def d6(l:Nat)(fm:SV)(u:Mx MIt)(gt:Mg)(mt:Mx Bool)(j:Mx PV):Mx PV:=λZ h =>
 (u Z h).bind λf a=>(zi f a.length gt mt j f.xs (Bn l fm Z) (a++[.lst []])).bind λ_ i=>.ok (.loc a.length) i
def EA(X:Cx)(a:S3)(m:Mx Bool):Prop :=
 ∀(f:SK)(s:Shared)(Z:L2.St)(H:Hp)(Q:Bool->Hp->Prop),Inv X f Z H s->tM X Kv m Z H Q ->
  wpAny (model X.prog X.w) X.A (forIn a I λc r=>if r=I then do let ok <-isTrue c X.env (eval c X.env);pure (ForInStep.yield ok)else pure (ForInStep.yield r)) (TP X f Z Q) X.xe s
def vU:Mx Bool:=λ_ h=>.ok I h
def nX:EA X [] vU:=λl s Z H Q a ⟨U,f,h,j,i,q⟩=>wpAny_tests_nil ⟨H,a,q U H I (Le.refl _ _) i rfl⟩
def CQ(h:MT X c m):EA X [c] m:=λf s Z H Q a q=>wpAny_tests_one (h f s Z H Q a q)
inductive CS(X:Cx)(U:SX)(H:Hp)(σp:k4)(gt:Mg)(mt:Mx Bool)(me:Mx PV)(Z0:k4)(Q:VK)(J:It)(H1:Hp):Prop
 |mk(U1:SX)(it:MIt)(h1:MH)(l:Le U H U1 H1)(rh:RH X.K X.mg U1 H1 h1)(j:Cz X U1 H1 it J)(q:Ful X (RV' X) σp U1 H1 ((zi it h1.length gt mt me it.xs Z0 (h1++[.lst []])).bind λ_ h3=>.ok (.loc h1.length) h3) Q):CS X U H σp gt mt me Z0 Q J H1
inductive CI(X Y:Cx)(it:MIt)(tn:Nat->Heap->Prop)(fp U0:SX)(H0:Hp)(σp:k4)(n1:Nat)(gt:Mg)(mt:Mx Bool)(me:Mx PV)(Q:VK)(n:Nat)(s6:Shared):Prop
 |mk(i:Nat)(Z6:L2.St)(H6:Hp)(U6:SX)(σp6:k4)(h6:MH)(e:n=it.xs.length-i)(l:i<=it.xs.length)(v:Inv Y [] Z6 H6 s6)(t:tn i s6.heap)(f:∀b∈fp,H6 b=none)(le:Le U0 H0 U6 H6)(rs:RS X.K U6 H6 σp6 Z6)(rh:RH X.K X.mg U6 H6 h6)
   (q:Ful X (RV' X) σp U6 H6 ((zi it n1 gt mt me (it.xs.drop i) σp6 h6).bind λ_ h3=>.ok (.loc n1) h3) Q):CI X Y it tn fp U0 H0 σp n1 gt mt me Q n s6
def pZ(j:Q (newEnv scope s.heap.objs.size globals (cellsFrom (s.heap.objs.size+1) scope.names closure) qual Y .none (J env) builtinsNs) { s with heap:=pushCells (s.heap.push { cls:=.type "dict",data:=.dict #[]}) scope.names}):
  wpAny M A (newFunctionEnv scope globals closure [] qual Y .none (J env)) Q E s:=by
 simp only[newFunctionEnv,Option.isSome_some,if_true];refine d_ (wpAny_alloc ?_);refine d_ (wpAny_layCells _ (λf kind a=>by cases i:kind==NameKind.cell<;>simp) _ _ _ _ ?_);rw[show({ s with heap:=s.heap.push { cls:=.type "dict",data:=.dict #[]}}:Shared).heap.objs.size=s.heap.objs.size+1 from Fi ..];exact d_ (il (il j))
def dg:∀(names:List (Str×NameKind))(n:Nat)(a:List (Str×Addr)),cellsFrom n names a=cellsFrom n names []++a
 |[],n,a=>rfl
 |(x,k)::r,n,a=>by
  unfold cellsFrom;split
  .rw[dg r (n+1) ((x,n)::a),dg r (n+1) [(x,n)]];simp
  .exact dg r n a
def fg:∀(names:List (Str×NameKind))(n:Nat)(x:Str),(∃c,(x,c)∈cellsFrom n names [])↔(x,NameKind.cell)∈names
 |[],n,x=>by simp[cellsFrom]
 |(y,k)::r,n,x=>by
  unfold cellsFrom;split
  .rename_i i
   have f:k=NameKind.cell:=by simpa using i
   subst f;rw[dg];constructor
   .rintro⟨c,a⟩;rcases nw.mp a with a|a
    .exact nt _ ((fg r (n+1) x).mp ⟨c,a⟩)
    .have:x=y:=by simp at a;exact a.1
     rw[this];exact mu
   .intro h;rcases j_.mp h with e|h
    .have:x=y:=by simpa using e
     subst this;exact⟨n,pu _ (by simp)⟩
    .obtain⟨c,a⟩:=(fg r (n+1) x).mpr h;exact⟨c,vK _ a⟩
  .rw[fg r n x];constructor
   .exact nt _
   .intro h;rcases j_.mp h with e|h
    .exfalso
     grind
    .exact h
def lI{α:Type}:∀(a b:List (Str×α))(x:Str),(a++b).lookup x=(a.lookup x).or (b.lookup x):= by grind
def zd{α:Type}:∀(a:List (Str×α))(x:Str),a.lookup x=Y->∀c,(x,c)∉a:= by grind
section
variable{X:Cx}{N W G:SQ}{k:Nat}
def px(g:Good X N W G k){tg an cb:Expr}{cp:S3}{f:Scope}{c4:Pos}{B frees G':SQ}{fm:SV}{mi:Mx MIt}{gt:Mg}{mt:Mx Bool}{me:Mx PV}(C:yQ X N f B frees fm)(nd:(B++frees).Nodup)(gi:∀x∈G',f.names.lookup x=J .globalImplicit)(dbg:∀x∈(B++frees)++G',(x==("__debug__":Str))=T/\(x==("__classdict__":Str))=T/\x≠"__name__")(hi:MI X tg an mi)(hY:∀al:Cx,al.prog=X.prog->al.w=X.w->al.K=X.K->al.mg=X.mg->al.base=X.base->al.env.scope=relabel f X.env->Good al (B++frees) B G' k->MG al tg gt/\EA al cp mt/\ME al cb me)(hs:∀x,foldedSetIterable an X.env x=pure x){use:Option (Value->Sem Unit)}{Qv:S5}{pp:Pos}{Kh:SK}{s:Shared}{Z:L2.St}{H:Hp}{Q:VK}(c7:Inv X Kh Z H s)(tm:tM X (RV' X) (d6 B.length fm mi gt mt me) Z H Q)(fin:∀(e0 C:Addr) (H6:Hp) (s7:Shared) (m7:S6),Inv X Kh Z H6 s7->H6 C=Y->s7.heap.Ns C m7->C≠X.env.locals->X.s₀.heap.objs.size<=C->C∉X.fs->(∀x c,X.env.cells.lookup x=J c->c≠C)->(∀p∈X.pn++Kh,p.1≠C)->Q (.ref e0) H6 ->
   compPost (model X.prog X.w) X.A X.xe use Qv (.ref e0) C (.ok .next) s7):
  wpAny (model X.prog X.w) X.A (comprehension (.ListComp cb [⟨tg,an,cp,0⟩] f c4) f X.env pp (newList []) T (eval an X.env) use) Qv X.xe s:=by
 obtain⟨U,am,h,rs,rh,q⟩:=tm;have bj:∀y∈f.names,y.2=.free->∃c,X.env.cells.lookup y.1=J c:=λy hy e=>c7.ok.has y.1 (.inl (C.cl _ (C.all y hy e)));refine wpAny_comprehension_free (use:=use) rfl hs (pS bj) C.kind C.names ?_;generalize c9:jz X.env f.names []=cl;have ea:∀x a,cl.lookup x=J a->X.env.cells.lookup x=J a\/((X.env.cells.lookup x)=Y/\a=0):=λx a e=>by
  rw[<-c9]at e
  have:=(kX (env:=X.env) (x:=x) f.names [] (λa z=>by simp at z)).1 a e
  cases z:X.env.cells.lookup x with
  |none=>right;rw[z]at this;exact⟨rfl,this⟩
  |some c=>left;rw[z]at this;rw[this];rfl
 have eu:∀x∈frees,∃c,cl.lookup x=J c/\X.env.cells.lookup x=J c:=λx hx=>by
  obtain⟨c,hc⟩:=c7.ok.has x (.inl (C.cl x hx));have hm:(∃kk,(x,kk)∈f.names/\kk=.free):=⟨.free,PySem.mem_of_lookup (C.hf x hx),rfl⟩;obtain⟨a,ha⟩:=(kX (env:=X.env) (x:=x) f.names [] (λa z=>by simp at z)).2 (.inl hm);rw[c9]at ha;rcases ea x a ha with z|⟨z,_⟩
  .rw[hc]at z;cases z;exact⟨c,ha,hc⟩
  .rw[hc]at z;cases z
 have eL:∀x a,cl.lookup x=J a->X.env.cells.lookup x=J a/\x∈frees:=λx a e=>by
   have only:∀(l:List (Str×NameKind))(cs:List (Str×Addr))(x:Str)(a:Addr),(jz X.env l cs).lookup x=J a->(x,NameKind.free)∈l\/cs.lookup x=J a:=by
    intro l
    induction l with
    |nil=>intro cs x a e;exact .inr e
    |cons y l ih =>
     intro cs x a e;obtain⟨n,kk⟩:=y;rcases ih _ x a e with z|z
     .exact .inl (nt _ z)
     .split at z
      .rename_i hk
       have gn:kk=NameKind.free:=by simpa using hk
       rw[B1]at z
       split at z
       .rename_i e'
        have:x=n:=by simpa using e'
        subst this;subst gn;exact .inl mu
       .exact .inr z
      .exact .inr z
   have e':=e;rw[<-c9]at e';rcases only _ _ x a e' with z'|z'
   .refine⟨?_,C.all _ z' rfl⟩;rcases ea x a e with z|⟨z,_⟩
    .exact z
    .obtain⟨c,hc⟩:=bj _ z' rfl;rw[z]at hc;cases hc
   .simp at z'
 have start:=hi Kh s Z H (CS X U H am gt mt me (Bn B.length fm am) Q) c7
  ⟨U,am,h,rs,rh,Ful.bind q λU1 H1 it hh h1 _ l1 c0 jr q1=>⟨U1,it,h1,l1,c0,jr,q1⟩⟩
 refine wpAny_mono start (λx hu ek=>wpAny_mono ek (λhF F eh=>?_) λ_ _ e=>e) λ_ _ e=>e;obtain⟨d2,fp,tn,hh,H2,rfl,I2,R,ey,f2,U1,it,h1,l1,c0,jr,q1⟩:=eh;refine wpAny_newObj_type ?_;have f4:H2 F.heap.objs.size=Y:=I2.hok.fresh (iv _);have M:=I2.lnew (ys:=[]) (its:=[]) (t':=F.toks) .nil (u0 _);obtain⟨e9,l3⟩:=c0.new f4 (o:=.lst []) (ho:=.lst []) ⟨[],rfl,.nil⟩;generalize gs:({ F with heap:=F.heap.push { cls:=.type "list",data:=.seq ([]:SH).toArray},toks:=F.toks}:Shared)=E at M;generalize eF:ls H2 F.heap.objs.size (.lst [])=L at M e9 l3;have hw:L F.heap.objs.size=J (.lst []):=by rw[<-eF];exact bL
 have f1:E.heap=F.heap.push { cls:=.type "list",data:=.seq ([]:SH).toArray}:=by rw[<-gs]
 have ca:tn 0 E.heap:=R.keep _ _ _ ey λb _ o e=>by rw[f1];exact n6 _ e
 have a9:∀b∈fp,j7 X Kh L b:=λb S=>by
  obtain⟨a0,a1⟩:=f2 b S;refine⟨?_,a1⟩;obtain⟨o,eo,_⟩:=R.obj _ _ ey b S;rw[<-eF,aP (sv (nj eo))];exact a0
 have da:wpAny (model X.prog X.w) X.A (newFunctionEnv f X.env.globals cl [] X.env.qual Y .none (J X.env)) (λw_ ep =>
    codeAny (model X.prog X.w) X.A (.compStart (.ListComp cb [⟨tg,an,cp,0⟩] f c4) 0 (.ref d2) (.ref F.heap.objs.size) { w_ with scope:=relabel f X.env}) (compPost (model X.prog X.w) X.A X.xe use Qv (.ref F.heap.objs.size) w_.locals) ep) X.xe E:=by
  refine pZ ?_;have O:∀b o,E.heap.get? b=J o->(pushCells (E.heap.push { cls:=.type "dict",data:=.dict #[]}) f.names).get? b=J o:=λb o e=>pushCells_keeps _ _ b o (n6 _ e);have e6:=(Heap.Ns.new E.heap (.type "dict")).keeps (pushCells_keeps f.names _);have bq:=cellsFrom_ok f.names (E.heap.push { cls:=.type "dict",data:=.dict #[]}) (E.heap.objs.size+1) [] ⟨λ_ _ hm=>(nomatch hm),List.Pairwise.nil⟩ (by rw[Fi];exact iv _);rw[Fi]at bq;rw[dg];have cc:=fg f.names (E.heap.objs.size+1);generalize cellsFrom (E.heap.objs.size+1) f.names []=cn at bq cc ⊢;generalize pushCells (E.heap.push { cls:=.type "dict",data:=.dict #[]}) f.names=h' at O e6 bq ⊢;dsimp only[newEnv];have a7:∀x c,(cn++cl).lookup x=J c->((x,c)∈cn/\f.names.lookup x=J .cell/\E.heap.objs.size<c/\h'.IsCell c Y)\/(X.env.cells.lookup x=J c/\f.names.lookup x=J .free):=λx c e=>by
   rw[lI]at e
   cases z:cn.lookup x with
   |some c' =>
    rw[z]at e
    have:c'=c:=by simpa using e
    subst this;have m:=PySem.mem_of_lookup z;obtain⟨q1,q2⟩:=bq.empty x c' m;exact .inl ⟨m,C.cell _ ((cc x).mp ⟨c',m⟩) rfl,q2,q1⟩
   |none =>
    rw[z]at e;obtain⟨q1,q2⟩:=eL x c (by simpa using e);exact .inr ⟨q1,C.hf x q2⟩
  have e7:∀x c,x∈frees->cl.lookup x=J c->(cn++cl).lookup x=J c:=λx c hx e=>by
   rw[lI]
   cases z:cn.lookup x with
   |none=>simpa using e
   |some c' =>
    have:=C.cell _ ((cc x).mp ⟨c',PySem.mem_of_lookup z⟩) rfl
    rw[C.hf x hx]at this;cases this
  have old:∀x c,X.env.cells.lookup x=J c->c<E.heap.objs.size:=λx c e=>by
   obtain⟨v,qc⟩:=M.cell x c e;exact qc.lt
  have ok:(dv X f (cn++cl) E L fp (B++frees)).Ok:=by
   refine⟨M.ok.mod,C.kind,M.ok.glob,M.ok.blt,iv _,λx y c h1 h2=>?_,λx hx=>?_,λx c hx e=>?_,M.ok.hd,M.ok.frames,.inl rfl,
    λb S=>⟨?_,λx c e z=>?_⟩,M.bs,mh M.ok.bsz M.sz,λb o e S=>?_,λb S z=>?_,M.stack,M.stkFree⟩
   .rcases a7 x c h1 with⟨a1,_,a2,_⟩|⟨a1,_⟩<;>rcases a7 y c h2 with⟨b1,_,b2,_⟩|⟨b1,_⟩
    .exact PySem.name_of_addr bq.apart a1 b1
    .exact absurd (Nl a2 (old y c b1)) (At _)
    .exact absurd (Nl b2 (old x c a1)) (At _)
    .exact M.ok.inj x y c a1 b1
   .
    have b5:(relabel f X.env).names.lookup x=J .cell\/(relabel f X.env).names.lookup x=J .free:=hx
    cases e:f.names.lookup x with
    |none =>
     exfalso;have nn:∀(l:List (Str×NameKind)),l.lookup x=Y->(l.map λ(n,k)=>if(k==NameKind.free&&X.env.scope.kind == .function&&X.env.kindOf n==J .cell)then(n,NameKind.cell)else(n,k)).lookup x=Y:=by
      intro l
      induction l with
      |nil=>intro _;rfl
      |cons y l ih =>
       intro hl;obtain⟨n,kk⟩:=y;rw[B1]at hl
       split at hl
       .cases hl
       .rename_i gx
        rw[mO];dsimp only
        split<;>(rw[B1];simp only[gx];exact ih hl)
     have e2:=nn f.names e;rcases b5 with z|z
     .rw[show(relabel f X.env).names.lookup x=Y from e2]at z;cases z
     .rw[show(relabel f X.env).names.lookup x=Y from e2]at z;cases z
    |some kk =>
     have e2:=cy (env:=X.env) M.ok.kind e;have hk:kk=.free\/kk=.cell:=by
      rcases b5 with z|z
      .rw[show(relabel f X.env).names.lookup x=_ from e2]at z;have z':=Option.some.inj z;by_cases zz:kk=.free/\X.env.kindOf x=J .cell
       .exact .inl zz.1
       .rw[c_ zz]at z';exact .inr z'
      .rw[show(relabel f X.env).names.lookup x=_ from e2]at z;have z':=Option.some.inj z;by_cases zz:kk=.free/\X.env.kindOf x=J .cell
       .exact .inl zz.1
       .rw[c_ zz]at z';exact .inl z'
     rcases hk with hk|hk
     .subst hk;have hf:=C.all _ (PySem.mem_of_lookup e) rfl;obtain⟨c,h1,_⟩:=eu x hf;exact⟨c,e7 x c hf h1⟩
     .subst hk;obtain⟨c,hc⟩:=(cc x).mpr (PySem.mem_of_lookup e);show ∃c,(cn++cl).lookup x=J c;rw[lI]
      cases z:cn.lookup x with
      |some c'=>exact⟨c',rfl⟩
      |none=>exact absurd hc (zd cn x z c)
   .have b5:=of_decide_eq_true hx;rcases a7 x c e with⟨_,_,q,_⟩|⟨_,q⟩
    .exact vu q
    .rw[q]at b5;cases b5
   .obtain⟨o,eo,_⟩:=R.obj _ _ ca b S;exact sv (nj eo)
   .rcases a7 x c e with⟨_,_,q,_⟩|⟨q,_⟩
    .obtain⟨o,eo,_⟩:=R.obj _ _ ca b S;exact absurd (Nl q (z▸nj eo)) (At _)
    .exact (a9 b S).2.2.2.2.1 x c q z
   .obtain⟨_,_,_,h4,_⟩:=a9 b S;rcases h4 with h4|h4
    .exact M.ok.noex b o e h4
    .exact absurd (q0 (nj e) (mh M.ok.bsz h4)) (At _)
   .obtain⟨_,h2,h3,_⟩:=a9 b S;rcases j_.mp (M.stkSub b z)with e|e
    .exact h2 e
    .exact h3 e
  obtain⟨mX,hC,lX⟩:=M.loc;have g0:Le U H (U1++[F.heap.objs.size]) L:=l1.trans l3
  let as:L2.St:=List.replicate B.length Y++fm.map λi=>(Z[i]?).getD Y
  have hj:fm.length=frees.length:=by have:=congrArg List.length C.fm;simpa using this
  have ec:Inv (dv X f (cn++cl) E L fp (B++frees)) [] as L { E with heap:=h',toks:=E.toks}:=by
   refine⟨ok,rfl,M.bare,Un.kept O,⟨_,e6,λi x v hN hv hz=>?_⟩,λx c e=>?_,?_,λx c e=>?_,λp hp=>absurd (show p∈([]:SK)from hp) (by simp),M.hok.kept O,?_⟩
   .have dj:(B++frees)[i]?=J x:=hN;have e8:B.length<=i:=by
     by_cases z:B.length<=i
     .exact z
     .exfalso;have ax:as[i]?=J (J v):=hv;rw[vj (by simp;ext),BP]at ax
      split at ax<;>cases ax
    have ax:as[i]?=J (J v):=hv;rw[AX (by simpa using e8),JJ,wl]at ax;rw[AX e8]at dj
    cases ej:fm[i-B.length]? with
    |none=>rw[ej]at ax;cases ax
    |some j =>
     rw[ej]at ax;have ef:=congrArg (λl=>l[i-B.length]?) C.fm;simp only[wl,ej,dj,JW]at ef;have hq:N[j]?=J x:=by simpa using ef
     have ev:Z[j]?=J (J v):=by
      have:(Z[j]?).getD Y=J v:=by simpa using ax
      cases z:Z[j]? with
      |none=>rw[z]at this;cases this
      |some o=>rw[z]at this;simp at this;rw[this]
     have hx:x∈frees:=AC dj;have gc:Np X.env.scope x:=.inr (.inl (C.cl x hx));obtain⟨u,ru,es⟩:=lX j x v (by rw[g.hN];exact hq) ev gc;refine⟨u,ru,.inr ⟨?_,?_⟩⟩
     .left;show(relabel f X.env).names.lookup x=J .cell
      have:=cy (env:=X.env) M.ok.kind (C.hf x hx)
      rw[b_ ⟨rfl,C.cl x hx⟩]at this;exact this
     .rcases es with⟨hk,_⟩|⟨_,c,hc,dc⟩
      .rw[C.cl x hx]at hk;cases hk
      .obtain⟨c',h1,h2⟩:=eu x hx;rw[hc]at h2;cases h2;obtain⟨o,eo,ed⟩:=dc;exact⟨c,e7 x c hx h1,o,O _ _ eo,ed⟩
   .rcases a7 x c e with⟨_,_,_,q⟩|⟨q,_⟩
    .exact⟨Y,q⟩
    .obtain⟨v,o,eo,ed⟩:=M.cell x c q;exact⟨v,o,O _ _ eo,ed⟩
   .exact M.hok.fresh (iv _)
   .rcases a7 x c e with⟨_,_,q,_⟩|⟨q,_⟩
    .exact M.hok.fresh (vu q)
    .exact M.freeC x c q
   .show as.length=(B++frees).length;simp[as,hj]
  have gY:Good (dv X f (cn++cl) E L fp (B++frees)) (B++frees) B G' k:=by
   refine⟨rfl,nd,λx hx=>?_,λx hx=>?_,λx hx=>?_,dbg,g.calm,g.room,PassesOwn.never⟩
   .rcases nw.mp hx with z|z
    .rcases C.hv x z with z|z
     .left
      have:=cy (env:=X.env) M.ok.kind z
      rw[c_ (λq=>nomatch q.1)]at this;exact this
     .right
      have:=cy (env:=X.env) M.ok.kind z
      rw[c_ (λq=>nomatch q.1)]at this;exact this
    .right
     have:=cy (env:=X.env) M.ok.kind (C.hf x z)
     rw[b_ ⟨rfl,C.cl x z⟩]at this;exact this
   .rcases C.hv x hx with z|z
    .right
     have:=cy (env:=X.env) M.ok.kind z
     rw[c_ (λq=>nomatch q.1)]at this;exact this
    .exact .inl (decide_eq_true z)
   .have:=cy (env:=X.env) M.ok.kind (gi x hx)
    rw[c_ (λq=>nomatch q.1)]at this;exact this
  obtain⟨hg,ht,he⟩:=hY (dv X f (cn++cl) E L fp (B++frees)) rfl rfl rfl rfl rfl rfl gY;have f6:RS X.K (U1++[F.heap.objs.size]) L (Bn B.length fm am) as:=by
   refine⟨by simp[as,Bn],λi v e=>?_⟩;unfold Bn at e;by_cases z:B.length<=i
   .rw[AX (by simpa using z),JJ,wl]at e
    cases ej:fm[i-B.length]? with
    |none=>rw[ej]at e;cases e
    |some j =>
     rw[ej]at e;have ev:am[j]?=J (J v):=by
      have:(am[j]?).getD Y=J v:=by simpa using e
      cases z:am[j]? with
      |none=>rw[z]at this;cases this
      |some o=>rw[z]at this;simp at this;rw[this]
     obtain⟨v',e',rv⟩:=rs.2 j v ev;refine⟨v',?_,rv.le g0⟩;show as[i]?=_;rw[AX (by simpa using z),JJ,wl,ej];simp[e']
   .rw[vj (by simp;ext),BP]at e
    split at e<;>cases e
  have q3:Ful X (RV' X) am (U1++[F.heap.objs.size]) L ((zi it h1.length gt mt me it.xs (Bn B.length fm am) (h1++[.lst []])).bind λ_ h3=>.ok (.loc h1.length) h3) Q:=Ful.le l3 q1;have b3:(U1++[F.heap.objs.size])[h1.length]?=J F.heap.objs.size:=by rw[<-c0.len];simp
  have c2:∀bm:Shared,bm={ E with heap:=h',toks:=E.toks}->codeAny (model X.prog X.w) X.A (.compLoop (.ListComp cb [⟨tg,an,cp,0⟩] f c4) 0 (.ref d2) (.ref F.heap.objs.size) (compEnvC f (cn++cl) E.heap.objs.size X.env))
    (compPost (model X.prog X.w) X.A X.xe use Qv (.ref F.heap.objs.size) E.heap.objs.size) bm:=by
   rintro bm rfl;refine qW (CI X (dv X f (cn++cl) E L fp (B++frees)) it tn fp (U1++[F.heap.objs.size]) L am h1.length gt mt me Q) ?_ it.xs.length
    ⟨0,as,L,_,_,_,rfl,u0 _,ec,R.keep _ _ _ ca (λb _ o e=>O b o e),λb S=>(a9 b S).1,Le.refl _ _,f6,e9,by simpa using q3⟩
   rintro n s6 ⟨i,Z6,H6,U6,b4,h6,rfl,hD,I6,fl,en,l6,ge,dn,q6⟩;have bi:∀{H':Hp},(∀b∈fp,H' b=Y)->∀b∈fp,j7 (dv X f (cn++cl) E L fp (B++frees)) [] H' b:=λ{H'} hn b S =>
    ⟨hn b S,(ok.exf b S).1,ok.exfs b S,.inl S,(ok.exf b S).2,λp hp=>absurd (show p∈([]:SK)from hp) (by simp)⟩
   by_cases be:i<it.xs.length
   .have ed:it.xs.drop i=it.xs[i]::it.xs.drop (i+1):=Oc be;rw[ed]at q6;simp only[zi]at q6;by_cases hok:it.ok h6
    .rw[b_ hok]at q6;obtain⟨j1,_⟩:=jr U6 H6 h6 i (l3.trans l6) dn hok;obtain⟨go,yl⟩:=j1 be;refine k_ (R.item (dv X f (cn++cl) E L fp (B++frees)) rfl rfl rfl g.calm i [] s6 Z6 H6 (λ_ _=>False) I6 (bi en) fl go) λr s7 ⟨u,hr,h7⟩=>?_;subst hr;refine k_ h7 λ_ s8 ⟨x8,H8,I8,r8,y8,d0,f3⟩=>?_;obtain⟨U8,x,l8,g5,ex,rx⟩:=yl x8 H8 y8;have gk:x=it.xs[i]:=by rw[AY be]at ex;exact(Option.some.inj ex).symm
     subst gk;have f5:=I8.pinned (bi f3) (R.obj _ _ d0);have q8:=Ful.le l8 q6;have back:∀{Z9:L2.St}{H9:Hp}{s9:Shared},Inv (dv X f (cn++cl) E L fp (B++frees)) ([]++jK fp s8.heap) Z9 H9 s9->Inv (dv X f (cn++cl) E L fp (B++frees)) [] Z9 H9 s9/\tn (i+1) s9.heap/\∀b∈fp,H9 b=Y:=λ{Z9 H9 s9} I9=>by
      refine⟨I9.unpinned,R.keep _ _ _ d0 λb S o e=>(I9.pin (b,o) (pu _ (pu _ (gF S e)))).1,λb S=>?_⟩;obtain⟨o,e,d⟩:=R.obj _ _ d0 b S;exact(I9.pin (b,o) (pu _ (pu _ (gF S e)))).2.1
     cases eg:gt it.xs[i] b4 h6 with
     |nx P h9 =>
      rw[eg]at q8;dsimp only at q8
      refine k_ (hg _ s8 Z6 H8 x8 u (λZ' H'=>∃U',Le U8 H8 U' H'/\RH X.K X.mg U' H' h9/\RS X.K U' H' P Z') f5 r8 ⟨U8,b4,h6,_,ge.le l8,g5,rx,by
       show lj _ _ _ (gt it.xs[i] b4 h6) _
       rw[eg];exact λU' H' Z' l r s=>⟨U',l,r,s⟩⟩) λ_ s9 ⟨Z9,H9,I9,U9,l9,g2,cd⟩=>?_
      have q9:=Ful.le l9 q8
      cases em:mt P h9 with
      |ok b a8 =>
       rw[em,Out.ne_ok]at q9;rw[Out.bind_ok]at q9
       refine k_ (ht _ s9 Z9 H9 (λb' H'=>b'=b/\∃U',Le U9 H9 U' H'/\RH X.K X.mg U' H' a8) I9 ⟨U9,P,h9,cd,g2,by
        show Ful _ _ _ _ _ (mt P h9) _
        rw[em];exact λU' H' v' l r e=>⟨e.symm,U',l,r⟩⟩) λb' gV ⟨db,ei,eb,dF,a3,c1⟩=>?_
       subst eb;have ab:=Ful.le a3 q9
       cases b' with
       |false =>
        rw[c_ JN]at ab ⊢;obtain⟨f0,et,ez⟩:=back ei;exact⟨_,by ext,i+1,Z9,db,dF,P,a8,rfl,be,f0,et,ez,l6.trans (l8.trans (l9.trans a3)),cd.le a3,c1,ab⟩
       |true =>
        rw[b_ rfl]at ab ⊢
        cases ee:me P a8 with
        |ok v er =>
         rw[ee,Out.ne_ok]at ab;rw[Out.bind_ok]at ab
         refine k_ (he _ gV Z9 db (λv' H'=>∃U',Le dF db U' H'/\RH X.K X.mg U' H' er/\RP X.K U' H' v v') ei ⟨dF,P,a8,cd.le a3,c1,by
          show Ful _ _ _ _ _ (me P a8) _
          rw[ee];exact λU' H' v' l r e=>⟨U',l,r,e⟩⟩) λg3 f8 ⟨v',dx,gy,d3,ew,dd,c3,el⟩=>?_
         have ay:=Ful.le dd ab;have b6:Le (U1++[F.heap.objs.size]) L ew dx:=l6.trans (l8.trans (l9.trans (a3.trans dd)));obtain⟨oa,f7,gg⟩:=c3.obj (b6.get b3);rw[f7]at ay
         cases oa with
         |dic hA=>exact ay.elim
         |exc x=>exact ay.elim
         |lst ys =>
          dsimp only at ay;by_cases b0:ys.length<sizeLine
          .rw[b_ b0]at ay;obtain⟨ds,g1,ry⟩:=gg;obtain⟨fa,dV⟩:=c3.put (b6.get b3) (o:=.lst (ys++[v])) (ho:=.lst (ds++[v'])) ⟨_,rfl,ry.append (.cons el .nil)⟩;have ap:=pq (X:=dv X f (cn++cl) E L fp (B++frees)) _ f8 Z9 dx (.ref F.heap.objs.size) [v'] (.ref F.heap.objs.size) [g3] (λ_ H'=>H'=ls dx F.heap.objs.size (.lst (ds++[v']))) gy rfl (.cons d3 .nil) ⟨F.heap.objs.size,ds,v',rfl,rfl,g1,by rw[<-ry.length];exact b0,rfl⟩;refine k_ ap λ_ hE ⟨_,hB,g4,_,eH⟩=>?_;subst eH;obtain⟨d5,eC,d1⟩:=back g4;exact⟨_,by ext,i+1,Z9,_,ew,P,_,rfl,be,d5,eC,d1,b6.trans dV,(cd.le a3).le (dd.trans dV),fa,Ful.le dV ay⟩
          .rw[c_ b0]at ay;exact ay.elim
        |exc x er=>rw[ee]at ab;exact ab.elim
        |bad=>rw[ee]at ab;exact ab.elim
      |exc x a8=>rw[em]at q9;exact q9.elim
      |bad=>rw[em]at q9;exact q9.elim
     |_=>rw[eg]at q8;exact q8.elim
    .rw[c_ hok]at q6;exact q6.elim
   .have e:i=it.xs.length:=by ext
    rw[e,List.drop_length]at q6;simp only[zi]at q6;by_cases hok:it.ok h6
    .rw[b_ hok]at q6;obtain⟨_,j2⟩:=jr U6 H6 h6 i (l3.trans l6) dn hok;refine k_ (R.done (dv X f (cn++cl) E L fp (B++frees)) rfl rfl rfl g.calm i [] s6 Z6 H6 (λ_ _=>False) I6 (bi en) fl (j2 (by ext))) λr s7 ⟨hr,I7⟩=>?_;subst hr;obtain⟨m7,gp,_⟩:=I7.loc;have IX:=M.call' (s':=s7) (ch:=fp) I7.os I7.base I7.hok I7.bare λb S=>by
      obtain⟨_,a2,_,a4,a5,a6⟩:=a9 b S;exact⟨a4,a2,a5,a6⟩
     exact fin _ _ H6 s7 m7 IX I7.free gp (Jm M.lt) M.sz (M.nofs (iv _)) (λx c e z=>by
      obtain⟨v,qc⟩:=M.cell x c e
      exact absurd qc.lt (by rw[z];exact At _)) (λp hp z=>absurd (nj (M.pin p hp).1) (by rw[z];exact At _)) (q6 U6 H6 _ (Le.refl _ _) dn (.loc (l6.get b3)))
    .rw[c_ hok]at q6;exact q6.elim
  exact codeAny_compStart_list (c2 _ rfl) (R.self X.A 0 _ _ _ (R.keep _ _ _ ca (λb _ o e=>O b o e)) (c2 _ rfl))
 exact da
def uZ(g:Good X N W G k){B j l:Expr}{u:S3}{i:Scope}{y:Pos}{f frees L:SQ}{fm:SV}{P:Mx MIt}{gt:Mg}{mt:Mx Bool}{O:Mx PV}(C:yQ X N i f frees fm)(nd:(f++frees).Nodup)(z:∀x∈L,i.names.lookup x=J .globalImplicit)(dbg:∀x∈(f++frees)++L,(x==("__debug__":Str))=T/\(x==("__classdict__":Str))=T/\x≠"__name__")(hi:MI X B j P)(S:∀a:Cx,a.prog=X.prog->a.w=X.w->a.K=X.K->a.mg=X.mg->a.base=X.base->a.env.scope=relabel i X.env->Good a (f++frees) f L k->MG a B gt/\EA a u mt/\ME a l O)(hs:∀x,foldedSetIterable j X.env x=pure x:=by intro _;rfl):ME X (.ListComp l [⟨B,j,u,0⟩] i y) (d6 f.length fm P gt mt O):=by
 intro Kh s Z H Q F tm;refine px g C nd z dbg hi S hs F tm λE D R s7 m7 IX U ns hL hz al M hp q=>?_;refine⟨m7,ns,λab AV=>⟨.ref E,R,?_,rfl,q⟩⟩;exact IX.turned (t':=s7.toks) (λb o hb e=>AV.extBut b o hb e) U hL (.inr hz) M hp
def tQ(g:Good X N W G k)(i:Nat){y:Str}{py B:Pos}{P u E:Expr}{F:S3}{a:Scope}{M:Pos}{j frees G':SQ}{fm:SV}{mi:Mx MIt}{gt:Mg}{mt:Mx Bool}{me:Mx PV}(O:N[i]?=J y)(hw:W[i]?=J y)(ap:swapsWith (.ListComp E [⟨P,u,F,0⟩] a M) (J (.Name y py)) B.line X.env=pure I)(C:yQ X N a j frees fm)(nd:(j++frees).Nodup)(am:∀x∈G',a.names.lookup x=J .globalImplicit)(dbg:∀x∈(j++frees)++G',(x==("__debug__":Str))=T/\(x==("__classdict__":Str))=T/\x≠"__name__")(hi:MI X P u mi)(hY:∀f:Cx,f.prog=X.prog->f.w=X.w->f.K=X.K->f.mg=X.mg->f.base=X.base->f.env.scope=relabel a X.env->Good f (j++frees) j G' k->MG f P gt/\EA f F mt/\ME f E me)(hs:∀x,foldedSetIterable u X.env x=pure x:=by intro _;rfl):MS X (.Assign [.Name y py] (.ListComp E [⟨P,u,F,0⟩] a M) B) (bf i (d6 j.length fm mi gt mt me)):=by
 intro Kh s Z H D S tm;obtain⟨U,an,h,rs,rh,q⟩:=tm;rw[exec_Assign_Name_used _ _ _ _ ap];refine d_ (wpAny_standAt (d_ ?_))
 refine d_ (wpAny_mono (px g C nd am dbg hi hY hs S
  ⟨U,an,h,rs,rh,bA.ex q λU1 H1 v v' h1 l r z w=>w U1 H1 _ (Le.refl _ _) r ((rs.le l).set i z)⟩ λL Q H6 s7 m7 IX hC ns hL hz al ab hp q6=>?_) (λ_ s' hq=>il (il hq)) λ_ _ e=>e)
 .obtain⟨o,es,ep,ho,hd,hr⟩:=id ns;have IP:Inv X (Kh++[(Q,o)]) Z H6 s7:=IX.pins_of λp R=>(nw.mp R).elim (λz=>IX.pin p (pu _ z)) λz=>by
   have e:p=(Q,o):=by simpa using z
   subst e;exact⟨ho,hC,hL,al,λv z=>by rw[hd]at z;cases z⟩
  have st:=tR (pos:=py) (by rw[g.hN];exact g.nd) (g.x O) (g.loc y (az O)) (g.fn y (az hw)) (Kh++[(Q,o)]) s7 Z H6 (.ref L) (.ref L) (λZ' H'=>Z'=Z.set i (J (.ref L))/\H'=H6) IP rfl ⟨rfl,rfl⟩;refine k_ st λ_ s8 ⟨Z8,H8,I8,e1,e2⟩=>?_;subst e1;subst e2;have pn:=I8.pin (Q,o) (pu _ (pu _ (by simp)));refine⟨m7,⟨o,es,ep,pn.1,hd,hr⟩,λas AV=>⟨_,_,?_,q6⟩⟩;exact(I8.unpinned).turned (t':=s8.toks) (λb o hb e=>AV.extBut b o hb e) hC hL (.inr hz) ab hp
end
@[inline]abbrev CT:SH:=[.type "ValueError",.type "Exception",.type "BaseException",.type "object"]
structure AJ(K:h8)(mg:AE)(x:Str)(C:Addr):Prop where
 bd:mg x=J (.ref C)
 ok:PySem.W.excIn K C CT "ValueError.__new__"=I
abbrev oH(X:Cx)(x:Str)(C:Addr):Prop:=AJ X.K X.mg x C
def oN{K:h8}{h:Heap}{C:Addr}{y:SH}{a:String}(z:K.In h)(q:PySem.W.excIn K C y a=I):
  ∃u N O q bs i R sub Q f L H G B F E W,h.get? C=J (excClassObj O q C N bs u i R sub Q f L H G B F E a)/\h.Ns N W/\W "__init__"=Y/\OwnTail h y u/\∀base r,PySem.W.mroIn K C base=J r->(Value.ref C::u).contains base=r:=by
 unfold PySem.W.excIn at q
 split at q
 .rename_i L X sl S
  split at q
  .rename_i C' u H G B F n E hm U
   simp only[Jf,beq_iff_eq,Fa]at q;obtain⟨⟨⟨⟨⟨rfl,rfl⟩,j⟩,Z⟩,hok⟩,M⟩:=q;obtain⟨O,bs,am,ns,qn,hd,R,sub,Q,f,al⟩:=X;subst hm j;have P:sl=#[H,G,B,F,J (.builtin n),E]:=by obtain⟨l⟩:=sl;simp only at U;rw[U]
   subst P
   exact⟨u,ns,O,qn,bs,hd,R,sub,Q,f,L,H,G,B,F,E,_,z _ _ S,.of_isNs (PySem.W.isNs_of_in z hok),PySem.W.nsMap_none_of_in z hok M,PySem.W.tail_of_in z Z,λbase r e=>by
    unfold PySem.W.mroIn PySem.W.clsIn at e;rw[S]at e
    simpa using e⟩
  .cases q
 .cases q
section
variable{X:Cx}{N W G:SQ}{k:Nat}
def nM(x:Str)(m:Mx (SM)):l_:=zO m λa Z h=>if a.length<=sizeLine then .rse ⟨x,[]⟩ Z h else .bad
def zZ(g:Good X N W G k){x:Str}{j:Nat}{C:Addr}(hj:G[j]?=J x)(EC:oH X x C){e:Expr}{B:S3}{m:Mx (SM)}{np a Q:Pos}(ha:MA X (e::B) m)(he:starEach (e::B) X.env=(T,eval e X.env)::starEach B X.env:=by rfl)(an:(backTo a (starEach B X.env)).any (·.1)=T:=by rfl):
  MS X (.Raise (J (.Call (.Name x np) (e::B) [] a)) Y Q) (nM x m):=by
 intro Kh s Z H D f ⟨U,L,h,rs,rh,q⟩;have d:=g.dbg x (pu _ (az hj));obtain⟨bm,Nn,nm,qn,bs,E,sn,sub,ab,am,dd,k0,k1,k2,k3,k5,mN,hC,hN,R,F,_⟩:=oN f.mod.kin EC.ok;refine wpAny_Raise_call_subT (nm:=nm) (q:=qn) (N:=Nn) (bs:=bs) (hdct:=E) (sn:=sn) (sub:=sub) (ab:=ab) (col:=am) (dd:=dd) (k0:=k0) (k1:=k1) (k2:=k2) (k3:=k3) (k5:=k5)
  PySem.F.excBase_ValueError (F.hasType PySem.F.excBase_ValueError.hasBase) (f.ok.hd g.calm) (by rw[he];show(T||(backTo a (starEach B X.env)).any (·.1))=T;rw[an];rfl) R (oz f (g.gl x (az hj)) EC.bd ⟨rfl,?_⟩ d.1)
 have A:=ha a Kh s Z H (λvs u=>∃i xs O,Le U H i u/\RH X.K X.mg i u O/\RPs X.K i u xs vs/\bA X i u (if xs.length<=sizeLine then .rse ⟨x,[]⟩ L O else .bad) D) f
  ⟨U,L,h,rs,rh,bA.ex q λi u v v' O l r z w=>⟨i,v,O,l,r,z,w⟩⟩
 rw[he]at A ⊢;refine Calls.evalArgs_plain (wpAny_mono A (λus s2 ⟨vs,u,P,rv,i,xs,O,l1,al,rx,w⟩=>?_) λ_ _ y=>y);by_cases S:xs.length<=sizeLine
 .rw[b_ S]at w;refine⟨rfl,by rw[<-rv.length,<-rx.length];exact S,P.bk _ _ hC,hN.keeps P.bk,F.keeps P.bk,λh' ea M=>?_⟩;have I0:=Inv.unpinned (Kh:=[]) P;exact w ea C i u Z { s2 with heap:=h'} s2.heap us rfl EC.bd (Le.refl _ _) al (rs.le l1) I0 M
 .rw[c_ S]at w;exact w.elim
def nW{M:Model}{A:Around}{E:S5}{h:Heap}{gn:Array GenState}{d:Drawn}{t:Nat}{os:OsState}{ea C D N1 N2:Addr}{oe:Obj}{O q1 am q2:Str}{al i P a:SH}{S Z:Bool}{an F:SQ}{l u:SH}{ab L:Bool}{y j:Option Bool}{R H:TL}{a0 a1 a2 a3 a5 b0 b1 b2 b3 b5:S0}{n1 n2:String}{Q:Bool->Shared->Prop}(hC:h.get? C=J (excClassObj O q1 C N1 al i S an l ab y R a0 a1 a2 a3 a5 n1))(hD:h.get? D=J (excClassObj am q2 D N2 P a Z F u L j H b0 b1 b2 b3 b5 n2))(he:h.get? ea=J oe)(B:oe.cls=.ref C)(hB:a.contains (.type "BaseException")=I)(z:(Value.ref C::i).contains (.ref D)=I)(hq:Q I ⟨h,gn,d,t,os⟩):wpAny M A (excMatches (.ref ea) (.ref D)) Q E ⟨h,gn,d,t,os⟩:=by
 have U:(Value.ref D::a).contains (.type "BaseException")=I:=by rw[List.contains_cons,hB,Bool.or_true]
 have f:=tc_notTuple
 repeat (first | (rw[B]) | with_reducible refine wpAny_loadPart_at hD ?_ | (with_reducible refine wpAny_isSubtype_exc hD ?_;rw[U]) | (with_reducible refine wpAny_isSubtype_exc hC ?_;rw[z]) | wp_step)
 exact hq
end
section
variable{X:Cx}{N W G:SQ}{k:Nat}{Z:L2.St}{H:Hp}{s:Shared}
abbrev oP(X:Cx)(Kh:SK)(E:S5):Cx:={ X with pn:=X.pn++Kh,xe:=E}
def Gw(ok:X.Ok):(oP X Kh E).Ok :=
 ⟨ok.mod,ok.kind,ok.glob,ok.blt,ok.above,ok.inj,ok.has,ok.cab,ok.hd,ok.frames,ok.stk,ok.exf,ok.bs,ok.bsz,ok.noex,ok.exfs,ok.funs,ok.frf⟩
def yU(ok:(oP X Kh E).Ok):X.Ok :=
 ⟨ok.mod,ok.kind,ok.glob,ok.blt,ok.above,ok.inj,ok.has,ok.cab,ok.hd,ok.frames,ok.stk,ok.exf,ok.bs,ok.bsz,ok.noex,ok.exfs,ok.funs,ok.frf⟩
def Inv.toPin(a:Inv X Kh Z H s):Inv (oP X Kh E) [] Z H s :=
 ⟨Gw a.ok,a.os,a.bare,a.base,a.loc,a.cell,a.free,a.freeC,λp f=>a.pin p (by simpa using f),a.hok,a.len⟩
def Inv.ofPin(a:Inv (oP X Kh E) [] Z H s):Inv X Kh Z H s :=
 ⟨yU a.ok,a.os,a.bare,a.base,a.loc,a.cell,a.free,a.freeC,λp f=>a.pin p (by simpa using f),a.hok,a.len⟩
def mn{h a:Heap}{c:Addr}{v:S0}(f:h.UpToSlots a)(q:h.IsCell c v):a.IsCell c v:=by obtain⟨o,e,d⟩:=q;obtain⟨sl,i⟩:=f c o e (λj z=>by rw[d]at z;cases z);exact⟨_,i,d⟩
def Inv.flown(f:Inv X [] Z H s){B h' Q:Heap}(hB:B.StaysIn s.heap)(R:B.StaysIn h')(F:s.heap.UpToSlots h')(E:Bx X Q)(P:Rk B (wm X.stack) Q)(L:∀b o,H b=J o->∃j,B.get? b=J j):Inv X [] Z H { s with heap:=h'}:=by
 have kp:∀b o j,B.get? b=J j->s.heap.get? b=J o->h'.get? b=J o:=λb o j e1 e2=>by
  have:=qJ hB e1 e2
  subst this;exact R b j e1
 have nl:∀b o,X.s₀.heap.get? b=J o->b≠X.env.locals:=λb o e z=>absurd (q0 (nj e) f.ok.above) (by rw[z];exact At _);have O:∀b o,X.s₀.heap.get? b=J o->b∉X.fs->b∉X.ex->∃j,B.get? b=J j:=λb o e hf l=>by
  obtain⟨o',e'⟩:=E.old b o e l;refine P b o' e' λhm=>?_;rcases j_.mp (f.stkSub b hm)with z|z
  .exact nl b o e z
  .exact hf z
 obtain⟨m,hn,hl⟩:=f.loc;have U:∀b o,X.s₀.heap.get? b=J o->b∈X.fs->∀C,o.data≠.fields C:=λb o e hf C z=>by
  obtain⟨_,oF,eF,dF⟩:=f.ok.funs.mem hf;rw[e]at eF;cases eF;exact dF C z
 refine⟨f.ok,f.os,f.bare,⟨λb o e n hf l=>?_,λb o e n hf l=>?_,f.base.free,λb o e l=>?_,f.base.tups,f.base.frzs,f.base.tbls⟩,⟨m,F.ns hn,λi x v e1 e2 e3=>?_⟩,λx c e=>?_,f.free,f.freeC,λp hp=>?_,λa o e=>?_,f.len⟩
 .obtain⟨j,y⟩:=O b o e hf l;exact kp b o j y (f.base.keep b o e n hf l)
 .obtain⟨sl,e1⟩:=f.base.slot b o e n hf l;obtain⟨S,e2⟩:=F b _ e1 (λC z=>U b o e hf C z);exact⟨S,e2⟩
 .by_cases hf:b∈X.fs
  .obtain⟨sl,e1⟩:=f.base.slot b o e (f.ok.frf b hf) hf l;obtain⟨S,e2⟩:=F b _ e1 (λC z=>U b o e hf C z);exact⟨_,e2⟩
  .obtain⟨j,y⟩:=O b o e hf l;exact⟨j,R b j y⟩
 .obtain⟨u,ru,M⟩:=hl i x v e1 e2 e3;refine⟨u,ru,?_⟩;rcases M with z|⟨z1,c,z2,z3⟩
  .exact .inl z
  .exact .inr ⟨z1,c,z2,mn F z3⟩
 .obtain⟨v,q⟩:=f.cell x c e;exact⟨v,mn F q⟩
 .obtain⟨e,n,ne,nf,d⟩:=f.pin p hp;refine⟨?_,n,ne,nf,d⟩;have ab:p∈X.pn:=by simpa using hp
  obtain⟨o',e'⟩:=E.pin p ab;obtain⟨j,y⟩:=P p.1 o' e' λhm=>by
   rcases j_.mp (f.stkSub p.1 hm)with z|z
   .exact ne z
   .exact nf z
  exact kp p.1 p.2 j y e
 .refine (f.hok a o e).stay (λb u hb z=>?_) (λ_ z=>z) λ_ _ z=>z;rcases hb with rfl|hb
  .obtain⟨j,y⟩:=L _ _ e;exact kp _ u j y z
  .obtain⟨j,y⟩:=L _ _ hb;exact kp _ u j y z
def Inv.track(f:Inv X B Z H s)(Q:H a=Y)(R:X.s₀.heap.get? a=Y)(hL:a≠X.env.locals)(F:∀x c,X.env.cells.lookup x=J c->c≠a)(L:∀p∈X.pn++B,p.1≠a)(j:ObjOk X.prog X.w (ls H a (.ext φ)) s.heap a (.ext φ)):Inv X B Z (ls H a (.ext φ)) s:=by
 have l:∀b o,X.s₀.heap.get? b=J o->b≠a:=λb o e z=>by rw[z,R]at e;cases e
 have t:∀b u,H b=J u->ls H a (.ext φ) b=J u:=λb u e=>by rw[aP (bD e Q)];exact e
 refine⟨f.ok,f.os,f.bare,⟨f.base.keep,f.base.slot,λb o e n C=>by rw[aP (l b o e)];exact f.base.free b o e n C,f.base.there,λb xs e=>t b _ (f.base.tups b xs e),λb o u e=>t b _ (f.base.frzs b o u e),λb P e=>?_⟩,
  f.loc,f.cell,by rw[aP (Ne.symm hL)];exact f.free,λx c e=>by rw[aP (F x c e)];exact f.freeC x c e,λp i=>?_,λb u e=>?_,f.len⟩
 .obtain⟨more,S⟩:=f.base.tbls b P e;exact⟨more,t b _ S⟩
 .obtain⟨O,M,E⟩:=f.pin p i;exact⟨O,by rw[aP (L p i)];exact M,E⟩
 .by_cases y:b=a
  .subst y;rw[bL]at e;cases e;exact j
  .rw[aP y]at e;exact(f.hok b u e).stay (λc v _ q=>q) (λc q=>t c _ q) λc xs q=>t c _ q
def Gx{h:Heap}{a:Addr}{m j:S6}(x:h.Ns a m)(y:h.Ns a j):m=j:=by obtain⟨o,F,E,e,d,_,f⟩:=x;obtain⟨L,C,B,l,i,_,u⟩:=y;rw[e]at l;cases l;rw[d]at i;cases i;funext z;rw[<-f z,<-u z]
def Inv.unbound(f:Inv X Kh Z H s)(hN:X.N.Nodup)(hi:X.N[i]?=J n)(O:s.heap.Ns X.env.locals m)(E:h'.Ns X.env.locals (λx=>if x=n then v else m x))(B:Heap.SameBut X.env.locals s.heap h'):
  Inv X Kh (Z.set i Y) H { s with heap:=h',toks:=t'}:=by
 obtain⟨m0,M,hl⟩:=f.loc;have em:=Gx O M;subst em;have lt:∀b o,X.s₀.heap.get? b=J o->b≠X.env.locals:=λb o e=>sv (q0 (nj e) f.ok.above);refine⟨f.ok,f.os,f.bare,⟨λb o e n l C=>?_,λb o e n l C=>?_,f.base.free,λb o e C=>?_,f.base.tups,f.base.frzs,f.base.tbls⟩,⟨_,E,λj y v' e1 e2 e3=>?_⟩,λy c e=>?_,f.free,f.freeC,λp Q=>?_,λa o e=>?_,by simpa using f.len⟩
 .exact (B.2 b (lt b o e)).trans (f.base.keep b o e n l C)
 .obtain⟨sl,e1⟩:=f.base.slot b o e n l C;exact⟨sl,(B.2 b (lt b o e)).trans e1⟩
 .obtain⟨o',e1⟩:=f.base.there b o e C;exact⟨o',(B.2 b (lt b o e)).trans e1⟩
 .by_cases F:j=i
  .subst F;by_cases L:j<Z.length
   .rw[y9 L]at e2;cases e2
   .rw[Br (by simp;lia)]at e2;cases e2
  .rw[o0 (Ne.symm F)]at e2;obtain⟨U,P,q⟩:=hl j y v' e1 e2 e3;refine⟨U,P,?_⟩;rcases q with⟨k,e⟩|⟨k,c,e,z⟩
   .refine .inl ⟨k,?_⟩
    have:y≠n:=λe=>F (lq hN e1 (e▸hi))
    simp[this,e]
   .exact .inr ⟨k,c,e,z.sameBut B (f.cne y c e)⟩
 .obtain⟨S,z⟩:=f.cell y c e;exact⟨S,z.sameBut B (f.cne y c e)⟩
 .obtain⟨e,n,ne,R,d⟩:=f.pin p Q;exact⟨(B.2 p.1 ne).trans e,n,ne,R,d⟩
 .have na:a≠X.env.locals:=λz=>by rw[z,f.free]at e;cases e
  refine(f.hok a o e).stay (λb u l z=>(B.2 b ?_).trans z) (λ_ z=>z) λ_ _ z=>z;rcases l with rfl|l
  .exact na
  .intro z;rw[z,f.free]at l;cases l
def CU(l:SQ)(i a:Nat)(mb:l_):l_:=λZ h=>match mb Z h with
 |.exc x j f=>if x.fs=[]/\x.cls∈l then .nx (((j.set a (J (.loc f.length))).set i (J (.loc f.length))).set a Y) (f++[.exc x])else .bad
 |.rse _ _ _=>.bad
 |o=>o
def RS.unset{K:h8}{U:SX}{H:Hp}{a:k4}{Z:L2.St}(r:RS K U H a Z)(i:Nat):RS K U H (a.set i Y) (Z.set i Y):=by
 refine⟨by simp[r.1],λj u e=>?_⟩;by_cases l:j=i
 .subst l;by_cases f:j<a.length
  .rw[y9 f]at e;cases e
  .rw[Br (by simp;lia)]at e;cases e
 .rw[o0 (λz=>l z.symm)]at e ⊢;exact r.2 j u e
def Gy(g:Good X N W G k)(dc:ip X){c:Str}{j:Nat}{D:Addr}(hj:G[j]?=J c)(ED:oH X c D){cs:SQ}(dx:∀x∈cs,∃C,oH X x C/\PySem.W.mroIn X.K C (.ref D)=J I)(iy Q:Nat){y n:Str}(c4:N[iy]?=J y)(er:W[iy]?=J y)(al:N[Q]?=J n)(ek:W[Q]?=J n)(c7:X.env.scope.names.lookup n=J .local){ay:S9}{mb:l_}{cp yp np sp hp dF:Pos}(hb:∀O:Cx,O.prog=X.prog->O.w=X.w->O.K=X.K->O.mg=X.mg->O.base=X.base->O.env=X.env->Good O N W G k->ip O->Av O ay mb)(en:swapsWith (.Name n np) (J (.Name y yp)) sp.line X.env=pure T:=by rfl):
  MS X (.Try ay [.ExceptHandler (J (.Name c cp)) (J n) [.Assign [.Name y yp] (.Name n np) sp] hp] [] [] dF) (CU cs iy Q mb):=by
 intro Kh s Z H Dd d0 ⟨U,c9,h,rs,rh,q⟩;refine wpAny_Try_except ?_;have gY:∀E,PassesOwn (model X.prog X.w) X.A X.env E->Good (oP X Kh E) N W G k:=λE po=>⟨g.hN,g.nd,g.loc,g.fn,g.gl,g.dbg,g.calm,g.room,po⟩;have run:=hb (oP X Kh _) rfl rfl rfl rfl rfl rfl (gY _ (PassesOwn.looking (M:=model X.prog X.w) (A:=X.A) (env:=X.env) (K:=λe c2=>wpAny (model X.prog X.w) X.A (setFlight e Y) (λ_ cb=>wpAny (model X.prog X.w) X.A (handleBy e X.env [.ExceptHandler (J (.Name c cp)) (J n) [.Assign [.Name y yp] (.Name n np) sp] hp]) (SP X Kh Dd) X.xe cb) X.xe c2) (E₁:=X.xe))) ⟨dc.stk,dc.fr,dc.ex⟩;refine wpAny_mono (run [] s Z H Dd (Inv.toPin d0) ⟨U,c9,h,rs,rh,?_⟩) (λf ew z=>?_) λ_ _ z=>z
 .unfold CU at q
  cases em:mb c9 h with
  |nx Z1 h1=>rw[em]at q;exact q
  |rt v h1=>rw[em]at q;exact q
  |bk Z1 h1=>rw[em]at q;exact q
  |ct Z1 h1=>rw[em]at q;exact q
  |bad=>rw[em]at q;exact q.elim
  |rse x Z1 h1=>rw[em]at q;exact q.elim
  |exc x Z1 h1 =>
   rw[em]at q;dsimp only at q;by_cases hx:x.fs=[]/\x.cls∈cs
   .rw[b_ hx]at q;intro a C U' H' Z' s' f2 e7 ch l c3 d2 I' ap es;obtain⟨C',EC,b4⟩:=dx x.cls hx.2;have eC:C'=C:=by
     have:=EC.bd
     rw[show X.mg x.cls=J (.ref C)from ch]at this;cases this;rfl
    subst eC;obtain⟨B,t,an,db,S,da⟩:=es;have bj:X.stack=X.env::X.outer:=dc.stk;have an:Heap.FlyingW B (X.env::X.outer) a (.ref C') (.ref t) s'.heap:=by rw[<-bj];exact an
    have cn:X.A.frames=J (X.env::X.outer):=by rw[<-bj];exact I'.ok.frames
    refine wpAny_looks_onW (base:=B) cn dc.fr an λez am a8=>?_;refine wpAny_landsW am λeH P a6=>?_;have dj:=a8.trans a6;have I5:=Inv.flown I' an.1 P.1 dj ap S db;have ab:=Inv.ofPin I5;refine wpAny_handleBy_cons (codeAny_handlers_test (Calls.Name_function_global ab.ok.kind (g.gl c (az hj)) (Calls.loadGlobal_global (by rw[ab.ok.glob];exact ab.mod.glob.keeps ab.bk) ED.bd ?_) (g.dbg c (pu _ (az hj))).1)) (by intro z;cases z);obtain⟨f4,N1,f0,q1,gg,e6,f3,ev,gx,eF,f5,a0,a1,a2,a3,a5,ge,el,_,_,_,cd⟩:=oN ab.kIn EC.ok;obtain⟨fp,N2,e8,q2,gy,f8,gi,ey,gp,eu,fa,b0,b1,b2,b3,b5,gk,et,_,_,T2,_⟩:=oN ab.kIn ED.ok;obtain⟨ob,d3,c0⟩:=P.there;obtain⟨f7,g5,d5,t5,f6⟩:=s';refine nW el et d3 c0 (T2.hasType PySem.F.excBase_ValueError.hasBase) (cd _ _ b4) ?_;refine codeAny_handlers_suite_as ?_;refine lands_againW P λax R a7=>?_;have I6:=Inv.flown I5 P.1 R.1 a7 ap S db;have bq:=Inv.ofPin I6;obtain⟨oe,vs,gs,oT,ts,as,⟨bi,f1⟩,be,_,_,_,_,_,_⟩:=R.2.2.2;have ca:B.get? a=Y:=R.2.1;have a9:a∉wm X.stack:=λhm=>by
     obtain⟨_,o,eo,dn⟩:=bq.stack.mem hm;rw[show ax.get? a=J oe from as]at eo;cases eo;exact dn vs be
    have eL:a≠X.env.locals:=λz=>a9 (by rw[bj,z];exact BS.mpr ⟨X.env,mu,dc.fr⟩);have e0:X.s₀.heap.get? a=Y:=by
     cases z:X.s₀.heap.get? a with
     |none=>rfl
     |some o =>
      obtain⟨o',e'⟩:=ap.old a o z (by rw[dc.ex];simp);obtain⟨eh,eb⟩:=S a o' e' a9;rw[ca]at eb;cases eb
    have ec:∀z cc,X.env.cells.lookup z=J cc->cc≠a:=λz cc e w=>by
     obtain⟨v,o,eo,ed⟩:=bq.cell z cc e;rw[w,show ax.get? a=J oe from as]at eo;cases eo;rw[be]at ed;cases ed
    have ep:∀p∈X.pn++Kh,p.1≠a:=λp dV w=>by
     obtain⟨o',e'⟩:=ap.pin p dV;rw[w]at e';obtain⟨eh,eb⟩:=S a o' e' a9;rw[ca]at eb;cases eb
    have I7:=Inv.track (φ:=iC a C') bq da e0 eL ec ep ⟨⟨oe,vs,as,bi,be⟩,⟨oe,as⟩,λh1 h2 ⟨o,ws,z1,z2,z3⟩ kk=>⟨o,ws,kk o z1,z2,z3⟩⟩;obtain⟨ej,l7⟩:=c3.new da (o:=.exc x) (ho:=.ext (iC a C')) ⟨hx.1,C',ch,rfl⟩;have rv:RP X.K (U'++[a]) (ls H' a (.ext (iC a C'))) (.loc h1.length) (.ref a):=.loc (by rw[<-c3.len];simp);have ee:=RS.le l7 d2;have a4:X.N.Nodup:=by rw[g.hN];exact g.nd
    refine lD I7 a4 (g.x al) (g.loc n (az al)) (v:=.ref a) rfl (λs8 F=>?_) (g.fn n (az ek));have d1:=ee.set Q rv
    let X':Cx:={ X with A:=X.A.mark (J (.ref a)),calm:=T,xe:=λ_ _=>False}
    have ds:X'.Ok:=⟨F.ok.mod,F.ok.kind,F.ok.glob,F.ok.blt,F.ok.above,F.ok.inj,F.ok.has,F.ok.cab,(λz=>nomatch z),F.ok.frames,F.ok.stk,F.ok.exf,F.ok.bs,F.ok.bsz,F.ok.noex,F.ok.exfs,F.ok.funs,F.ok.frf⟩;have ei:Inv X' Kh _ _ s8:=⟨ds,F.os,F.bare,F.base,F.loc,F.cell,F.free,F.freeC,F.pin,F.hok,F.len⟩;have bm:Q<Z'.length:=by rw[I'.len];exact(r_.mp (g.x al)).1
    have dn:=g.dbg n (vK _ (az al));have st:=uv (w4 (X:=X') (i:=iy) (pos:=sp) (pos':=yp) a4 (g.x c4) (g.loc y (az c4)) (yq (X:=X') (i:=Q) (pos:=np) (g.x al) (.inl c7) dn.1 dn.2.1) en (g.fn y (az er))) Kh s8 _ _
     { nx:=λZ9 H9=>Z9=(Z'.set Q (J (.ref a))).set iy (J (.ref a))/\H9=ls H' a (.ext (iC a C')),rt:=λ_ _=>False} ei ⟨.ref a,by rw[y9 bm],rfl,rfl⟩
    refine wpAny_mono st (λfl s9 z9=>?_) λ_ _ z=>z.elim
    cases fl with
    |ret u=>obtain⟨_,_,_,_,_,z⟩:=z9;exact z.elim
    |brk=>obtain⟨_,_,_,z⟩:=z9;exact z.elim
    |cont=>obtain⟨_,_,_,z⟩:=z9;exact z.elim
    |next =>
     obtain⟨Z9,H9,L,e9,eg⟩:=z9;subst e9;subst eg;have I9:Inv X Kh ((Z'.set Q (J (.ref a))).set iy (J (.ref a))) (ls H' a (.ext (iC a C'))) s9:=⟨F.ok,L.os,L.bare,L.base,L.loc,L.cell,L.free,L.freeC,L.pin,L.hok,L.len⟩;obtain⟨m9,c1,_⟩:=I9.loc;refine wpAny_nameGoes_keeps c7 c1 (by rw[I9.ok.kind];rfl) λgn gc dd b6=>?_;have ef:=Inv.unbound I9 a4 (g.x al) c1 (t':=s9.toks+1) dd b6;refine⟨_,_,ef,?_⟩;exact q (U'++[a]) _ _ (l.trans l7) ej (RS.unset (d1.set iy rv) Q)
   .rw[c_ hx]at q;exact q.elim
 .cases f with
  |next =>
   obtain⟨Z',H',I',z⟩:=z;exact wpAny_execs_nil ⟨Z',H',Inv.ofPin I',z⟩
  |brk=>obtain⟨Z',H',I',z⟩:=z;exact⟨Z',H',Inv.ofPin I',z⟩
  |cont=>obtain⟨Z',H',I',z⟩:=z;exact⟨Z',H',Inv.ofPin I',z⟩
  |ret u=>obtain⟨v,Z',H',I',r,z⟩:=z;exact⟨v,Z',H',Inv.ofPin I',r,z⟩
end
structure AK(K:h8)(C:Addr):Prop where
 ga:PySem.W.findIn K (.ref C) "__getattribute__"=J (J (.builtin "BaseException.__getattribute__"))
 cl:PySem.W.findIn K (.ref C) "__class__"=J (J (.builtin "object.__class__"))
 gt:PySem.W.findIn K (.ref C) "__getattr__"=J Y
 mo:PySem.W.mroIn K C (.type "object")=J I
 mb:PySem.W.mroIn K C (.type "BaseException")=J I
section
variable{prog:Program}{w:World}{A:Around}{E:S5}{h:Heap}{g:Array GenState}{d:Drawn}{t:Nat}{os:OsState}{a C:Addr}{o:Obj}{K:h8}
def K2(F:K.In h)(q:AK K C)(i:h.get? a=J o)(j:o.cls=.ref C)(G:R (.ok (.ret (.ref C))) ⟨h,g,d,t,os⟩):
  codeAny (model prog w) A (.call (.builtin "getset_descriptor.__get__") ⟨[.builtin "object.__class__",.ref a,.ref C],[]⟩) R ⟨h,g,d,t,os⟩:=by
 have f:(⟨h,g,d,t,os⟩:Shared).TypeIs (.builtin "object.__class__") "getset_descriptor":=PySem.F.typeOf_object_class;have B:∀{y:Around} {u:S5} {l:Bool->Shared->Prop},l I ⟨h,g,d,t,os⟩->wpAny (model prog w) y (isSubtype (.ref C) (.type (".".intercalate ("object.__class__".cutAt '.').dropLast))) l u ⟨h,g,d,t,os⟩:=λz=>by
  rw[PySem.F.owner_object_class];exact(PySem.W.looks_mroIn (M:=model prog w) F q.mo).at z
 refine codeAny_call_builtin PySem.F.slot_gs_get.plain PySem.F.entry_gs_get (PySem.F.slot_gs_get.check _ _ _ _ _ _ _ _ f (PySem.F.args_gs_get _ _ _) ?_)
 repeat (any_goals (first | assumption | (with_reducible refine wpAny_loadPart_at i ?_;rw[j]) | with_reducible refine B ?_ | wp_step))
 refine⟨Code.quiet_builtin _ (by decide +kernel),codeAny_builtin PySem.F.entry_object_class ?_⟩
 repeat (any_goals (first | assumption | (with_reducible refine wpAny_loadPart_at i ?_;rw[j]) | wp_step))
def CV(l:K.In h)(q:AK K C)(f:h.get? a=J o)(i:o.cls=.ref C)(G:Q (.done (.ret (.ref C))) ⟨h,g,d,t,os⟩):
  wpAny (model prog w) A (Builtin.«object.__getattribute__» ⟨[.ref a,.str "__class__" tk],[]⟩) Q E ⟨h,g,d,t,os⟩:=by
 have y:∀{B:Around} {u:S5} {j:S0->Shared->Prop},j (J (.builtin "object.__class__")) ⟨h,g,d,t,os⟩->wpAny (model prog w) B (typeLookup (.ref C) "__class__") j u ⟨h,g,d,t,os⟩:=λz=>(PySem.W.looks_findIn (M:=model prog w) l q.cl).at z;have H:=PySem.F.typeOf_object_class;have F:=PySem.F.slot_gs_get.lookup;have L:=PySem.F.slot_gs_set.lookup
 repeat (any_goals (first | assumption | (with_reducible refine wpAny_loadPart_at f ?_;rw[i]) | with_reducible refine y ?_ | wp_step))
 refine K2 l q f i ?_
 repeat (any_goals (first | assumption | wp_step))
def Gz(B:K.In h)(q:AK K C)(u:h.get? a=J o)(y:o.cls=.ref C)(F:R (.ok (.ret (.ref C))) ⟨h,g,d,t,os⟩):
  codeAny (model prog w) A (.call (.builtin "BaseException.__getattribute__") ⟨[.ref a,.str "__class__" tk],[]⟩) R ⟨h,g,d,t,os⟩:=by
 have G:builtinKind "BaseException.__getattribute__"=J .slot:=by decide +kernel
 have f:splitId "BaseException.__getattribute__"=J ("BaseException","__getattribute__"):=by decide +kernel
 have L:=PySem.F.args_bexc_ga (.ref a) (.str "__class__" tk);have H:∀{l:Around} {j:S5} {i:Bool->Shared->Prop},i I ⟨h,g,d,t,os⟩->wpAny (model prog w) l (isSubtype (.ref C) (.type "BaseException")) i j ⟨h,g,d,t,os⟩:=λz=>(PySem.W.looks_mroIn (M:=model prog w) B q.mb).at z;have QE:∀{l:Around} {j:S5} {i:Unit->Shared->Prop},i () ⟨h,g,d,t,os⟩->wpAny (model prog w) l (checkBuiltinCall "BaseException.__getattribute__" ⟨[.ref a,.str "__class__" tk],[]⟩) i j ⟨h,g,d,t,os⟩:=λz=>by
  simp only[checkBuiltinCall,G,f];refine d_ ?_
  .unfold isInstance
   repeat (first | (with_reducible refine wpAny_loadPart_at u ?_;rw[y]) | with_reducible refine H ?_ | wp_step)
   exact z
 exact codeAny_call_builtin PySem.F.excAttr_ValueError.ga.plain PySem.F.entry_bexc_ga (QE (CV B q u y F))
def Pt(u:K.In h)(q:AK K C)(y:h.get? a=J o)(B:o.cls=.ref C)(L:Q (.ref C) ⟨h,g,d,t,os⟩):wpAny (model prog w) A (getAttrBy (.ref a) (.str "__class__" tk) T) Q E ⟨h,g,d,t,os⟩:=by
 have O:=PySem.F.excAttr_ValueError.ga.bind (.ref a);have i:(Value.builtin "BaseException.__getattribute__" == Value.builtin "object.__getattribute__")=T:=by decide +kernel
 have H:(onTheHeap (Value.ref C)&&Value.builtin "BaseException.__getattribute__" == Value.builtin "object.__getattribute__")=T:=by rw[i];rfl
 have G:∀{l:Around} {j:S5} {f:S0->Shared->Prop},f (J (.builtin "BaseException.__getattribute__")) ⟨h,g,d,t,os⟩->wpAny (model prog w) l (typeLookup (.ref C) "__getattribute__") f j ⟨h,g,d,t,os⟩:=λz=>(PySem.W.looks_findIn (M:=model prog w) u q.ga).at z;have F:∀{l:Around} {j:S5} {f:S0->Shared->Prop},f Y ⟨h,g,d,t,os⟩->wpAny (model prog w) l (typeLookup (.ref C) "__getattr__") f j ⟨h,g,d,t,os⟩:=λz=>(PySem.W.looks_findIn (M:=model prog w) u q.gt).at z
 repeat (any_goals (first | assumption | (with_reducible refine wpAny_loadPart_at y ?_;rw[B]) | with_reducible refine G ?_ | with_reducible refine F ?_ | wp_step))
 refine Gz u q y B ?_
 repeat (any_goals (first | assumption | wp_step))
def GA(j:K.In h)(q:AK K C)(f:h.get? a=J o)(i:o.cls=.ref C)(l:Q (J (.ref C)) ⟨h,g,d,t+1,os⟩):wpAny (model prog w) A (getAttr? (.ref a) "__class__") Q E ⟨h,g,d,t,os⟩:=by
 unfold getAttr? getAttrBy?
 repeat (any_goals (first | assumption | with_reducible apply Pt j q f i | wp_step))
end
def qM{K:h8}{a C:Addr}(q:AK K C)(B:∃F,PySem.W.clsIn K C=J F):PySem.W.KitX K (.ref a) (.ref C) (iC a C) where
 ty:=λM h _ ⟨o,H,e,c,_⟩=>c▸(PySem.W.Looks.ld e).andThen .now
 it:=λ_ _ X _=>by
  obtain⟨l,f⟩:=B;unfold PySem.W.clsIn at f
  split at f
  .rename_i O G i y u
   intro P U R W k q;exact d_ (wpAny_loadPart (k _ _ (X _ _ u)) (il q))
  .cases f
 ne:=λh Z S L n sl X j=>by
  obtain⟨l,f⟩:=B;refine Bool.eq_false_iff.mpr λz=>?_;have e:=Value.ref.inj (beq_iff_eq.mp z);subst e;unfold PySem.W.clsIn at f
  split at f
  .rename_i O G i y u
   have z:=(X _ _ u).symm.trans j;cases z
  .cases f
 ca:=λ{prog w A E Q s} X ⟨o,H,e,c,_⟩ k=>by
  exact GA X q e c k
def b8(f a:SQ)(x:PV)(h:MH):S4:=match x with
 |.loc n=>(match h[n]? with
  |some (.exc e)=>if f.contains e.cls=I then .ok (.bl (a.contains e.cls)) h else .bad
  |some _=>.ok (.bl T) h
  |none=>.bad)
 |_=>.ok (.bl T) h
structure om(K:h8)(mg:AE)(T:Value)(cs sup:SQ):Prop where
 ty:∀t∈["NoneType","bool","int","str","tuple","list","dict"],PySem.W.kitOne K (.type t) T=J false
 ex:∀x∈cs,∃C,mg x=J (.ref C)/\AK K C/\(∃cd,PySem.W.clsIn K C=J cd)/\PySem.W.kitOne K (.ref C) T=J (sup.contains x)
section
variable{X:Cx}{N W G:SQ}{k:Nat}
def tD(S:om X.K X.mg c cs sup)(hv:∀u,aR v u->u=c):bK X (.builtin "isinstance") (λxs H Q=>∃E,xs=[E,v]/\uJ X (b8 cs sup) E H Q):=by
 intro Kh s Z H xs us Q f r ⟨E,e,U,h,x,B,R,q⟩;subst e
 cases r with
 |cons P t1=>cases t1 with
  |cons r2 t2 =>
   cases t2;obtain rfl:=hv _ r2;have plain:∀t,Bb h x=J t->b8 cs sup x h=.ok (.bl T) h->wpAny (model X.prog X.w) X.A (call (.builtin "isinstance") [_,_]) (EP X Kh Z Q) X.xe s:=λt et ef=>by
    rw[ef]at q;obtain⟨ht,M,Hq,Za,L⟩:=oq f B R P et;exact PySem.W.kia_one Za f.kIn L (S.ty t ht) M λtk=>⟨.bl _,H,f.tok _,rfl,q U H _ (Le.refl _ _) B (.bl _)⟩
   cases x with
   |non=>exact plain _ rfl rfl
   |bl b=>exact plain _ rfl rfl
   |int i=>exact plain _ rfl rfl
   |str i=>exact plain _ rfl rfl
   |tup i=>exact plain _ rfl rfl
   |frl i=>exact plain _ rfl rfl
   |loc n =>
    cases j:h[n]? with
    |none=>simp only[b8,j]at q;exact q.elim
    |some o =>
     cases o with
     |lst xs=>exact plain "list" (by simp[Bb,j]) (by simp[b8,j])
     |dic xs=>exact plain "dict" (by simp[Bb,j]) (by simp[b8,j])
     |exc ex =>
      simp only[b8,j]at q;by_cases F:cs.contains ex.cls=I
      .rw[b_ F]at q;obtain⟨C,hm,EQ,O,hk⟩:=S.ex ex.cls (by simpa using F)
       cases R with
       |@loc n a e =>
        cases P;obtain⟨o',y,ro⟩:=B.obj e;rw[j]at y;cases y;obtain⟨_,C',l,hH⟩:=ro;rw[hm]at l;cases l;obtain⟨L,_,_⟩:=(f.hok a _ hH);exact PySem.W.kia_one (qM EQ O) f.kIn L hk (λz=>nomatch z) λtk=>⟨.bl _,H,f.tok _,rfl,q U H _ (Le.refl _ _) B (.bl _)⟩
      .rw[c_ F]at q;exact q.elim
def CW(g:Good X N W G k){a:Expr}{m:Mx PV}{c:Str}{D:Addr}{F f:SQ}{i j:Nat}{p q l:Pos}(M:G[i]?=J "isinstance")(P:X.mg "isinstance"=Y)(E:G[j]?=J c)(hc:X.mg c=J (.ref D))(IC:om X.K X.mg (.ref D) F f)(ha:ME X a m)(L:starEach [a,.Name c q] X.env=(T,eval a X.env)::starEach [.Name c q] X.env:=by rfl)(z:starEach [.Name c q] X.env=[(T,eval (.Name c q) X.env)]:=by rfl)(C:(backTo l (starEach [.Name c q] X.env)).any (·.1)=T:=by rfl):
  ME X (.Call (.Name "isinstance" p) [a,.Name c q] [] l) (Cs (b8 F f) m):=by
 have O:=g.dbg _ (pu _ (az M));have d:=g.dbg c (pu _ (az E));refine PE.imp (dD (tD IC (v:=.ref D) λu r=>(r)) (g.gl _ (az M)) P PyProof.Rows.Boot.«isinstance» (bY ha (bY (tz (v:=.ref D) (g.gl c (az E)) hc rfl d.1) dZ z) L) O.2.2 O.1 L C) λZ H Q ⟨U,y,h,rs,rh,q⟩=>?_;exact⟨U,y,h,rs,rh,Ful.bind q λU1 H1 x x' h1 _ l1 B R S=>⟨x',rfl,U1,h1,x,B,R,S.zero⟩⟩
def CY(g:Good X N W G k){a:Expr}{m:Mx PV}{c:Str}{f:String}{L l:SQ}{i j:Nat}{p q y:Pos}(O:G[i]?=J "isinstance")(R:X.mg "isinstance"=Y)(F:G[j]?=J c)(hc:X.mg c=Y)(hv:bootBuiltins c=J (.type f))(IC:om X.K X.mg (.type f) L l)(ha:ME X a m)(M:starEach [a,.Name c q] X.env=(T,eval a X.env)::starEach [.Name c q] X.env:=by rfl)(B:starEach [.Name c q] X.env=[(T,eval (.Name c q) X.env)]:=by rfl)(E:(backTo y (starEach [.Name c q] X.env)).any (·.1)=T:=by rfl):
  ME X (.Call (.Name "isinstance" p) [a,.Name c q] [] y) (Cs (b8 L l) m):=by
 have P:=g.dbg _ (pu _ (az O));have d:=g.dbg c (pu _ (az F));refine PE.imp (dD (tD IC (v:=.ty f) λu r=>(r)) (g.gl _ (az O)) R PyProof.Rows.Boot.«isinstance» (bY ha (bY (tJ (v:=.ty f) (g.gl c (az F)) hc hv rfl d.2.2 d.1) dZ B) M) P.2.2 P.1 M E) λZ H Q ⟨U,z,h,rs,rh,q⟩=>?_;exact⟨U,z,h,rs,rh,Ful.bind q λU1 H1 x x' h1 _ l1 C S q1=>⟨x',rfl,U1,h1,x,C,S,q1.zero⟩⟩
end
def AL(xs:SM)(h:MH):S4:=match xs with
 |[x]=>(match x with
  |.tup _=>(match rd 60 h x with
   |some d=>if d.showable=I/\d.shown.length<=sizeLine then .ok (.str d.shown) h else .bad
   |none=>.bad)
  |.frl _=>(match rd 60 h x with
   |some d=>if d.showable=I/\d.shown.length<=sizeLine then .ok (.str d.shown) h else .bad
   |none=>.bad)
  |.loc _=>(match rd 60 h x with
   |some d=>if d.showable=I/\d.shown.length<=sizeLine then .ok (.str d.shown) h else .bad
   |none=>.bad)
  |_=>.bad)
 |_=>.bad
def kZ(hf:∀v d,f v=J d->d.depth<=n/\d.hasDict=T):∀{xs:SM}{a:List PyData},cC f xs=J a->PyData.depthAll a<=n/\PyData.hasDictAll a=T
 |[],a,e=>by cases e;simp[PyData.depthAll,PyData.hasDictAll]
 |x::r,a,e=>by
  simp only[cC]at e
  split at e
  .rename_i d l e1 e2
   cases e;obtain⟨y,j⟩:=hf _ _ e1;obtain⟨u,i⟩:=kZ hf e2;simp only[PyData.depthAll,PyData.hasDictAll,j,i];exact⟨⋯,rfl⟩
  .cases e
def lV:∀(n:Nat)(v:PV)(d:PyData),rd n h v=J d->d.depth<=n/\d.hasDict=T
 |0,v,d,e=>by
  cases v<;>simp only[rd]at e<;>cases e<;>simp[PyData.depth,PyData.hasDict]
 |n+1,v,d,e=>by
  have key:∀xs,(∀f,cC (rd n h) xs=J f->PyData.depthAll f<=n/\PyData.hasDictAll f=T):=λxs f=>kZ (lV n)
  cases v with
  |non=>cases e;simp[PyData.depth,PyData.hasDict]
  |bl b=>cases e;simp[PyData.depth,PyData.hasDict]
  |int b=>cases e;simp[PyData.depth,PyData.hasDict]
  |str b=>cases e;simp[PyData.depth,PyData.hasDict]
  |tup xs =>
   simp only[rd,y_]at e;obtain⟨f,e1,rfl⟩:=e;obtain⟨a,b⟩:=key xs f e1;exact⟨by simp only[PyData.depth];lia,by simp only[PyData.hasDict,b]⟩
  |frl xs =>
   simp only[rd,y_]at e;obtain⟨f,e1,rfl⟩:=e;obtain⟨a,b⟩:=key xs f e1;exact⟨by simp only[PyData.depth];lia,by simp only[PyData.hasDict,b]⟩
  |loc m =>
   simp only[rd]at e
   split at e
   .rename_i xs _
    simp only[y_]at e;obtain⟨f,e1,rfl⟩:=e;obtain⟨a,b⟩:=key xs f e1;exact⟨by simp only[PyData.depth];lia,by simp only[PyData.hasDict,b]⟩
   .cases e
section
variable{X:Cx}{N W G:SQ}{k:Nat}
def lA{y:SK}{Z:L2.St}{H:Hp}{s:Shared}{U:SX}{h:MH}{x:PV}{a:Addr}{Q:VK}(l:Room k X.A)(f:Inv X y Z H s)(j:RH X.K X.mg U H h)(B:RP X.K U H x (.ref a))(q:gX X (RV' X) U H (match rd 60 h x with
   |some d=>if d.showable=I/\d.shown.length<=sizeLine then .ok (.str d.shown) h else .bad
   |none=>.bad) Q):wpAny (model X.prog X.w) X.A (call (.builtin "repr") [.ref a]) (EP X y Z Q) X.xe s:=by
 cases e:rd 60 h x with
 |none=>rw[e]at q;exact q.elim
 |some d =>
  rw[e]at q;dsimp only at q;by_cases z:d.showable=I/\d.shown.length<=sizeLine
  .rw[b_ z]at q;obtain⟨F,i⟩:=eG f j 60 x (.ref a) (.ref a) d B rfl e;obtain⟨L,E⟩:=lV 60 x d e;refine repr_of_reads' i z.1 (PyData.noDict_hsm E) l.gd (by have:=l.un;lia) (λ_ _ e=>e) (λO u M C=>⟨.str d.shown,H,f.kept C,⟨u,rfl⟩,q U H _ (Le.refl _ _) j (.str _)⟩) z.2
  .rw[c_ z]at q;exact q.elim
def iT(g:Good X N W G k):ck X (.builtin "repr") AL:=by
 intro E s Z H xs B Q a r ⟨U,h,C,j,rp,q⟩
 cases rp with
 |nil=>exact q.elim
 |cons u y =>
  cases y with
  |cons _ _=>cases u<;>exact q.elim
  |nil =>
   cases r with
   |cons i z =>
    cases z
    cases u with
    |tup l f=>cases i;exact lA g.room a j (.tup l f) q
    |frl l f=>cases i;exact lA g.room a j (.frl l f) q
    |loc e=>cases i;exact lA g.room a j (.loc e) q
    |_=>exact q.elim
end
def dr{K:h8}{D:Addr}(h:PySem.W.kitOne K (.type "NoneType") (.ref D)=J T):∀t∈["NoneType","bool","int","str","tuple","list","dict"],PySem.W.kitOne K (.type t) (.ref D)=J T:=by
 have f:((PySem.W.clsIn K D).isSome&&PySem.W.typeIn K (.ref D)==J (.type "type"))=I:=by
  cases z:((PySem.W.clsIn K D).isSome&&PySem.W.typeIn K (.ref D)==J (.type "type")) with
  |true=>rfl
  |false =>
   have e:PySem.W.kitOne K (.type "NoneType") (.ref D)=PySem.W.kitCls K (.type "NoneType") (.ref D):=rfl;rw[e]at h;unfold PySem.W.kitCls at h
   simp_all
 have key:∀t,PySem.W.kitOne K (.type t) (.ref D)=(if((PySem.W.clsIn K D).isSome&&PySem.W.typeIn K (.ref D)==J (.type "type"))=I then PySem.W.subIn K (.type t) (.ref D)else Y):=λt=>rfl;intro t a;rw[key,b_ f];simp only[j_,Bs,or_false]at a;rcases a with rfl|rfl|rfl|rfl|rfl|rfl|rfl<;>rfl
def K3:∀(K:h8),∀t∈["NoneType","bool","int","str","tuple","list","dict"],PySem.W.kitOne K (.type t) (.type "ValueError")=J T:=by intro K t a;simp only[j_,Bs,or_false]at a;rcases a with rfl|rfl|rfl|rfl|rfl|rfl|rfl<;>rfl
def u8{K:h8}{C:Addr}{b:Value}{r:Bool}(h:PySem.W.mroIn K C b=J r):∃a,PySem.W.clsIn K C=J a:=by
 unfold PySem.W.mroIn at h
 cases z:PySem.W.clsIn K C with
 |none=>rw[z]at h;cases h
 |some a=>exact⟨a,rfl⟩
def cE{K:h8}{mg:AE}{f:Value}{j i:SQ}(ty:∀t∈["NoneType","bool","int","str","tuple","list","dict"],PySem.W.kitOne K (.type t) f=J T)(ex:∀x∈j,∃C,mg x=J (.ref C)/\AK K C/\PySem.W.kitOne K (.ref C) f=J (i.contains x)):om K mg f j i :=
 ⟨ty,λx l=>let⟨C,a,b,c⟩:=ex x l;⟨C,a,b,u8 b.mo,c⟩⟩
def cu{p:Str->Prop}:∀x∈([]:SQ),p x:=λ_ h=>nomatch h
def aM{p:Str->Prop}{a:Str}{l:SQ}(h:p a)(t:∀x∈l,p x):∀x∈a::l,p x:=λx f=>by
 rcases j_.mp f with rfl|z
 .exact h
 .exact t x z
section
variable{X:Cx}{N W G:SQ}{k:Nat}
def xW(g:Good X N W G k){x:Str}{j:Nat}(z:G[j]?=J x)(u:∃C,oH X x C){e:Expr}{f:S3}{m:Mx (SM)}{E a l:Pos}(y:MA X (e::f) m)(B:starEach (e::f) X.env=(T,eval e X.env)::starEach f X.env:=by rfl)(i:(backTo a (starEach f X.env)).any (·.1)=T:=by rfl):
  MS X (.Raise (J (.Call (.Name x E) (e::f) [] a)) Y l) (nM x m):=let⟨_,h⟩:=u;zZ g z h y B i
def CZ(g:Good X N W G k)(dc:ip X){c:Str}{j:Nat}(S:G[j]?=J c){Q:SQ}(R:∃D,oH X c D/\∀x∈Q,∃C,oH X x C/\PySem.W.mroIn X.K C (.ref D)=J I)(l f:Nat){y n:Str}(z:N[l]?=J y)(F:W[l]?=J y)(E:N[f]?=J n)(H:W[f]?=J n)(B:X.env.scope.names.lookup n=J .local){i:S9}{mb:l_}{Z O M P U u:Pos}(hb:∀a:Cx,a.prog=X.prog->a.w=X.w->a.K=X.K->a.mg=X.mg->a.base=X.base->a.env=X.env->Good a N W G k->ip a->Av a i mb)(L:swapsWith (.Name n M) (J (.Name y O)) P.line X.env=pure T:=by rfl):
  MS X (.Try i [.ExceptHandler (J (.Name c Z)) (J n) [.Assign [.Name y O] (.Name n M) P] U] [] [] u) (CU Q l f mb):=let⟨_,h,h'⟩:=R;Gy g dc S h h' l f z F E H B hb L
def C0(g:Good X N W G k){a:Expr}{m:Mx PV}{c:Str}{z f:SQ}{i j:Nat}{p q l:Pos}(L:G[i]?=J "isinstance")(B:X.mg "isinstance"=Y)(C:G[j]?=J c)(E:∃D,X.mg c=J (.ref D)/\om X.K X.mg (.ref D) z f)(H:ME X a m)(F:starEach [a,.Name c q] X.env=(T,eval a X.env)::starEach [.Name c q] X.env:=by rfl)(u:starEach [.Name c q] X.env=[(T,eval (.Name c q) X.env)]:=by rfl)(y:(backTo l (starEach [.Name c q] X.env)).any (·.1)=T:=by rfl):
  ME X (.Call (.Name "isinstance" p) [a,.Name c q] [] l) (Cs (b8 z f) m):=let⟨_,h,M⟩:=E;CW g L B C h M H F u y
def Cal.at(e1:a.prog=X.prog)(e2:a.w=X.w)(e3:a.K=X.K)(e4:a.mg=X.mg)(e5:a.base=X.base)(c:Cal X x ps F i):Cal a x ps F i:=c.to e1 e2 e3 e4 e5
end
def GB(AN:X.env.scope=sc)(F:scope.kind=.function)(u:∀y∈scope.names,y.2=.cell->scope.names.lookup y.1=J .cell)(z:∀y∈scope.names,y.2=.local->scope.names.lookup y.1=J .local)(l:∀x∈a,scope.names.lookup x=J .local\/scope.names.lookup x=J .cell)(C:∀x∈frees,scope.names.lookup x=J .free)(E:∀y∈scope.names,y.2=.free->y.1∈frees)(B:fm.map (λi=>N[i]?)=frees.map J)(f:∀x∈frees,sc.names.lookup x=J .cell):yQ X N scope a frees fm :=
 ⟨F,u,z,l,C,E,B,λx j=>by rw[<-AN]at f;exact f x j⟩
section
variable{Z:k4}{h:MH}
@[simp]theorem Jt:nM x m Z h=(m Z h).go Z λvs Z h=>if vs.length<=sizeLine then .rse ⟨x,[]⟩ Z h else .bad:=rfl
@[simp]theorem zF{nv:Nat}{fm:SV}{mi:Mx MIt}{gt:Mg}{mt:Mx Bool}{me:Mx PV}:d6 nv fm mi gt mt me Z h =
 (mi Z h).bind λit h1=>(zi it h1.length gt mt me it.xs (Bn nv fm Z) (h1++[.lst []])).bind λ_ h3=>.ok (.loc h1.length) h3:=rfl
def C1{a:MIt}{n:Nat}{gt:Mg}{mt:Mx Bool}{f:Mx PV}(e:a.ok h):zi a n gt mt f [] Z h=.ok () h:=by rw[zi,b_ e]
def C2{i:MIt}{n:Nat}{gt:Mg}{mt:Mx Bool}{f:Mx PV}{x v:PV}{r ys:SM}{a:k4}{u l j:MH}(e:i.ok h)(z:gt x Z h=.nx a u)(B:mt a u=.ok I l)(y:f a l=.ok v j)(C:j[n]?=J (.lst ys))(E:ys.length<1000):
  zi i n gt mt f (x::r) Z h=zi i n gt mt f r a (j.set n (.lst (ys++[v]))):=by
 rw[zi,b_ e,z];simp only[B,Out.ne_ok,Out.bind_ok,if_true,y,C];rw[b_ (q0 E (by decide))]
def K4{o:MO}{g:MH}:(h++o::g)[h.length]?=J o:=by simp
end
def jn(s:String):PyData.strOk (Str.ofString s)=I:=by
 rw[Str.ofString_eq_toList];unfold PyData.strOk;simp only[List.all_toArray,List.all_map,Jh];intro c _;simp only[Function.comp]
 have:=c.valid
 have a:c.toNat<0x110000:=by
  rcases this with z|z
  .have:c.toNat<0xd800:=z;lia
  .exact z.2
 simpa using a
def jN(f:PyData.strOk a=I)(i:PyData.strOk b=I):PyData.strOk (a++b)=I:=by unfold PyData.strOk at *;rw[Str.cps_append,Array.all_append,f,i];rfl
def x_(f:Nat->SM->MH->S4)(m:Mx PV)(i:Mx (SM)):Mx PV:=λZ h=>(m Z h).bind λo a=>match o with
 |.loc n=>(match a[n]? with
  |some (.lst _)=>(i Z a).bind λl j=>(f n l j).ne
  |_=>.bad)
 |_=>.bad
def bn(n:Nat)(a:SM)(h:MH):S4:=match a,h[n]? with
 |[v],J (.lst xs)=>if xs.length<sizeLine then .ok .non (h.set n (.lst (xs++[v])))else .bad
 |_,_=>.bad
def iP(n:Nat)(a:SM)(h:MH):S4:=match a with
 |[.loc m]=>(match h[n]?,h[m]? with
  |some (.lst xs),J (.lst ys)=>if xs.length+ys.length<=sizeLine then .ok .non (h.set n (.lst (xs++ys)))else .bad
  |_,_=>.bad)
 |[.tup ys]=>(match h[n]? with
  |some (.lst xs)=>if xs.length+ys.length<=sizeLine then .ok .non (h.set n (.lst (xs++ys)))else .bad
  |_=>.bad)
 |_=>.bad
section
variable{X:Cx}{N W G:SQ}{k:Nat}
def GC(X:Cx)(f:Nat->SM->MH->S4):V->List V->Hp->VK->Prop:=λx j H Q=>∃U h n a i,x=.ref a/\U[n]?=J a/\RH X.K X.mg U H h/\RPs X.K U H i j/\gX X (RV' X) U H (f n i h) Q
def f9:FS X "list.append" (GC X bn):=by
 intro O s Z H x S v M Q f C P ⟨U,h,n,a,ps,e,y,u,rp,q⟩;subst e;obtain⟨o,R,E⟩:=u.obj y;unfold bn at q
 cases rp with
 |nil=>exact q.elim
 |cons z B =>
  cases B with
  |cons _ _=>exact q.elim
  |nil =>
   rw[R]at q
   cases o with
   |lst xs =>
    dsimp only at q;by_cases i:xs.length<sizeLine
    .rw[b_ i]at q;obtain⟨ys,F,l⟩:=E;obtain⟨j,L⟩:=u.put y (o:=.lst (xs++[_])) ⟨_,rfl,l.append (.cons z .nil)⟩;exact pq O s Z H _ _ v M Q f C P ⟨a,ys,_,rfl,rfl,F,by rw[<-l.length];exact i,q U _ .non L j .non⟩
    .rw[c_ i]at q;exact q.elim
   |_=>exact q.elim
def pT(l b:Addr)(f:Array Value)(n:Nat)(a:Array Value)(i:¬(!f.isEmpty&&Builtin.List.listTooLong (f.size+a.size))=I)(y:f.size<=sizeLine)(u:f.size+a.size<=sizeLine+1):
  Meets (Builtin.«list.extend» ⟨[.ref l,.ref b],[]⟩) (λ_ R s=>s.heap.get? l=J { cls:=.type "list",data:=.seq f n}/\IsTup s.heap b a/\R (.ok (.ret Value.none)) { s with heap:=s.heap.update l (Obj.mapSeq λx=>x++a),toks:=s.toks}):=by
 intro prog w A R s ⟨B,⟨o,z,C,F,hd⟩,h⟩;have j:(f++a).size<=sizeLine+1:=by rw[JQ];exact u
 show wpAny _ A.in1 (Builtin.List.listExtendWith (.ref l) (.ref b) .none) _ _ s;refine d_ (wpAny_typeOf ⟨o,z,C⟩ ?_);have E:(Builtin.List.listSameRef (.ref l) (.ref b)||Value.type "tuple" == Value.type "list" || Value.type "tuple" == Value.type "tuple")=I:=by simp
 simp only[E];refine d_ ?_;refine d_ (wpAny_seqItems z hd (il ?_));refine d_ ?_;refine d_ (wpAny_seqItems B rfl (il ?_));simp only[i];refine d_ (wpAny_updateSeq B rfl ?_ (hz:=y) (_hz':=j));exact il h
def wJ:FS X "list.extend" (GC X iP):=by
 intro Kh s Z H x vs v us Q j rx rv ⟨U,h,n,a,ps,e,en,P,rp,q⟩;subst e;obtain⟨o,eo,ro⟩:=P.obj en;unfold iP at q
 cases rp with
 |nil=>exact q.elim
 |cons r1 t1 =>
  cases t1 with
  |cons _ _=>cases r1<;>exact q.elim
  |nil =>
   cases r1 with
   |@loc m b em =>
    obtain⟨o2,ab,al⟩:=P.obj em;dsimp only at q;rw[eo,ab]at q
    cases o with
    |lst xs =>
     cases o2 with
     |lst E =>
      dsimp only at q;by_cases y:xs.length+E.length<=sizeLine
      .rw[b_ y]at q;obtain⟨ys,O,C⟩:=ro;obtain⟨L,ew,M⟩:=al;obtain⟨B,S⟩:=P.put en (o:=.lst (xs++E)) (ho:=.lst (ys++L)) ⟨_,rfl,C.append M⟩;exact xu Kh s Z H _ _ v us Q j rx rv ⟨a,b,ys,L,rfl,rfl,O,ew,by rw[<-C.length,<-M.length];exact y,q U _ .non S B .non⟩
      .rw[c_ y]at q;exact q.elim
     |_=>exact q.elim
    |_=>exact q.elim
   |@tup E a2 L sq rr =>
    rw[eo]at q
    cases o with
    |lst xs =>
     dsimp only at q;by_cases y:xs.length+E.length<=sizeLine
     .rw[b_ y]at q;obtain⟨ys,O,C⟩:=ro;obtain⟨B,S⟩:=P.put en (o:=.lst (xs++E)) (ho:=.lst (ys++L)) ⟨_,rfl,C.append rr⟩;cases rx;obtain⟨u,rfl,ru⟩:=rv.one;cases ru;obtain⟨z,i,n,r,ap,e⟩:=j.lstM O;obtain⟨f,r2,pl,as⟩:=j.tuple sq;have am:ys.length+L.length<=sizeLine:=by rw[<-C.length,<-rr.length];exact y
      have an:=r2.length;have R:i.toArray.size+f.toArray.size<=sizeLine:=by rw[q_,q_];lia
      have l:¬(!i.toArray.isEmpty&&Builtin.List.listTooLong (i.toArray.size+f.toArray.size))=I:=by rw[lF R,Oy];exact JN
      refine call_meets F.slot_list_extend ⟨_,e,rfl⟩ F.entry_list_extend (F.args_list_extend_2 _ _) (pT a _ i.toArray n f.toArray l (by rw[q_];lia) ⋯) ⟨e,pl,?_⟩;refine⟨.non,_,j.lset (its':=i++f) O e (by simp) (r.append r2) ?_,rfl,q U _ .non S B .non⟩;rw[zv];lia
     .rw[c_ y]at q;exact q.elim
    |_=>exact q.elim
   |_=>exact q.elim
variable{o e:Expr}{es:S3}{name:Str}{apos cpos:Pos}{id:String}{f:Nat->SM->MH->S4}{m:Mx PV}{ma:Mx (SM)}
def K5{E:TA}(z:∀Z H Q,tM X (RVs' X) ma Z H Q->E Z H Q){Z:L2.St}{H:Hp}{Q:VK}(tm:tM X (RV' X) (x_ f m ma) Z H Q):tM X (RV' X) m Z H (λx u=>O3 X.K "list" x u/\E Z u λxs C=>GC X f x xs C Q):=by
 obtain⟨U,j,h,F,rh,q⟩:=tm;refine⟨U,j,h,F,rh,?_⟩;refine Ful.bind q λU1 u x x' h1 _ l1 l R i=>?_
 cases R with
 |@loc n a L =>
  obtain⟨P,eo,ro⟩:=l.obj L;dsimp only at i;rw[eo]at i
  cases P with
  |lst xs =>
   obtain⟨ys,ey,ry⟩:=ro;refine⟨.inl ⟨rfl,ys,SqL.of ey⟩,z Z u _ ⟨U1,j,h1,F.le l1,l,?_⟩⟩;exact Ful.bind i λO C S ab h2 _ l2 B y M=>⟨O,h2,n,a,S,rfl,l2.get L,B,y,M.zero⟩
  |_=>exact i.elim
 |_=>exact i.elim
def nr(slot:Slot "list" name id)(u:typeOf (.builtin id)=pure (.type "method_descriptor"))(C:FS X id (GC X f))(E:ME X o m)(y:MA X (e::es) ma)(j:attributeBase o name X.env (eval o X.env)=eval o X.env:=by rfl)(l:((backTo cpos (starEach (e::es) X.env)).all (λx=>!x.1)&&(backToKw cpos (keywordEach [] X.env)).all (λx=>x.1.isSome)
   && decide ((e::es).length+([]:List Keyword).length+(if([]:List Keyword).isEmpty then 0 else 1)<30))=I:=by rfl)(i:(apos.endLine==cpos.line)=I:=by rfl)(B:starEach (e::es) X.env=(T,eval e X.env)::starEach es X.env:=by rfl)(a:(backTo cpos (starEach es X.env)).any (·.1)=T:=by rfl):
  ME X (.Call (.Attribute o name apos) (e::es) [] cpos) (x_ f m ma) :=
 PE.imp (Ku PySem.F.plainAttrs_list slot u C E y j l i B a) λZ H Q q=>K5 (λ_ _ _ z=>z) q
@[simp]theorem Pu:x_ f m ma Z h=(m Z h).bind λo h1=>match o with
 |.loc n=>(match h1[n]? with
  |some (.lst _)=>(ma Z h1).bind λvs h2=>(f n vs h2).ne
  |_=>.bad)
 |_=>.bad:=rfl
end
structure Sh(L:Nat)(d:PyData):Prop where
 able:d.showable=I
 ok:PyData.strOk d.shown=I
 len:d.shown.length<=L
def Sh.mono(s:Sh L d)(h:L<=M):Sh M d:=⟨s.able,s.ok,mh s.len h⟩
def xS:∀{ds:List PyData},(∀d∈ds,Sh L d)->PyData.showableAll ds=I/\(∀t∈PyData.shownAll ds,PyData.strOk t=I/\t.length<=L)/\(PyData.shownAll ds).length=ds.length
 |[],_=>⟨rfl,(λt h=>nomatch h),rfl⟩
 |d::ds,h=>by
  obtain⟨a,b,c⟩:=xS (ds:=ds) λx i=>h x (nt _ i);have hd:=h d (by simp);refine⟨by simp only[PyData.showableAll,a,hd.able,Bool.and_self],λt f=>?_,by simp only[PyData.shownAll,AU,c]⟩;simp only[PyData.shownAll,j_]at f;rcases f with rfl|f
  .exact⟨hd.ok,hd.len⟩
  .exact b t f
def ui:∀{i:SQ}{k:Nat}{a:Str},PyData.strOk a=I->(∀t∈i,PyData.strOk t=I)->PyData.strOk (textFrom k a i)=I
 |[],k,a,f,_=>f
 |t::r,k,a,f,h=>by
  show PyData.strOk (textFrom (k+1) _ r)=I;refine ui (jN ?_ (h t (by simp))) λt j=>h t (nt _ j);exact jN f (jn _)
def qP:∀{a:SQ}{k:Nat}{acc:Str},(∀t∈a,t.length<=L)->(textFrom k acc a).length<=acc.length+(L+2)*a.length
 |[],k,acc,_=>by show acc.length<=_;simp
 |t::r,k,acc,h=>by
  have e2:(", ":Str).length=2:=by decide
  have f:=h t (by simp);have i:∀b:Str,(textFrom (k+1) b r).length<=b.length+(L+2)*r.length:=λb=>qP λt f=>h t (nt _ f);show(textFrom (k+1) _ r).length<=_;refine mh (i _) ?_;rw[Str.length_append,AU,Nat.mul_succ];split
  .rw[Str.length_append,e2];lia
  .have j:("":Str).length=0:=by decide
   rw[Str.length_append,j];lia
def uY(h:∀d∈ds,Sh L d):Sh ((L+2)*ds.length+2) (.list ds):=by
 obtain⟨a,b,c⟩:=xS h;have e1:("[":Str).length=1:=by decide
 have e2:("]":Str).length=1:=by decide
 refine⟨by simp only[PyData.showable,a],?_,?_⟩
 .simp only[PyData.shown,listText];exact jN (ui (jn _) λt f=>(b t f).1) (jn _)
 .simp only[PyData.shown,listText]
  have:=qP (k:=0) (acc:="[") λt f=>(b t f).2
  rw[c,e1]at this;rw[Str.length_append,e2];lia
def GD(h:i.natAbs.log2<1920):Sh 2000 (.int i):=by
 have a:=PySem.int_text_length_le (by decide) h;have e1:(Str.ofString (toString i)).length=(toString i).length:=by rw[Str.ofString_eq_toList];simp only[Str.length,q_,oh];exact String.length_toList
 exact⟨by simpa [PyData.showable]using h,jn _,by show(Str.ofString (toString i)).length<=2000;lia⟩
def cH(h:MH):PV->Option (SM)
 |.tup xs=>J xs
 |.frl xs=>J xs
 |.loc n=>(match h[n]? with
  |some (.lst xs)=>J xs
  |_=>Y)
 |_=>Y
section
variable{X:Cx}{N W G:SQ}{k:Nat}
def kG(j:RH X.K X.mg U H h)(f:RP X.K U H x x')(e:cH h x=J xs):∃a ys,x'=.ref a/\(SqL X.K H a ys\/SqT X.K H a ys)/\RPs X.K U H xs ys:=by
 cases f with
 |tup s r=>cases e;exact⟨_,_,rfl,.inr s,r⟩
 |frl s r=>cases e;exact⟨_,_,rfl,.inl s.sq,r⟩
 |@loc n a l =>
  obtain⟨o,y,i⟩:=j.obj l;simp only[cH,y]at e
  cases o with
  |lst ys =>
   cases e;obtain⟨u,B,z⟩:=i;exact⟨a,u,rfl,.inl (SqL.of B),z⟩
  |_=>cases e
 |_=>cases e
def mJ(f g:PV->PV->MH->S4)(a b c:Mx PV):Mx PV:=λZ h=>(a Z h).bind λx u=>(b Z u).bind λy l=>(f x y l).ne.bind λz i=>match z with
 |.bl t=>if t=I then(c Z i).bind λw j=>(g y w j).ne else .ok (.bl T) i
 |_=>.bad
variable{a b c:Expr}{ma mb mc:Mx PV}{f g':PV->PV->MH->S4}{op op':CmpOp}{pos:Pos}
def zT{Z:L2.St}{H:Hp}{Q:VK}(q:tM X (RV' X) (mJ f g' ma mb mc) Z H Q):wM (rJ X f) (rJ X g') (tM X (RV' X) ma) (tM X (RV' X) mb) (tM X (RV' X) mc) Z H Q:=by
 obtain⟨U,i,h,C,rh,q⟩:=q;refine⟨U,i,h,C,rh,Ful.bind q λU1 H1 x x' h1 _ R E rx q1=>?_⟩;refine⟨U1,i,h1,C.le R,E,Ful.bind q1 λO H2 y y' S _ P L M q2=>?_⟩;refine⟨O,S,x,y,L,rx.le P,M,?_⟩;have key:Ful X (RV' X) i O H2 (f x y S).ne (λz l=>∃k,z=.bl k/\(if k=I then tM X (RV' X) mc Z l λw' H4=>rJ X g' y' w' H4 Q else Q (.bl T) l)):=Ful.bind q2 λU3 l z z' h3 _ l3 j rz B=>by
  cases rz with
  |bl t =>
   refine⟨t,rfl,?_⟩
   cases t with
   |true =>
    exact⟨U3,i,h3,C.le (R.trans (P.trans l3)),j,Ful.bind B λU4 H4 w w' h4 _ l4 F u q4=>⟨U4,h4,y,w,F,(M.le l3).le l4,u,q4.zero⟩⟩
   |false =>
    exact B U3 l _ (Le.refl _ _) j (.bl _)
  |_=>exact B.elim
 exact key.zero
def Al(z:yP X (compareOp op) f)(i:yP X (compareOp op') g')(j:ME X a ma)(l:ME X b mb)(u:ME X c mc)(y:lastMarks [op,op'] [b,c]=T:=by with_unfolding_all rfl):ME X (.Compare a [op,op'] [b,c] pos) (mJ f g' ma mb mc) :=
 PE.imp (Am z i j l u y) λ_ _ _ q=>zT q
@[simp]theorem Ju:mJ f g' ma mb mc Z h=(ma Z h).bind λx h1=>(mb Z h1).bind λy h2=>(f x y h2).ne.bind λz h3=>match z with
 |.bl t=>if t=I then(mc Z h3).bind λw h4=>(g' y w h4).ne else .ok (.bl T) h3
 |_=>.bad:=rfl
def C3(i:Bool)(x y:PV)(h:MH):S4:=match cH h y with
 |some ys=>(match rd 60 h x,cC (rd 60 h) ys with
  |some d,J j=>if d.canLay0=I/\PyData.canLayAll0 j=I then .ok (.bl (if i then !j.any (λe=>PyData.eqv e d)else j.any (λe=>PyData.eqv e d))) h else .bad
  |_,_=>.bad)
 |none=>.bad
def nH:∀{i:List PyData},PyData.canLayAll0 i=I->∀d∈i,d.canLay0=I
 |e::i,h,d,hd=>by
  simp only[PyData.canLayAll0,Jf]at h;rcases j_.mp hd with rfl|hd
  .exact h.1
  .exact nH h.2 d hd
def pG(hf:∀u d i,Reads hp u d i->fq u=PyData.eqv d dx):∀{j:SH}{l:List PyData}{i:SX},ReadsAll hp j l i->j.any fq=l.any λe=>PyData.eqv e dx
 |_,_,_,.nil=>rfl
 |_,_,_,.cons r t=>by rw[Jl,Jl,hf _ _ _ r,pG hf t]
def pr:∀{j:SH}{l:List PyData}{y:SX},ReadsAll hp j l y->∀u∈j,∃d i,d∈l/\Reads hp u d i
 |_,_,_,.nil,u,h=>nomatch h
 |_,_,_,.cons r t,u,h=>by
  rcases j_.mp h with rfl|h
  .exact⟨_,_,mu,r⟩
  .obtain⟨d,i,hd,z⟩:=pr t u h;exact⟨d,i,nt _ hd,z⟩
def fq(j:Heap)(l:PyData)(u:Value):Bool:=if z:∃d i,Reads j u d i then PyData.eqv z.choose l else T
def EB(r:Reads hp u d i):fq hp dx u=PyData.eqv d dx:=by have z:∃d i,Reads hp u d i:=⟨d,i,r⟩;unfold fq;rw[dif_pos z];obtain⟨j,l⟩:=z.choose_spec;rw[<-(Reads.unique r _ _ l).1]
def EF(hr:Room k X.A)(E:Bool):yP X (compareOp (if E then .NotIn else .In)) (C3 E):=by
 intro Kh s Z H x' y' u v Q j ab am ⟨U,h,x,y,F,rx,ry,q⟩;unfold C3 at q
 cases es:cH h y with
 |none=>rw[es]at q;exact q.elim
 |some ys =>
  rw[es]at q;dsimp only at q;obtain⟨a,zs,rfl,S,al⟩:=kG F ry es
  cases ex:rd 60 h x with
  |none=>rw[ex]at q;exact q.elim
  |some l =>
   rw[ex]at q
   cases ed:cC (rd 60 h) ys with
   |none=>rw[ed]at q;exact q.elim
   |some ds =>
    rw[ed]at q;dsimp only at q;by_cases hl:l.canLay0=I/\PyData.canLayAll0 ds=I
    .rw[b_ hl]at q;cases am;obtain⟨_,rX⟩:=eG j F 60 x x' u l rx ab ex;have ap:=(lV 60 x l ex).1;have z:∀(i:SH),aD zs i->(∀w∈i,SeqAt.EqAt X.A.in1 s w u (fq s.heap l w))/\i.any (fq s.heap l)=ds.any λe=>PyData.eqv e l:=λi C=>by
      obtain⟨as,RA⟩:=fF (λv v' u d r1 r2 e=>eG j F 60 v v' u d r1 r2 e) al C ed;refine⟨λw B=>?_,pG (λu d as r=>EB r) RA⟩;obtain⟨d,an,hd,R⟩:=pr RA w B;rw[EB R];refine SeqAt.eqAt_reads d l X.A.in1 s w u _ _ R rX (nH hl.2 d hd) hl.1 ?_
      have:=hr.un
      lia
     cases E with
     |false =>
      rcases S with O|O
      .obtain⟨i,C,L,hz⟩:=j.list O;obtain⟨P,M⟩:=z i C;refine SeqAt.in_listAt (fq s.heap l) L.isList (λw B=>P w (by simpa using B)) ⟨.bl _,H,j,rfl,?_⟩;rw[show i.toArray.any (fq s.heap l)=i.any (fq s.heap l) by simp,M];exact q U H _ (Le.refl _ _) F (.bl _)
      .obtain⟨i,C,L,hz⟩:=j.tuple O;obtain⟨P,M⟩:=z i C;refine SeqAt.in_tupleAt (fq s.heap l) L (λw B=>P w (by simpa using B)) ⟨.bl _,H,j,rfl,?_⟩;rw[show i.toArray.any (fq s.heap l)=i.any (fq s.heap l) by simp,M];exact q U H _ (Le.refl _ _) F (.bl _)
     |true =>
      rcases S with O|O
      .obtain⟨i,C,L,hz⟩:=j.list O;obtain⟨P,M⟩:=z i C;refine SeqAt.notIn_listAt (fq s.heap l) L.isList (λw B=>P w (by simpa using B)) ⟨.bl _,H,j,rfl,?_⟩;rw[show i.toArray.any (fq s.heap l)=i.any (fq s.heap l) by simp,M];exact q U H _ (Le.refl _ _) F (.bl _)
      .obtain⟨i,C,L,hz⟩:=j.tuple O;obtain⟨P,M⟩:=z i C;refine SeqAt.notIn_tupleAt (fq s.heap l) L (λw B=>P w (by simpa using B)) ⟨.bl _,H,j,rfl,?_⟩;rw[show i.toArray.any (fq s.heap l)=i.any (fq s.heap l) by simp,M];exact q U H _ (Le.refl _ _) F (.bl _)
    .rw[c_ hl]at q;exact q.elim
def AM(xs:SM)(h:MH):S4:=match xs with
 |[x]=>(match cH h x with
  |some ys=>sf ys h
  |none=>.bad)
 |_=>.bad
def zQ(xs:SM)(h:MH):S4:=match xs with
 |[x]=>(match cH h x with
  |some ys=>.ok (.tup ys) h
  |none=>.bad)
 |_=>.bad
def C4:ck X (.type "list") AM:=by
 intro M s Z H xs F Q i r ⟨U,h,O,z,rp,q⟩
 cases rp with
 |nil=>exact q.elim
 |cons B C =>
  cases C with
  |cons _ _=>exact q.elim
  |nil =>
   rename_i x y
   unfold AM at q
   cases j:cH h x with
   |none=>simp only[j]at q;exact q.elim
   |some ys =>
    simp only[j]at q;obtain⟨a,L,rfl,u,l⟩:=kG z B j;obtain⟨_,E⟩:=kM z l q;exact rC M s Z H _ F Q i r ⟨a,L,rfl,u,E⟩
def yZ:ck X (.type "tuple") zQ:=by
 intro M s Z H xs L Q i r ⟨U,h,ps,z,rp,q⟩
 cases rp with
 |nil=>exact q.elim
 |cons O P =>
  cases P with
  |cons _ _=>exact q.elim
  |nil =>
   rename_i x y
   unfold zQ at q
   cases B:cH h x with
   |none=>simp only[B]at q;exact q.elim
   |some ys =>
    simp only[B]at q;obtain⟨a,C,rfl,E,j⟩:=kG z O B;rcases E with u|u
    .refine jF M s Z H _ L Q i r ⟨a,C,rfl,.inl ⟨u,λl S=>?_⟩⟩;obtain⟨R,F⟩:=z.tup S C;exact q U _ _ F R (.tup (SqT.of bL) (j.le F))
    .exact jF M s Z H _ L Q i r ⟨a,C,rfl,.inr ⟨u,q U H _ (Le.refl _ _) z (.tup u j)⟩⟩
def ft(xs:SM)(lo i:S1):SM:=(xs.drop (HT.l0 xs.length 0 lo)).take (HT.l0 xs.length xs.length i-HT.l0 xs.length 0 lo)
def GF(x:PV)(lo i:S1)(h:MH):S4:=match x with
 |.tup xs=>if HT.l0 xs.length 0 lo=0/\HT.l0 xs.length xs.length i=xs.length then .bad else .ok (.tup (ft xs lo i)) h
 |.frl xs=>.ok (.loc h.length) (h++[.lst (ft xs lo i)])
 |.loc n=>(match h[n]? with
  |some (.lst xs)=>.ok (.loc h.length) (h++[.lst (ft xs lo i)])
  |_=>.bad)
 |_=>.bad
def Sr(X:Cx)(f:PV->S1->S1->MH->S4):V->S1->S1->Hp->VK->Prop:=λi lo j H Q=>∃U h x,RH X.K X.mg U H h/\RP X.K U H x i/\gX X (RV' X) U H (f x lo j h) Q
def nV{K:h8}{U:SX}{H:Hp}{xs:SM}{ys:List V}(r:RPs K U H xs ys)(lo i:S1):RPs K U H (ft xs lo i) (lM ys lo i):=by unfold ft lM;rw[r.length];exact(r.drop _).take _
def K6:Nt X (Sr X GF):=by
 intro R s Z H x' v E M lo i sl Q j L hs O F ⟨U,h,x,l,S,q⟩
 cases S with
 |tup P C =>
  unfold GF at q;dsimp only at q
  rename_i xs a ys
  by_cases z:HT.l0 xs.length 0 lo=0/\HT.l0 xs.length xs.length i=xs.length
  .rw[b_ z]at q;exact q.elim
  .rw[c_ z]at q;refine FR R s Z H _ v E M lo i sl Q j L hs O F ⟨a,ys,rfl,P,by rw[<-C.length];exact z,λp B=>?_⟩;obtain⟨y,u⟩:=l.tup B (lM ys lo i);exact q U _ _ u y (.tup (SqT.of bL) ((nV C lo i).le u))
 |frl P C =>
  rename_i xs a ys
  refine uG R s Z H _ v E M lo i sl Q j L hs O F ⟨a,ys,rfl,P.sq,λp B=>?_⟩;obtain⟨y,u⟩:=l.new B (o:=.lst (ft xs lo i)) ⟨_,rfl,nV C lo i⟩;exact q _ _ _ u y (.loc (by rw[<-l.len];simp))
 |@loc n a en =>
  obtain⟨o,eo,ro⟩:=l.obj en;unfold GF at q;dsimp only at q;rw[eo]at q
  cases o with
  |lst xs =>
   obtain⟨ys,ey,ry⟩:=ro;refine uG R s Z H _ v E M lo i sl Q j L hs O F ⟨a,ys,rfl,SqL.of ey,λp B=>?_⟩;obtain⟨y,u⟩:=l.new B (o:=.lst (ft xs lo i)) ⟨_,rfl,nV ry lo i⟩;exact q _ _ _ u y (.loc (by rw[<-l.len];simp))
  |_=>exact q.elim
 |_=>exact q.elim
def MO'(X:Cx)(e:Option Expr)(m:Mx (S1)):Prop:=PO X e (tM X Kv m)
def Pw:Mx (S1):=λ_ h=>.ok Y h
def Px(m:Mx PV):Mx (S1):=λZ h=>(m Z h).bind λv j=>match v with
 |.int i=>.ok (J i) j
 |_=>.bad
def uL:MO' X Y Pw:=λj s Z H Q i ⟨U,l,h,y,u,q⟩=>Cj j s Z H Q i (q U H Y (Le.refl _ _) u rfl)
def uu(h:ME X e m):MO' X (J e) (Px m):=λL s Z H Q j ⟨U,l,F,E,C,q⟩=>Ck h L s Z H Q j ⟨U,l,F,E,C,Ful.bind q λB z v P R _ O u M y=>by
 cases M with
 |int i=>exact⟨i,rfl,y B z (J i) (Le.refl _ _) u rfl⟩
 |_=>exact y.elim⟩
def Py(m:Mx PV)(j y:Mx (S1)):Mx PV:=λZ h=>(m Z h).bind λx z=>(j Z z).bind λlo l=>(y Z l).bind λi u=>(GF x lo i u).ne
def EG{e:Expr}{lo y:Option Expr}{m:Mx PV}{E F:Mx (S1)}{p2:Pos}(he:ME X e m)(hl:MO' X lo E)(P:MO' X y F):ME X (.Subscript e (.Slice lo y Y p2) pos) (Py m E F) :=
 PE.imp (Aj K6 he hl P) λZ H Q ⟨U,i,h,j,rh,q⟩=>⟨U,i,h,j,rh,Ful.bind q λU1 H1 x x' h1 _ C u S q1=>⟨U1,i,h1,j.le C,u,Ful.bind q1 λM H2 lo R h2 _ B z el L=>by
  subst el
  exact⟨M,i,h2,j.le (C.trans B),z,Ful.bind L λU3 H3 y ab h3 _ l3 l O q3=>by
   subst O
   exact⟨U3,h3,x,l,(S.le B).le l3,q3.zero⟩⟩⟩⟩
end
section
variable{X:Cx}{N W G:SQ}{k:Nat}
def zp{A:Around}{E:S5}{M:SK}{Z:L2.St}{H:Hp}{s:Shared}{a:Addr}{ys:List V}{Q:S5}(F:A.handled=Y)(u:Inv X M Z H s)(z:SqL X.K H a ys\/SqT X.K H a ys)(h:∀(f:SH)(B:Heap)(It:Addr)(St:Nat->Heap->Prop),aD ys f->Walks X.prog X.w A It [It,a] [It] f.toArray.size (λi v=>f.toArray[i]?=J v) St->St 0 B->(∀b∈[It,a],b<B.objs.size)->(∀b o,s.heap.get? b=J o->B.get? b=J o)->s.heap.objs.size=It->Q (.ref It) { s with heap:=B}):
  wpAny (model X.prog X.w) A (pyIter (.ref a)) Q E s:=by
 have sz:∀(o:Obj),a<s.heap.objs.size->∀b∈[s.heap.objs.size,a],b<(s.heap.push o).objs.size:=λo j b y=>by
  rw[Fi];rcases j_.mp y with rfl|y
  .exact Jg _
  .rcases j_.mp y with rfl|y
   .exact Fb j
   .cases y
 rcases z with z|z
 .obtain⟨f,C,L,_⟩:=u.list z;have l:=L.isList;have j:a<s.heap.objs.size:=by obtain⟨_,e,_⟩:=l;exact nj e
  exact wpAny_pyIter_list l (h f _ _ _ C (Walks.list F _ a (sv j) f.toArray) ⟨⟨_,yM _ rfl,rfl,rfl⟩,l.push _⟩ (sz _ j) (λb o e=>n6 _ e) rfl)
 .obtain⟨f,C,l,_⟩:=u.tuple z;have j:a<s.heap.objs.size:=by obtain⟨_,e,_⟩:=l;exact nj e
  exact wpAny_pyIter_tuple l (h f _ _ _ C (Walks.tuple F _ a (sv j) f.toArray) ⟨⟨_,yM _ rfl,rfl,rfl⟩,l.push _⟩ (sz _ j) (λb o e=>n6 _ e) rfl)
def K7{s:Shared}{a f:Heap}{It:Addr}(j:∀b o,s.heap.get? b=J o->a.get? b=J o)(e:s.heap.objs.size=It)(l:∀b o,b∉[It]->a.get? b=J o->f.get? b=J o):∀b o,s.heap.get? b=J o->f.get? b=J o:=λb o q=>by
 refine l b o (λi=>?_) (j b o q)
 have:b=It:=by simpa using i
 exact absurd (nj q) (by rw[this,e];exact At _)
def lv:SM->Option (List Bool)
 |[]=>J []
 |.bl b::r=>(lv r).map (b::·)
 |_=>Y
def C5{K:h8}{U:SX}{H:Hp}:∀{xs:SM}{ys:List V}{bs:List Bool}{a:SH},RPs K U H xs ys->aD ys a->lv xs=J bs->a=bs.map Value.bool:=by
 intro xs
 induction xs with
 |nil=>intro ys bs a r v e;cases r;cases v;cases e;rfl
 |cons x xs j =>
  intro ys bs a r v e
  cases r with
  |cons f y =>
   cases v with
   |cons l u =>
    cases f with
    |bl b =>
     simp only[lv,y_]at e;obtain⟨i,z,rfl⟩:=e;rw[j y u z,show _=Value.bool b from l];rfl
    |_=>cases e
def sS(bs:List Bool):TruthOf X.prog X.w A (λi v=>(bs.map Value.bool).toArray[i]?=J v) (λi=>bs.getD i T):=λi v s Q E a f=>by
 have:v=.bool (bs.getD i T):=by
  have a:(List.map Value.bool bs).toArray[i]?=J v:=a;rw[M8,wl,y_]at a;obtain⟨b,e,rfl⟩:=a
  simp_all
 subst this;exact wpAny_truthy_bool f
def xm(bs:List Bool):(List.range bs.length).any (λi=>bs.getD i T)=bs.any id:=by
 induction bs with
 |nil=>rfl
 |cons b r a =>
  rw[AU,Oh,Jl,List.any_map,Jl,<-a];rfl
def C6(xs:SM)(h:MH):S4:=match xs with
 |[x]=>(match (cH h x).bind lv with
  |some bs=>.ok (.bl (bs.any id)) h
  |none=>.bad)
 |_=>.bad
def GG(g:Good X N W G k):ck X (.builtin "any") C6:=by
 intro Kh s Z H xs us Q f r ⟨U,h,ps,B,rp,q⟩
 cases rp with
 |nil=>exact q.elim
 |cons E F =>
  cases F with
  |cons _ _=>exact q.elim
  |nil =>
   rename_i x y
   unfold C6 at q
   cases j:(cH h x).bind lv with
   |none=>simp only[j]at q;exact q.elim
   |some bs =>
    simp only[j]at q;obtain⟨ys,e1,e2⟩:=E4.mp j;obtain⟨a,zs,rfl,u,l⟩:=kG B E e1
    cases r with
    |cons O L =>
     cases L;cases O;refine call_any_walk (zp g.room.hd f u λi S It St R M st fp kp z=>?_);have C:=C5 l R e2;refine⟨It,_,_,_,_,St,_,rfl,M,st,by rw[C];exact sS bs,λh' tk kk=>?_⟩;have P:i.toArray.size=bs.length:=by rw[C];simp
     rw[P,xm];exact⟨.bl _,H,f.kept (K7 kp z kk),rfl,q U H _ (Le.refl _ _) B (.bl _)⟩
end
def RH.loose{K:h8}{mg:AE}{U:SX}{H:Hp}{h:MH}(r:RH K mg U H h){p:Addr}(f:H p=Y)(j:HO):RH K mg U (ls H p j) h/\Le U H U (ls H p j):=by
 have i:∀n a,U[n]?=J a->a≠p:=λn a e z=>by
  obtain⟨B,_,q⟩:=r.obj e;rw[z,f]at q;exact q.some rfl
 have l:Le U H U (ls H p j):=⟨⟨[],by simp⟩,λa xs e=>by rw[aP (bD e f)];exact e,λa y u e=>by rw[aP (bD e f)];exact e⟩;exact⟨⟨r.len,r.nd,λn a o e1 e2=>by rw[aP (i n a e1)];exact(r.at' n a o e1 e2).le l⟩,l⟩
section
variable{X:Cx}{N W G:SQ}{k:Nat}
def jL(xs:SM)(i:Int)(v:PV):SM :=
 let k:=if i<0 then(i+(xs.length:Int)).toNat else min i.toNat xs.length
 xs.take k++v::xs.drop k
def kJ(n:Nat)(a:SM)(h:MH):S4:=match a with
 |[.int i,v]=>(match h[n]? with
  |some (.lst xs)=>if(-(2^63)<=i/\i<2^63)/\xs.length<sizeLine then .ok .non (h.set n (.lst (jL xs i v)))else .bad
  |_=>.bad)
 |_=>.bad
def x6:FS X "list.insert" (GC X kJ):=by
 intro Kh s Z H x vs v us Q l rx rv ⟨U,h,n,a,ps,e,en,rh,rp,q⟩;subst e;obtain⟨o,eo,ro⟩:=rh.obj en;unfold kJ at q
 split at q
 .rename_i i E
  cases rp with
  |cons r1 t1 =>
   cases t1 with
   |cons r2 t2 =>
    cases t2;cases r1;rw[eo]at q
    cases o with
    |lst xs =>
     dsimp only at q;by_cases B:(-(2^63)<=i/\i<2^63)/\xs.length<sizeLine
     .rw[b_ B]at q;obtain⟨ys,S,C⟩:=ro;cases rx
      cases rv with
      |cons M O=>cases O with
       |cons L R =>
        cases R
        rename_i v' u1 u2
        obtain⟨t,rfl⟩:=M;obtain⟨z,f,nn,r,y,e⟩:=l.lstM S
        let kk:=if i<0 then(i+(f.length:Int)).toNat else min i.toNat f.length
        have j:RPs X.K U H (jL xs i E) (ys.take kk++v'::ys.drop kk):=by
         have:(if i<0 then(i+(xs.length:Int)).toNat else min i.toNat xs.length)=kk:=by rw[C.length,y]
         unfold jL;rw[this];exact(C.take kk).append (.cons r2 (C.drop kk))
        obtain⟨P,l'⟩:=rh.put en (o:=.lst (jL xs i E)) ⟨_,rfl,j⟩;refine call_meets PySem.F.slot_list_insert ⟨_,e,rfl⟩ PySem.F.entry_list_insert (PySem.F.args_list_insert_3 _ _ _) (AutoListH.list_insert_list_int_val_1 a f.toArray nn i t u2 (by rw[fitsIndex_both B.1.1 B.1.2];simp) (by rw[q_];ext)) ⟨e,?_⟩;have u:=(r.take kk).append (.cons L (r.drop kk));have F:(ys.take kk++v'::ys.drop kk).length<=sizeLine:=by
         rw[<-j.length];have e1:(jL xs i E).length=xs.length+1:=by unfold jL;simp only[zv,AU,Je,Fd];ext
         ext
        refine⟨.non,_,l.lset (its':=f.take kk++u2::f.drop kk) S e ?_ u F,rfl,q U _ .non l' P .non⟩;simp[kk,List.extract];refine E6 ?_;rw[Fd];exact iv _
     .rw[c_ B]at q;exact q.elim
    |_=>exact q.elim
 .exact q.elim
def mT:∀(n:Nat)(lo:Int)(a:SH),a.length=n->(∀(i:Nat)(v:Value),a[i]?=J v->∃t,v=.int (lo+i) t)->aD ((List.range n).map λi=>V.int (lo+(i:Nat))) a
 |0,lo,a,f,_=>by cases a with|nil=>exact .nil|cons _ _=>simp at f
 |n+1,lo,a,f,h=>by
  cases a with
  |nil=>simp at f
  |cons u a =>
   rw[Oh,mO,xg];obtain⟨t,e⟩:=h 0 u rfl;refine .cons ⟨t,e⟩ ?_;have j:=mT n (lo+1) a (by simpa using f) λi v hv=>by
    obtain⟨t,e⟩:=h (i+1) v (by simpa using hv);exact⟨t,by rw[e];congr 1;push_cast;ext⟩
   have e2:((λi=>V.int (lo+((i:Nat):Int)))∘Nat.succ)=λi=>V.int (lo+1+((i:Nat):Int)):=by funext i;simp only[Function.comp];congr 1;push_cast;ext
   rw[e2];exact j
def pM{K:h8}{U:SX}{H:Hp}{lo:Int}:∀(l:SV),RPs K U H (l.map λ(i:Nat)=>PV.int (lo+(i:Int))) (l.map λ(i:Nat)=>V.int (lo+(i:Int)))
 |[]=>.nil
 |i::l=>.cons (.int _) (pM l)
end
end MM
namespace SetT
open PySem.SetTable
def dh(xs:Array Nat):Prop:=∀a b u v:Nat,a<b->xs[a]?=J u->xs[b]?=J v->u<v
def ze(xs:Array Nat)(j:Nat)(L:dh xs):∀l lo i:Nat,i-lo<=l->lo<=i->i<=xs.size ->
  (∀a v,xs[a]?=J v->a<lo->v<j)->(∀a v,xs[a]?=J v->i<=a->j<=v) ->
  below.go xs j l lo i<=xs.size/\(∀a v,xs[a]?=J v->a<below.go xs j l lo i->v<j) /\
   (∀a v,xs[a]?=J v->below.go xs j l lo i<=a->j<=v):=by
 intro l
 induction l with
 |zero =>
  intro lo i R P H B E
  have:lo=i:=by lia
  subst this;exact⟨H,B,E⟩
 |succ f M =>
  intro lo i R P H B E;unfold below.go;by_cases z:lo<i
  .simp only[z,if_true];have y:(lo+i)/2<xs.size:=by lia
   have C:xs[(lo+i)/2]?=J (xs[(lo+i)/2]'y):=JG y;have hd:xs.getD ((lo+i)/2) j=xs[(lo+i)/2]'y:=by simp[Array.getD,y]
   rw[hd];by_cases F:xs[(lo+i)/2]'y<j
   .simp only[F,if_true];apply M
    .lia
    .lia
    .lia
    .intro a v u O;by_cases G:a=(lo+i)/2
     .subst G;rw[C]at u;cases u;exact F
     .have:=L a ((lo+i)/2) v _ ⋯ u C;lia
    .exact E
   .simp only[F,if_false];apply M
    .lia
    .lia
    .lia
    .exact B
    .intro a v u Q;by_cases G:a=(lo+i)/2
     .subst G;rw[C]at u;cases u;lia
     .have:=L ((lo+i)/2) a _ v ⋯ C u;lia
  .simp only[z,if_false]
   have:lo=i:=by lia
   subst this;exact⟨H,B,E⟩
def cZ(xs:Array Nat)(j:Nat)(f:dh xs):
  below xs j<=xs.size/\(∀a v,xs[a]?=J v->a<below xs j->v<j)/\(∀a v,xs[a]?=J v->below xs j<=a->j<=v):=by
 apply ze xs j f
 .lia
 .lia
 .lia
 .lia
 .intro a v i h
  simp_all
def hV(xs:Array Nat)(i j:Nat)(l:dh xs)(h:xs[i]?=J j):below xs j=i:=by
 obtain⟨_,y,z⟩:=cZ xs j l;by_cases u:i<below xs j
 .have:=y i j h u;lia
 .by_cases B:below xs j=i
  .exact B
  .have a:below xs j<i:=by lia
   have E:i<xs.size:=by grind
   have f:xs[below xs j]?=J (xs[below xs j]'⋯):=JG ⋯;have F:=l _ i _ j a f h;have C:=z _ _ f (iv _);lia
def yS(a:Array Nat)(s:Nat):Prop:=∃i:Nat,a[i]?=J s
def oA(j:Nat):has (#[]:Array Nat) j=T:=by unfold has;simp
def pN(t:SetTable)(a:dh t.place)(i s:Nat)(h:t.place[i]?=J s):t.slot s=.live i:=by unfold SetTable.slot;simp only[hV t.place i s a h,h];simp
def mQ(t:SetTable)(hd:t.dummies=#[])(s:Nat)(h:¬yS t.place s):t.slot s=.empty:=by
 unfold SetTable.slot;simp only[hd,oA];split
 .rename_i a
  exact absurd ⟨_,by simpa using a⟩ h
 .simp
def cB(xs:Array α)(p:Nat)(x:α)(l:p<=xs.size)(i:Nat):
  (insertAt xs p x)[i]?=if i<p then xs[i]? else if i=p then J x else xs[i-1]?:=by
 unfold insertAt;have e1:(xs.extract 0 p).size=p:=by simp;lia
 rw[Array.getElem?_append];simp only[B2,e1];split
 .rw[Array.getElem?_push];simp only[e1];split
  .rename_i a;subst a;simp
  .rw[JH];lia
 .have a:¬i<p:=by lia
  have j:¬i=p:=by lia
  rw[JH];have e2:p+(i-(p+1))=i-1:=by lia
  simp only[e2];split
  .rfl
  .rename_i f
   rw[Q8];simp at f;lia
def ce(xs:Array α)(p:Nat)(x:α)(a:p<=xs.size):(insertAt xs p x).size=xs.size+1:=by unfold insertAt;simp;lia
def qz(f:α->β)(xs:Array α)(p:Nat)(x:α):(insertAt xs p x).map f=insertAt (xs.map f) p (f x):=by unfold insertAt;simp
def mK(x M:Nat):x % (M+1)<=M:=Fc (Nat.mod_lt x (Nat.succ_pos M))
def A1(M:Nat)(p:Probe):Probe :=
 if p.more>0 then { p with j:=p.j+1,more:=p.more-1} else
 { p with j:=(leap M p.i p.perturb).1,more:=runEnd M (leap M p.i p.perturb).1-(leap M p.i p.perturb).1,i:=(leap M p.i p.perturb).1,perturb:=(leap M p.i p.perturb).2}
def vq(t:SetTable)(p:Probe):t.advance p=A1 t.mask p:=by unfold SetTable.advance A1;rfl
def C7(M:Nat)(h:Int):Probe:={ j:=bits h % (M+1),more:=runEnd M (bits h % (M+1))-bits h % (M+1),i:=bits h % (M+1),perturb:=bits h,dummy:=Y}
def st(M:Nat)(h:Int):Nat->Probe
 |0=>C7 M h
 |n+1=>A1 M (st M h n)
def sl(M:Nat)(h:Int)(n:Nat):Nat:=(st M h n).j
def fW(M i:Nat)(h:i<=M):i<=runEnd M i/\runEnd M i<=M/\runEnd M i-i<=9:=by unfold runEnd;split<;>lia
def xP(M:Nat)(h:Int)(n:Nat):(st M h n).i<=M/\(st M h n).j+(st M h n).more=runEnd M (st M h n).i/\(st M h n).dummy=Y:=by
 induction n with
 |zero =>
  have a:bits h % (M+1)<=M:=mK _ _
  have:=fW M _ a
  refine⟨a,?_,rfl⟩;show bits h % (M+1)+(runEnd M (bits h % (M+1))-bits h % (M+1))=runEnd M (bits h % (M+1));lia
 |succ n f =>
  show(A1 M (st M h n)).i<=M/\(A1 M (st M h n)).j+(A1 M (st M h n)).more=runEnd M (A1 M (st M h n)).i/\(A1 M (st M h n)).dummy=Y;unfold A1;split
  .lia
  .have a:(leap M (st M h n).i (st M h n).perturb).1<=M:=mK _ _
   have:=fW M _ a
   grind
def EH(M:Nat)(h:Int)(n:Nat):sl M h n<=M:=by
 have:=xP M h n
 have a:=fW M _ this.1;unfold sl;lia
def base(M:Nat)(h:Int):Nat->Nat×Nat
 |0=>(bits h % (M+1),bits h)
 |b+1=>leap M (base M h b).1 (base M h b).2
def o3(M:Nat)(h:Int)(b:Nat):(base M h b).1<=M:=by
 cases b with
 |zero=>exact mK _ _
 |succ b =>
  exact mK _ _
def tb(M:Nat)(h:Int):Nat->Nat
 |0=>0
 |b+1=>tb M h b+(runEnd M (base M h b).1-(base M h b).1)+1
def K8(M:Nat)(h:Int)(b:Nat):tb M h b<=10*b:=by
 induction b with
 |zero=>exact iv _
 |succ b a =>
  have:=fW M _ (o3 M h b)
  show tb M h b+(runEnd M (base M h b).1-(base M h b).1)+1<=10*(b+1);lia
def K9(M:Nat)(h:Int)(b k:Nat):Probe :=
 { j:=(base M h b).1+k,more:=runEnd M (base M h b).1-(base M h b).1-k,i:=(base M h b).1,perturb:=(base M h b).2,dummy:=Y}
def rD(M:Nat)(h:Int)(b:Nat):∀k,k<=runEnd M (base M h b).1-(base M h b).1->st M h (tb M h b+k)=K9 M h b k:=by
 induction b with
 |zero =>
  intro k
  induction k with
  |zero=>intro _;rfl
  |succ k a =>
   intro i;show A1 M (st M h (tb M h 0+k))=_;rw[a ⋯];unfold A1 K9;lia
 |succ b f =>
  intro k
  induction k with
  |zero =>
   intro _;show A1 M (st M h (tb M h b+(runEnd M (base M h b).1-(base M h b).1)))=_;rw[f _ (iv _)];unfold A1 K9;simp;exact⟨rfl,rfl,rfl,rfl⟩
  |succ k a =>
   intro i;show A1 M (st M h (tb M h (b+1)+k))=_;rw[a ⋯];unfold A1 K9
   have:runEnd M (base M h (b+1)).1-(base M h (b+1)).1-k>0:=by lia
   lia
def C8(h:Int):bits h<2^64:=by unfold bits;lia
def xv(M:Nat)(h:Int):∀b,(base M h b).2=bits h/32^b:=by
 intro b
 induction b with
 |zero=>simp[base]
 |succ b a =>
  show(base M h b).2/32=_;rw[a,Nat.div_div_eq_div_mul,Nat.pow_succ]
def vn(M:Nat)(h:Int)(b:Nat)(a:13<=b):(base M h b).2=0:=by rw[xv];apply Nat.div_eq_of_lt;have i:=C8 h;have f:32^13<=32^b:=Nat.pow_le_pow_right (by decide) a;lia
def A2(M:Nat):Nat->Nat->Nat
 |0,x=>x
 |n+1,x=>(A2 M n x*5+1) % (M+1)
def Aa(M:Nat)(h:Int)(n:Nat):(base M h (13+n)).1=A2 M n (base M h 13).1:=by
 induction n with
 |zero=>rfl
 |succ n a =>
  show((base M h (13+n)).1*5+1+(base M h (13+n)).2/32) % (M+1)=(A2 M n (base M h 13).1*5+1) % (M+1);rw[a,vn M h (13+n) ⋯]
def kC(M:Nat)(a b x:Nat):A2 M (a+b) x=A2 M a (A2 M b x):=by
 induction a with
 |zero=>simp[A2]
 |succ a f=>rw[Nat.succ_add];show(A2 M (a+b) x*5+1) % (M+1)=(A2 M a (A2 M b x)*5+1) % (M+1);rw[f]
def Jv(M:Nat):Nat->Nat->SV
 |0,_=>[]
 |n+1,x=>x::Jv M n ((x*5+1) % (M+1))
def yy(M n x:Nat):A2 M n ((x*5+1) % (M+1))=A2 M (n+1) x:=by
 have:=kC M n 1 x
 rw[this];rfl
def uR(M:Nat)(s:Nat):∀n x,s∈Jv M n x->∃m,m<n/\A2 M m x=s:=by
 intro n
 induction n with
 |zero=>intro x h;cases h
 |succ n a =>
  intro x h
  cases h with
  |head=>exact⟨0,⋯,rfl⟩
  |tail _ h =>
   obtain⟨m,f,e⟩:=a _ h;exact⟨m+1,⋯,by rw[<-e,yy]⟩
def fi(M:Nat):Prop:=A2 M (M+1) 0=0/\∀s,s<=M->s∈Jv M (M+1) 0
set_option maxRecDepth 100000 in
theorem K_:fi 7:=⟨by decide,by
 have:∀s:Fin 8,(Jv 7 8 0).contains s.val=I:=by decide
 intro s a;have:=this ⟨s,⋯⟩;simpa using this⟩
set_option maxRecDepth 100000 in
theorem GH:fi 31:=⟨by decide,by
 have:(List.range 32).all (λs=>(Jv 31 32 0).contains s)=I:=by decide
 intro s f;have a:=Jh.mp this s (by simp;lia)
 simpa using a⟩
set_option maxRecDepth 100000 in
theorem C9:fi 127:=⟨by decide,by
 have:(List.range 128).all (λs=>(Jv 127 128 0).contains s)=I:=by decide
 intro s f;have a:=Jh.mp this s (by simp;lia)
 simpa using a⟩
def xZ(M:Nat)(hf:fi M)(x s:Nat)(j:x<=M)(l:s<=M):∃m,m<=2*M+1/\m<=M/\A2 M m x=s:=by
 obtain⟨a,u,f⟩:=uR M x _ _ (hf.2 x j);obtain⟨b,y,i⟩:=uR M s _ _ (hf.2 s l);by_cases h:a<=b
 .refine⟨b-a,⋯,⋯,?_⟩;rw[<-f,<-kC,E_ h];exact i
 .refine⟨M+1-a+b,⋯,⋯,?_⟩;rw[<-f,<-kC]
  have:M+1-a+b+a=b+(M+1):=by lia
  rw[this,kC,hf.1];exact i
def nq(M:Nat)(hf:fi M)(h:Int)(s:Nat)(a:s<=M):∃b,b<=M+13/\(base M h b).1=s:=by obtain⟨m,_,f,e⟩:=xZ M hf (base M h 13).1 s (o3 M h 13) a;exact⟨13+m,⋯,by rw[Aa];exact e⟩
def zD(M:Nat)(hf:fi M)(h:Int)(s:Nat)(a:s<=M):∃n,n<=10*(M+13)/\sl M h n=s:=by
 obtain⟨b,f,e⟩:=nq M hf h s a;refine⟨tb M h b,?_,?_⟩
 .have:=K8 M h b;lia
 .have:=rD M h b 0 ⋯
  unfold sl;rw[Nat.add_zero]at this;rw[this];show(base M h b).1+0=s;lia
structure WF(M:Nat)(pl:Array Nat)(hs:Array Int):Prop where
 rise:dh pl
 bound:∀i v:Nat,pl[i]?=J v->v<=M
 size:pl.size=hs.size
 reach:∀(i:Nat)(h:Int)(v:Nat),hs[i]?=J h->pl[i]?=J v->∃n,sl M h n=v/\∀m,m<n->yS pl (sl M h m)
def dY{α:Type}{xs:Array α}{i:Nat}{v:α}(h:xs[i]?=J v):i<xs.size:=by grind
def du{α:Type}(xs:Array α)(i:Nat)(h:i<xs.size):∃v,xs[i]?=J v:=⟨_,JG h⟩
def wH(j:Array Nat)(y:dh j)(M:Nat)(h:∀s,s<=M->yS j s):∀s i:Nat,s<=M->j[i]?=J s->s<=i:=by
 intro s
 induction s with
 |zero=>lia
 |succ s l =>
  intro i B a;obtain⟨k,f⟩:=h s ⋯;have C:=l k ⋯ f;by_cases z:k<i
  .lia
  .by_cases u:k=i
   .subst u;rw[f]at a;cases a
   .have:=y i k (s+1) s ⋯ a f;lia
def wS(f:Array Nat)(u:dh f)(M:Nat)(l:f.size<=M):∃s,s<=M/\¬yS f s:=by
 apply Classical.byContradiction;intro y;have a:∀s,s<=M->yS f s:=by
  intro s z
  simp_all
 obtain⟨i,j⟩:=a M (iv _)
 have:=wH f u M a M i (iv _) j
 have:=dY j
 lia
def La(P:Nat->Prop):∀n,P n->∃m,m<=n/\P m/\∀k,k<m->¬P k:=by
 intro n
 induction n using Nat.strongRecOn with
 |_ n j =>
  intro i;by_cases h:∃k,k<n/\P k
  .obtain⟨k,a,f⟩:=h;obtain⟨m,l,r⟩:=j k a f;exact⟨m,⋯,r⟩
  .exact⟨n,iv _,i,λk a f=>h ⟨k,a,f⟩⟩
def vC(a:Array Nat)(l:dh a)(M:Nat)(hf:fi M)(f:a.size<=M)(h:Int):
  ∃n,n<=10*(M+13)/\¬yS a (sl M h n)/\∀m,m<n->yS a (sl M h m):=by
 obtain⟨s,j,i⟩:=wS a l M f;obtain⟨n,B,e⟩:=zD M hf h s j;obtain⟨m,C,u,z⟩:=La (λn=>¬yS a (sl M h n)) n (by rw[e];exact i);exact⟨m,⋯,u,λk y=>Classical.byContradiction (z k y)⟩
def zI(t:SetTable)(hd:t.dummies=#[])(L:dh t.place)(hashAt:Nat->Int)(h:Int)(z:Nat)(P:¬yS t.place (sl t.mask h z))(C:∀m,m<z->yS t.place (sl t.mask h m)):
  ∀j n,n<=z->z-n<j ->
   (probe.go t hashAt h j (st t.mask h n)=J (.empty (sl t.mask h z) Y) /\
    ∀m i:Nat,n<=m->m<z->t.place[i]?=J (sl t.mask h m)->hashAt i≠h) \/
   (∃m i:Nat,n<=m/\m<z/\t.place[i]?=J (sl t.mask h m)/\hashAt i=h /\
    probe.go t hashAt h j (st t.mask h n)=J (.candidate (sl t.mask h m) i (st t.mask h (m+1))) /\
    ∀B l:Nat,n<=B->B<m->t.place[l]?=J (sl t.mask h B)->hashAt l≠h):=by
 intro j
 induction j with
 |zero=>intro n h1 h2;lia
 |succ f ih =>
  intro n h1 h2;by_cases he:n=z
  .subst he;left;refine⟨?_,λm i R E=>by lia⟩;unfold probe.go;have y:=mQ t hd _ P;unfold sl at y;simp only[y]
   have:=(xP t.mask h n).2.2
   rw[this];rfl
  .obtain⟨i,Q⟩:=C n ⋯;have y:=pN t L i _ Q;have S:probe.go t hashAt h (f+1) (st t.mask h n)=if hashAt i==h then J (.candidate (sl t.mask h n) i (st t.mask h (n+1)))else probe.go t hashAt h f (st t.mask h (n+1)):=by
    conv=>lhs;unfold probe.go
    unfold sl at y;simp only[y,vq];rfl
   by_cases F:hashAt i=h
   .right;refine⟨n,i,iv _,⋯,Q,F,?_,λB l R E=>by lia⟩;rw[S];simp[F]
   .have H:probe.go t hashAt h (f+1) (st t.mask h n)=probe.go t hashAt h f (st t.mask h (n+1)):=by
     rw[S];simp[F]
    rw[H];have u:∀l:Nat,t.place[l]?=J (sl t.mask h n)->l=i:=by intro l M;have a:=hV _ _ _ L Q;have b:=hV _ _ _ L M;lia
    rcases ih (n+1) ⋯ ⋯with⟨W,r2⟩|⟨m,Z,q1,U,q3,q4,q5,X⟩
    .left;refine⟨W,?_⟩;intro m l R E G;by_cases O:m=n
     .subst O;rw[u l G];exact F
     .exact r2 m l ⋯ E G
    .right;refine⟨m,Z,⋯,U,q3,q4,q5,?_⟩;intro B l R E G;by_cases O:B=n
     .subst O;rw[u l G];exact F
     .exact X B l ⋯ E G
def oS(f:Array Nat)(p s:Nat)(l:p<=f.size)(x:Nat)(h:yS f x):yS (insertAt f p s) x:=by
 obtain⟨i,j⟩:=h;by_cases u:i<p
 .exact⟨i,by rw[cB _ _ _ l];simp[u,j]⟩
 .refine⟨i+1,?_⟩;rw[cB _ _ _ l];have a:¬i+1<p:=by lia
  have b:¬i+1=p:=by lia
  simp[a,b,j]
def rP(j:Array Nat)(s:Nat)(y:dh j)(C:¬yS j s):dh (insertAt j (below j s) s):=by
 obtain⟨H,E,F⟩:=cZ j s y;intro a b u v z l f;rw[cB _ _ _ H]at l f;have B:=λi L=>C ⟨i,L⟩
 split at l
 .rename_i M
  have G:=E a u l M
  split at f
  .exact y a b u v z l f
  .split at f
   .cases f;exact G
   .exact y a (b-1) u v ⋯ l f
 .split at l
  .have e1:¬b<below j s:=by lia
   have e2:¬b=below j s:=by lia
   simp only[e1,e2,if_false]at f
   have:=F (b-1) v f ⋯
   have O:v≠s:=λe=>B (b-1) (by rw[f,e]);lia
  .have e1:¬b<below j s:=by lia
   have e2:¬b=below j s:=by lia
   simp only[e1,e2]at f;exact y (a-1) (b-1) u v ⋯ l f
def GJ(M:Nat)(a:Array Nat)(E:Array Int)(w:WF M a E)(h:Int)(n:Nat)(C:¬yS a (sl M h n))(z:∀m,m<n->yS a (sl M h m)):
  WF M (insertAt a (below a (sl M h n)) (sl M h n)) (insertAt E (below a (sl M h n)) h):=by
 have j:=(cZ a (sl M h n) w.rise).1;have y:below a (sl M h n)<=E.size:=by have:=w.size;lia
 refine⟨rP a _ w.rise C,?_,?_,?_⟩
 .intro i v l;rw[cB _ _ _ j]at l
  split at l
  .exact w.bound _ _ l
  .split at l
   .cases l;exact EH M h n
   .exact w.bound _ _ l
 .rw[ce _ _ _ j,ce _ _ _ y,w.size]
 .intro i G v f hv;rw[cB _ _ _ j]at hv;rw[cB _ _ _ y]at f
  split at hv
  .rename_i F
   simp only[F]at f;obtain⟨k,e,r⟩:=w.reach i G v f hv;exact⟨k,e,λm u=>oS _ _ _ j _ (r m u)⟩
  .rename_i F
   split at hv
   .rename_i B
    simp only[B]at f;cases hv;simp at f;cases f;exact⟨n,rfl,λm u=>oS _ _ _ j _ (z m u)⟩
   .rename_i B
    simp only[F,B]at f;obtain⟨k,e,r⟩:=w.reach (i-1) G v f hv;exact⟨k,e,λm u=>oS _ _ _ j _ (r m u)⟩
def g7(ow:Array (S8))(s:Nat):Prop:=∃i:Nat,ow[s]?=J (J i)
structure LC(M:Nat)(ow:Array (S8))(k:Nat)(hs:Array Int):Prop where
 size:ow.size=M+1
 own:∀i,i<k->∃j:Nat,ow[j]?=J (J i)
 inj:∀i j j':Nat,ow[j]?=J (J i)->ow[j']?=J (J i)->j=j'
 lt:∀j i:Nat,ow[j]?=J (J i)->i<k
 reach:∀(j i:Nat)(h:Int),ow[j]?=J (J i)->hs[i]?=J h->∃n,sl M h n=j/\∀m,m<n->g7 ow (sl M h m)
def jA(ow:Array (S8))(s:Nat)(a:s<ow.size):(ow.getD s (J 0)).isNone=I↔¬g7 ow s:=by
 unfold g7
 have:=JG a
 simp only[Array.getD,a,this]
 cases h:ow[s]'a with
 |none=>simp[h]
 |some v=>simp[h]
def wX(M:Nat)(hf:fi M)(ow:Array (S8))(U:ow.size=M+1)(h:Int)(s:Nat)(hs:s<=M)(L:¬g7 ow s):
  ∀l b,M+13<b+l->(∀m,m<tb M h b->g7 ow (sl M h m)) ->
   ∃n,layClean.free M ow l (base M h b).1 (base M h b).2=J (sl M h n)/\¬g7 ow (sl M h n)/\∀m,m<n->g7 ow (sl M h m):=by
 have u:∀b c,b<c->tb M h b<tb M h c:=by
  intro b c S
  induction c with
  |zero=>lia
  |succ c H =>
   show tb M h b<tb M h c+(runEnd M (base M h c).1-(base M h c).1)+1;by_cases e:b=c
   .subst e;lia
   .have:=H ⋯;lia
 intro l
 induction l with
 |zero =>
  intro b hb i;obtain⟨E,X,e⟩:=nq M hf h s hs;have C:=u E b ⋯;have y:=i _ C;have z:=rD M h E 0 ⋯;rw[Nat.add_zero]at z;unfold sl at y;rw[z]at y
  have:(K9 M h E 0).j=s:=by show(base M h E).1+0=s;lia
  rw[this]at y;exact absurd y L
 |succ f H =>
  intro b hb i;have F:=o3 M h b;have ab:=fW M _ F;have a:∀k,k<=runEnd M (base M h b).1-(base M h b).1->sl M h (tb M h b+k)=(base M h b).1+k:=by intro k P;unfold sl;rw[rD M h b k P];rfl
  unfold layClean.free
  cases Jx:(List.range (runEnd M (base M h b).1+1-(base M h b).1)).find? λk=>(ow.getD ((base M h b).1+k) (J 0)).isNone with
  |some k =>
   rw[List.find?_range_eq_some]at Jx;obtain⟨Q,Z,W⟩:=Jx;have P:k<runEnd M (base M h b).1+1-(base M h b).1:=by simpa using Z
   refine⟨tb M h b+k,?_,?_,?_⟩
   .rw[a k ⋯]
   .rw[a k ⋯];exact(jA ow _ ⋯).mp Q
   .intro m O;by_cases C:m<tb M h b
    .exact i m C
    .have e:m=tb M h b+(m-tb M h b):=by lia
     rw[e,a _ ⋯];have y:=W (m-tb M h b) ⋯;have z:=jA ow ((base M h b).1+(m-tb M h b)) ⋯;apply Classical.byContradiction;intro G;rw[z.mpr G]at y;simp at y
  |none =>
   rw[List.find?_range_eq_none]at Jx;have B:∀m,m<tb M h (b+1)->g7 ow (sl M h m):=by
    intro m O;by_cases C:m<tb M h b
    .exact i m C
    .have R:m<tb M h b+(runEnd M (base M h b).1-(base M h b).1)+1:=O;have e:m=tb M h b+(m-tb M h b):=by lia
     rw[e,a _ ⋯];have y:=Jx (m-tb M h b) ⋯;have z:=jA ow ((base M h b).1+(m-tb M h b)) ⋯;apply Classical.byContradiction;intro G;rw[z.mpr G]at y;simp at y
   exact H (b+1) ⋯ B
def C_(M:Nat)(ow:Array (S8))(k:Nat)(j:Array Int)(c:LC M ow k j)(L:k<=M):∃s,s<=M/\¬g7 ow s:=by
 apply Classical.byContradiction;intro z;have l:=λs j=>Classical.byContradiction (λh=>z ⟨s,j,h⟩);have f:∀s,s<=M->ow[s]?=J (J ((ow.getD s Y).getD 0)):=by
  intro s j;obtain⟨i,O⟩:=l s j
  simp_all
 have B:((List.range (M+1)).map (λs=>(ow.getD s Y).getD 0)).Nodup:=by unfold List.Nodup;rw[A5];apply List.Pairwise.imp_of_mem _ JS;intro a b G H y e;have C:=f a (by simp at G;lia);have E:=f b (by simp at H;lia);rw[<-e]at E;exact y (c.inj _ _ _ C E)
 have u:((List.range (M+1)).map (λs=>(ow.getD s Y).getD 0)) ⊆ List.range k:=by
  intro x F;obtain⟨s,j,e⟩:=k6.mp F;have C:=f s (by simp at j;lia)
  have:=c.lt _ _ C
  rw[e]at this;simpa using this
 have:=List.Nodup.length_le_of_subset B u
 simp at this;lia
def Db(M:Nat)(hf:fi M)(ow:Array (S8))(k:Nat)(B:Array Int)(c:LC M ow k B)(P:k<=M)(h:Int)(Q:B[k]?=J h):
  ∃j,layClean.free M ow (turns M) (bits h % (M+1)) (bits h)=J j/\LC M (ow.setIfInBounds j (J k)) (k+1) B:=by
 obtain⟨s,H,G⟩:=C_ M ow k B c P;obtain⟨n,e,F,z⟩:=wX M hf ow c.size h s H G (turns M) 0 (by unfold turns;lia) (by intro m y;exact absurd y (Nat.not_lt_zero m));refine⟨sl M h n,e,?_⟩;have C:=EH M h n;have E:sl M h n<ow.size:=by have:=c.size;lia
 have a:∀s:Nat,(ow.setIfInBounds (sl M h n) (J k))[s]?=if s=sl M h n then J (J k)else ow[s]?:=by
  intro s;by_cases e:sl M h n=s
  .subst e;simp[E]
  .have e2:¬s=sl M h n:=λx=>e x.symm;simp[e,e2]
 have l:∀s,g7 ow s->g7 (ow.setIfInBounds (sl M h n) (J k)) s:=by
  intro s ⟨i,L⟩;by_cases e:s=sl M h n
  .exact⟨k,by rw[a];simp[e]⟩
  .exact⟨i,by rw[a];simp[e,L]⟩
 refine⟨by simp[c.size],?_,?_,?_,?_⟩
 .intro i L;by_cases e:i=k
  .subst e;exact⟨sl M h n,by rw[a];simp⟩
  .obtain⟨j,C⟩:=c.own i ⋯;refine⟨j,?_⟩;rw[a]
   have:¬j=sl M h n:=λe=>F ⟨i,by rw[<-e];exact C⟩
   simp[this,C]
 .intro i j R f u;rw[a]at f u;by_cases e1:j=sl M h n<;>by_cases e2:R=sl M h n
  .rw[e1,e2]
  .simp[e1]at f;simp[e2]at u
   have:=c.lt _ _ u;lia
  .simp[e1]at f;simp[e2]at u
   have:=c.lt _ _ f;lia
  .simp[e1]at f;simp[e2]at u;exact c.inj _ _ _ f u
 .intro j i f;rw[a]at f;by_cases e1:j=sl M h n
  .simp[e1]at f;lia
  .simp[e1]at f;have:=c.lt _ _ f;lia
 .intro j i U f u;rw[a]at f;by_cases e1:j=sl M h n
  .simp[e1]at f;subst f;rw[Q]at u;cases u;exact⟨n,e1.symm,λm y=>l _ (z m y)⟩
  .simp[e1]at f;obtain⟨O,S,r⟩:=c.reach _ _ _ f u;exact⟨O,S,λm y=>l _ (r m y)⟩
def GK(M:Nat)(f:Array Int):LC M (Array.replicate (M+1) Y) 0 f:=by
 have a:∀(s i:Nat),(Array.replicate (M+1) (Y:S8))[s]?≠J (J i):=by
  intro s i h;rw[Q4]at h
  split at h<;>cases h
 exact⟨by simp,λi u=>by lia,λi j y h=>absurd h (a _ _),λj i h=>absurd h (a _ _),λj i h l=>absurd l (a _ _)⟩
def pY(M:Nat)(hf:fi M)(f:Array Int)(E:f.size<=M):∀(l:SS)(ow:Array (S8))(k:Nat),
  LC M ow k f->(∀q:Nat,l[q]?=f[k+q]?)->k<=f.size ->
  ∃a,(l.foldl (init:=J (ow,k)) λy h=>do
   let(owner,k) <-y
   let j <-layClean.free M owner (turns M) (bits h % (M+1)) (bits h)
   pure (owner.setIfInBounds j (J k),k+1))=J (a,f.size)/\LC M a f.size f:=by
 intro l
 induction l with
 |nil =>
  intro ow k c i F
  have:=i 0
  simp at this;have u:k=f.size:=by lia
  subst u;exact⟨ow,rfl,c⟩
 |cons h l H =>
  intro ow k c i F;have z:=i 0;have C:=dY z.symm;obtain⟨j,e,G⟩:=Db M hf ow k f c ⋯ h z.symm
  obtain⟨a,e2,B⟩:=H (ow.setIfInBounds j (J k)) (k+1) G (by
   intro q
   have:=i (q+1)
   simp at this
   lia) ⋯
  refine⟨a,?_,B⟩;rw[<-e2];simp[e]
def sW(M:Nat)(hf:fi M)(a:Array Int)(f:a.size<=M):∃ow,layClean M a=J ow/\LC M ow a.size a:=by
 obtain⟨ow,e,c⟩:=pY M hf a f a.toList _ 0 (GK M a) (by simp) ⋯;refine⟨ow,?_,c⟩;unfold layClean
 simp_all
def uK{L:SV}(h:L.Pairwise (·<·)):dh L.toArray:=by intro a b u v y z B;simp at z B;obtain⟨l,i⟩:=r_.mp z;obtain⟨f,j⟩:=r_.mp B;rw[<-i,<-j];exact Jc.mp h a b l f y
def d7{α β:Type}(f:α->Option β):∀(l:List α),(∀x,x∈l->∃v,f x=J v)->∀q:Nat,(l.filterMap f)[q]?=l[q]?.bind f:=by
 intro l
 induction l with
 |nil=>intro _ q;simp
 |cons x l a =>
  intro h q;obtain⟨v,hv⟩:=h x (by simp);rw[JM,hv]
  cases q with
  |zero=>simp[hv]
  |succ q=>exact a (λy i=>h y (by simp[i])) q
def gA{α:Type}(a:Array α):(List.range a.size).filterMap (a[·]?)=a.toList:=by
 apply JR;intro q;rw[d7 _ _ (by intro x f;exact du a x (by simpa using f))];by_cases h:q<a.size
 .rw[List.getElem?_range h];simp
 .rw[Br (by simp;lia)];simp;lia
def Dc{α:Type}(M:Nat)(hf:fi M)(E:α->Int)(u:Array α)(ab:u.size<=M)(fin mv:Nat)(led W:Bool):
  ∃pl B,laid M fin mv led W (u.map E)=J ({ mask:=M,place:=pl,dummies:=#[],finger:=fin,led:=led,moves:=mv,plain:=W},B) /\
   WF M pl ((B.filterMap (u[·]?)).map E)/\(B.filterMap (u[·]?)).size=u.size/\(B.filterMap (u[·]?)).toList.Perm u.toList /\
   B.toList.Perm (List.range u.size):=by
 obtain⟨ow,e,c⟩:=sW M hf (u.map E) (by simpa using ab);have hn:(u.map E).size=u.size:=by simp
 let f:Nat->Option (Nat×Nat):=λj=>(ow.getD j Y).map (j,·)
 let l:=(List.range (M+1)).filterMap f
 have H:∀j b,f j=J b↔(b.1=j/\ow[j]?=J (J b.2)):=by
  intro j b;show(ow.getD j Y).map (j,·)=J b↔_;by_cases F:j<ow.size
  .have:ow[j]?=J (ow[j]'F):=JG F
   simp only[Array.getD,F,dite_true,this]
   cases h:ow[j]'F with
   |none=>simp[h]
   |some v =>
    simp[h];constructor
    .intro e;subst e;simp
    .rintro⟨e1,e2⟩;cases b;simp_all
  .simp[Array.getD,F]
 have z:∀b:Nat×Nat,b∈l↔ow[b.1]?=J (J b.2):=by
  intro b;rw[BS];constructor
  .rintro⟨j,_,F⟩;obtain⟨e1,e2⟩:=(H j b).mp F;rw[e1];exact e2
  .intro h;refine⟨b.1,?_,(H b.1 b).mpr ⟨rfl,h⟩⟩
   have:=dY h
   have:=c.size
   simp;lia
 have S:l.Pairwise (λa b=>a.1<b.1):=by show((List.range (M+1)).filterMap f).Pairwise _;rw[Oe];apply List.Pairwise.imp _ (Oi (n:=M+1));intro a b U x Z y hy;rw[((H _ _).mp Z).1,((H _ _).mp hy).1];exact U
 have am:(l.map (·.2)).Nodup:=by
  unfold List.Nodup;rw[A5];apply List.Pairwise.imp_of_mem _ S;intro a b ha L U e;have Q:=(z a).mp ha;have R:=(z b).mp L;have e':a.2=b.2:=e;rw[<-e']at R
  have:=c.inj _ _ _ Q R
  lia
 have C:(l.map (·.2)).Perm (List.range u.size):=by
  rw[Q0 am JS];intro i;rw[k6];constructor
  .rintro⟨b,L,e⟩
   have:=c.lt _ _ ((z b).mp L)
   rw[e]at this;simpa using this
  .intro X;obtain⟨j,F⟩:=c.own i (by simpa using X);exact⟨(j,i),(z (j,i)).mpr F,rfl⟩
 have O:((l.map (·.2)).filterMap (u[·]?)).Perm u.toList:=by
  have:=C.filterMap (u[·]?)
  rw[gA]at this;exact this
 have G:((l.map (·.2)).toArray.filterMap (u[·]?)).toList=(l.map (·.2)).filterMap (u[·]?):=by simp
 have P:∀x,x∈l.map (·.2)->∃v,u[x]?=J v:=by
  intro x Z
  have:=C.mem_iff.mp Z
  exact du u x (by simpa using this)
 refine⟨(l.map (·.1)).toArray,(l.map (·.2)).toArray,?_,?_,?_,?_,?_⟩
 .unfold laid;rw[e];rfl
 .refine⟨uK (by rw[A5];exact S),?_,?_,?_⟩
  .intro i v X;simp at X;obtain⟨b,L⟩:=X;have Q:=(z _).mp (AC L);have R:=dY Q
   have:=c.size
   have h3:v<ow.size:=R;lia
  .have Q:=O.length_eq;have R:(((l.map (·.2)).toArray.filterMap (u[·]?)).map E).size=((l.map (·.2)).filterMap (u[·]?)).length:=by
    rw[Oz,<-wh,G]
   rw[R,Q]
   have:=C.length_eq
   simp at this ⊢;exact this
  .intro i h v hh hv;simp at hv;obtain⟨b,L⟩:=hv;have Q:=(z _).mp (AC L);have h3:((l.map (·.2)).toArray.filterMap (u[·]?))[i]?=u[b]?:=by
    rw[<-v_,G,d7 _ _ P];simp[L]
   rw[Array.getElem?_map,h3]at hh;obtain⟨n,en,r⟩:=c.reach v b h Q (by rw[Array.getElem?_map];exact hh);refine⟨n,en,?_⟩;intro m hm;obtain⟨i',al⟩:=r m hm;have h5:=(z (sl M h m,i')).mpr al;have h6:sl M h m∈l.map (·.1):=k6.mpr ⟨_,h5,rfl⟩;obtain⟨q,hq⟩:=zt.mp h6;exact⟨q,by simpa using hq⟩
 .rw[<-wh,G,O.length_eq];simp
 .rw[G];exact O
 .exact C
section
variable{prog:Program}{w:World}{A:Around}{E:S5}{s:Shared}
abbrev TK(prog:Program)(w:World)(h:Heap)(k:SS)(a:Addr):Prop:=IsTupleKey (intKind prog w) h k a
abbrev TH(prog:Program)(w:World)(k:SS):Int:=tupleKeyHash (intKind prog w) k
def ItemsAre.ints(h:ItemsAre (intKind prog w) l f):∀v∈f,∃i t,v=.int i t:=by
 induction h with
 |nil=>intro v hv;cases hv
 |@cons k v l f y _ j =>
  intro u a
  cases a with
  |head =>
   cases v with
   |int i t=>exact⟨i,t,rfl⟩
   |_=>simp[intKind,Value.isInt]at y
  |tail _ a=>exact j u a
def iQ(B:TK prog w s.heap ks a)(h:Q I s):wpAny (model prog w) A (hashByValue 8 (.ref a)) Q E s:=by
 have H:=B.typeIs;obtain⟨o,items,n,C,_,hd,G⟩:=B;refine d_ (wpAny_specialOf H F.slot_tuple_hash.lookup ?_);refine d_ (wpAny_seqItems C hd ?_);refine d_ ?_;rw[<-Array.forIn_toList];refine wpAny_forIn_list _ (λj r y=>r.1=Y/\y=s/\∀v∈j,∃i t,v=Value.int i t) _ ?_ ?_ _ _ ⟨rfl,rfl,ItemsAre.ints G⟩
 .rintro v j r y ⟨z,rfl,f⟩;obtain⟨i,t,rfl⟩:=f v mu;exact il ⟨rfl,rfl,λu l=>f u (nt _ l)⟩
 .rintro⟨L,M⟩ y ⟨z,rfl,_⟩;subst z;exact il h
def fO(B:TK prog w s.heap ks a)(h:Q T s):wpAny (model prog w) A (ofAClassStatement 8 (.ref a)) Q E s:=by
 have G:=B.typeIs;obtain⟨o,items,n,C,_,hd,F⟩:=B;unfold ofAClassStatement;refine d_ (wpAny_typeOf G ?_);refine d_ ?_;refine il ?_;refine d_ (wpAny_seqItems C hd ?_);refine d_ ?_;rw[<-Array.forIn_toList];refine wpAny_forIn_list _ (λj r y=>r.1=Y/\y=s/\∀v∈j,∃i t,v=Value.int i t) _ ?_ ?_ _ _ ⟨rfl,rfl,ItemsAre.ints F⟩
 .rintro v j r y ⟨z,rfl,f⟩;obtain⟨i,t,rfl⟩:=f v mu;exact il ⟨rfl,rfl,λu l=>f u (nt _ l)⟩
 .rintro⟨H,L⟩ y ⟨z,rfl,_⟩;subst z;exact il h
def oJ{k:SS}{a:Addr}{stored:SH}{Q:Bool->Shared->Prop}(F:TK prog w s.heap k a)(f:∀v∈stored,∃b y,v=.ref b/\TK prog w s.heap y b)(h:Q T s):wpAny (model prog w) A (searchCouldBeSeen (.ref a) stored) Q E s:=by
 refine d_ ?_;refine wpAny_forIn_list _ (λj r B=>r.1=Y/\B=s/\∀v∈j,∃b y,v=Value.ref b/\TK prog w s.heap y b) _ ?_ ?_ _ _ ⟨rfl,rfl,f⟩
 .rintro v j r B ⟨C,rfl,f⟩;obtain⟨b,y,rfl,G⟩:=f v mu;have i:=λu z=>f u (nt _ z);by_cases l:(a==b||(carriedByValue (.ref a)&&carriedByValue (.ref b)))=I
  .rw[b_ l];exact il ⟨rfl,rfl,i⟩
  .rw[c_ l];refine d_ (wpAny_eqIsQuiet_tuple F ?_);refine d_ (wpAny_eqIsQuiet_tuple G ?_);refine d_ (fO F ?_);refine d_ (fO G ?_);exact il ⟨rfl,rfl,i⟩
 .rintro⟨H,L⟩ B ⟨C,rfl,_⟩;subst C;exact il h
def gr(prog:Program)(w:World)(P:Addr->Prop)(h:Heap)(f:Array (Int×Value))(j:SU):Prop :=
 f.size=j.length/\∀(i:Nat)(e:Int×Value)(k:SS),f[i]?=J e->j[i]?=J k->∃a,e.2=.ref a/\TK prog w h k a/\e.1=TH prog w k/\P a
def gr.at'{P:Addr->Prop}{h:Heap}{j:Array (Int×Value)}{f:SU}(x:gr prog w P h j f){i:Nat}{e:Int×Value}(l:j[i]?=J e):
  ∃k a,f[i]?=J k/\e.2=.ref a/\TK prog w h k a/\e.1=TH prog w k:=by
 have z:=dY l
 have:i<f.length:=by rw[<-x.1];exact z
 obtain⟨a,u,y,r3,_⟩:=x.2 i e f[i] l (by simp);exact⟨f[i],a,by simp,u,y,r3⟩
def gr.key{P:Addr->Prop}{h:Heap}{f:Array (Int×Value)}{l:SU}(x:gr prog w P h f l){i:Nat}{k:SS}(u:l[i]?=J k):
  ∃e a,f[i]?=J e/\e.2=.ref a/\TK prog w h k a/\e.1=TH prog w k:=by
 have B:i<f.size:=by rw[x.1];exact(r_.mp u).1
 obtain⟨e,j⟩:=du f i B;obtain⟨a,y,z,r3,_⟩:=x.2 i e k j u;exact⟨e,a,j,y,z,r3⟩
def xf{P:Addr->Prop}{S:Addr}{o:Obj}{u:Array (Int×Value)}{ep:Nat}{t:SetTable}{ks:SU}{k:SS}{a:Addr}{n1:Nat}{Q:SetFound->Shared->Prop}(hu:A.units<cLine)(ho:s.heap.get? S=J o)(hd:o.data=.set u ep t)(hf:t.fits u.size=I)(a4:t.dummies=#[])(ap:t.gaveWay=T)(W:WF t.mask t.place (u.map (·.1)))(C:gr prog w P s.heap u ks)(hk:TK prog w s.heap k a)(O:¬yS t.place (sl t.mask (TH prog w k) n1))(ab:∀m,m<n1->yS t.place (sl t.mask (TH prog w k) m))(be:n1<10*turns t.mask)(h1:k∈ks->Q (.there Y) s)(h2:k∉ks->Q (.free (sl t.mask (TH prog w k) n1) T) s):
  ∀(l n:Nat)(j:Option Probe),j.getD (t.probeStart (TH prog w k))=st t.mask (TH prog w k) n->n<=n1->n1-n<l ->
   (∀(m i:Nat),m<n->t.place[i]?=J (sl t.mask (TH prog w k) m)->ks[i]?≠J k) ->
   wpAny (model prog w) A (setSearchFrom S (.ref a) (TH prog w k) I l j) Q E s:=by
 intro l
 induction l with
 |zero=>intro n j _ _ h;lia
 |succ f ih =>
  intro n j a3 hn bi z;unfold setSearchFrom;refine d_ (wpAny_setState_of ho hd hf ?_);dsimp only;rw[ap];simp only[n_,if_false];rw[a3];have a7:=zI t a4 W.rise (λi=>(u[i]?.map (·.1)).getD 0) (TH prog w k) n1 O ab (10*turns t.mask) n hn ⋯;have H:∀i:Nat,ks[i]?=J k->∃m,m<n1/\t.place[i]?=J (sl t.mask (TH prog w k) m):=by
   intro i hi;obtain⟨e,b,F,_,_,hh⟩:=C.key hi;have hl:i<t.place.size:=by have:=W.size;simp at this;rw[this];exact dY F
   obtain⟨v,hv⟩:=du t.place i hl;obtain⟨m,em,hm⟩:=W.reach i (TH prog w k) v (by simp[F,hh]) hv;refine⟨m,?_,by rw[em];exact hv⟩;by_cases ay:m<n1
   .exact ay
   .exfalso;by_cases R:m=n1
    .subst R;exact O ⟨i,by rw[em];exact hv⟩
    .exact O (hm n1 ⋯)
  rcases a7 with⟨e1,e2⟩|⟨m,i,q1,q2,q3,q4,q5,q6⟩
  .have U:t.probe (λi=>(u[i]?.map (·.1)).getD 0) (TH prog w k) (st t.mask (TH prog w k) n)=J (.empty (sl t.mask (TH prog w k) n1) Y):=e1;erw [U];dsimp only;refine il (h2 λal=>?_);obtain⟨i,hi⟩:=zt.mp al;obtain⟨m,hm,hp⟩:=H i hi;by_cases a6:m<n
   .exact z m i a6 hp hi
   .obtain⟨e,b,F,_,_,hh⟩:=C.key hi;exact e2 m i ⋯ hm hp (by simp[F,hh])
  .have U:t.probe (λi=>(u[i]?.map (·.1)).getD 0) (TH prog w k) (st t.mask (TH prog w k) n)=J (.candidate (sl t.mask (TH prog w k) m) i (st t.mask (TH prog w k) (m+1))):=q5;erw [U];dsimp only;have ax:i<u.size:=by
    have:=W.size;simp at this;rw[<-this];exact dY q3
   obtain⟨e,F⟩:=du u i ax;obtain⟨k',b,an,eb,hb,hh⟩:=C.at' F;obtain⟨eh,ev⟩:=e;simp only at eb hh;subst eb
   have am:wpAny (model prog w) A (do
     let J (_,y):=u[i]? | unsupported "internal:set-entry"
     let B <-holding [y] (eqBool y (.ref a))
     let(es',_,t') <-setState S
     if I&&B then return .there Y
     let J same:=t'.sameMemory t.moves t.mask|unsupported "set.changed-during-lookup:is-the-new-block-at-the-old-address"
     let Z <-match(if same then t'.slot (sl t.mask (TH prog w k) m)else .empty) with
      |.live L=>match es'[L]? with
       |some (_,y')=>do pure (if <-isSame y' y then J L else Y)
       |none=>pure Y
      |_=>pure Y
     match Z with
     |none=>rule "set.search.anew";setSearchFrom S (.ref a) (TH prog w k) I f Y
     |some L=>if B then return .there (J L)else setSearchFrom S (.ref a) (TH prog w k) I f (J (st t.mask (TH prog w k) (m+1)))) Q E s:=by
    rw[F];dsimp only;refine d_ (wpAny_holding (wpAny_eqBool_tuple hu hb hk ?_));refine d_ (wpAny_setState_of ho hd hf ?_);dsimp only;by_cases X:k'=k
    .subst X;simp only[decide_true,Bool.and_self,if_true];exact il (h1 (zt.mpr ⟨i,an⟩))
    .simp only[X,decide_false,Oy,n_,if_false];have a5:t.sameMemory t.moves t.mask=J I:=by unfold SetTable.sameMemory;simp
     rw[a5];simp only[if_true];rw[pN t W.rise i _ q3];dsimp only;rw[F];dsimp only;refine d_ (wpAny_isSame_ref_self ?_);simp only[if_true];refine d_ (il ?_);dsimp only;refine ih (m+1) _ rfl ⋯ ⋯ ?_;intro m' L bj M G;by_cases a0:m'<n
     .exact z m' L a0 M G
     .by_cases a8:m'<m
      .obtain⟨e,b,F,_,_,hh⟩:=C.key G;exact q6 m' L ⋯ a8 M (by simp[F,hh])
      .have:m'=m:=by lia
       subst this;have a1:=hV _ _ _ W.rise q3;have a2:=hV _ _ _ W.rise M
       have:L=i:=by lia
       subst this;rw[an]at G;exact X (Option.some.inj G)
   cases a9:t.led with
   |true =>
    simp only[B3,n_,if_false];exact am
   |false =>
    simp only[Nj,if_true];refine d_ (oJ hk ?_ ?_)
    .intro v hv;obtain⟨e,as,rfl⟩:=k6.mp hv;have R:e∈u.toList:=by
      have:e∈u.filter (λx=>x.1==TH prog w k):=Array.mem_toList_iff.mp as
      exact Array.mem_toList_iff.mpr (Array.mem_filter.mp this).1
     obtain⟨q,hq⟩:=zt.mp R;obtain⟨k2,b2,_,e2,h2,_⟩:=C.at' (i:=q) (e:=e) (by simpa using hq);exact⟨b2,k2,e2,h2⟩
    .simp only[n_,if_false];exact am
structure TTab(prog:Program)(w:World)(P:Addr->Prop)(h:Heap)(S:Addr)(led:Bool)(o:Obj)(es:Array (Int×Value))(ep:Nat)(t:SetTable)(ks:SU):Prop where
 get:h.get? S=J o
 ex:o.ExactSet
 data:o.data=.set es ep t
 dm:t.dummies=#[]
 mask:t.mask=7\/t.mask=31\/t.mask=127
 plain:t.plain=I
 led':t.led=led
 wf:WF t.mask t.place (es.map (·.1))
 ents:gr prog w P h es ks
def kU(t:SetTable)(n:Nat):Prop:=n*5<t.mask*3
def di(prog:Program)(w:World)(P:Addr->Prop)(h:Heap)(S:Addr)(led:Bool)(i:SU):Prop :=
 ∃o f j t a,TTab prog w P h S led o f j t a/\kU t f.size/\a.Perm i/\i.Nodup
def t9(h:M=7\/M=31\/M=127):fi M:=by
 rcases h with h|h | h<;>subst h
 .exact K_
 .exact GH
 .exact C9
def TTab.size{P:Addr->Prop}{h:Heap}{S:Addr}{led:Bool}{o:Obj}{a:Array (Int×Value)}{f:Nat}{t:SetTable}{i:SU}(x:TTab prog w P h S led o a f t i):t.place.size=a.size:=by have:=x.wf.size;simpa using this
def TTab.fits{P:Addr->Prop}{h:Heap}{S:Addr}{led:Bool}{o:Obj}{a:Array (Int×Value)}{f:Nat}{t:SetTable}{j:SU}(x:TTab prog w P h S led o a f t j)(i:a.size<=t.mask):t.fits a.size=I:=by
 unfold SetTable.fits SetTable.fill
 have:=x.size
 simp[this,x.dm];exact i
def TTab.odd{P:Addr->Prop}{h:Heap}{S:Addr}{led:Bool}{o:Obj}{a:Array (Int×Value)}{f:Nat}{t:SetTable}{i:SU}(x:TTab prog w P h S led o a f t i):t.gaveWay=T:=by unfold SetTable.gaveWay;rcases x.mask with h|h | h<;>rw[h]<;>rfl
def De(y:Heap.SameBut S h h')(B:h.get? S=J o)(l:o.ExactSet)(x:TK prog w h k a):TK prog w h' k a:=by
 obtain⟨z,items,n,f,i,hd,u⟩:=x;have j:a≠S:=by rintro rfl;obtain rfl:=Option.some.inj (f.symm.trans B);rw[l.1]at i;exact absurd i (by simp)
 exact⟨z,items,n,(y.2 a j).trans f,i,hd,u⟩
def pP(l:Heap.SameBut S h h')(u:h.get? S=J o)(j:o.ExactSet)(x:gr prog w P h es ks):gr prog w P h' es ks :=
 ⟨x.1,λi e k a b=>let⟨c,d,f,g⟩:=x.2 i e k a b;⟨c,d,De l u j f,g⟩⟩
def iu{h:Heap}{S:Addr}{o:Obj}{f es':Array (Int×Value)}{a:Nat}{t t':SetTable}(i:h.get? S=J o)(hd:o.data=.set f a t):
  (h.update S (Obj.putSet es' t')).get? S=J { o with data:=.set es' (a+1) t'}:=by
 have:=M7 (Obj.putSet es' t') i (by rw[putSet_of es' t' hd];rfl)
 rw[putSet_of es' t' hd]at this;exact this
def wN(x:gr prog w P h es ks)(f:Array Nat)(y:f.toList.Perm (List.range es.size)):
  gr prog w P h (f.filterMap (es[·]?)) (f.toList.filterMap (ks[·]?))/\(f.toList.filterMap (ks[·]?)).Perm ks:=by
 have j:∀i,i∈f.toList->i<es.size:=λi u=>by simpa using y.mem_iff.mp u
 have H:=λi u=>du es i (j i u);have G:∀i,i∈f.toList->∃v,ks[i]?=J v:=λi u=>⟨_,AY (by rw[<-x.1];exact j i u)⟩;have e1:(f.filterMap (es[·]?)).toList=f.toList.filterMap (es[·]?):=by simp
 have B:(f.toList.filterMap (ks[·]?)).Perm ks:=by
  have a:=y.filterMap (ks[·]?);have b:(List.range es.size).filterMap (ks[·]?)=ks:=by
   have:=gA ks.toArray
   simp only[M8]at this;rw[x.1];exact this
  rw[b]at a;exact a
 have F:(f.toList.filterMap (es[·]?)).Perm es.toList:=by have a:=y.filterMap (es[·]?);rw[gA]at a;exact a
 refine⟨⟨?_,?_⟩,B⟩
 .rw[<-wh,e1,F.length_eq,B.length_eq,wh,x.1]
 .intro i e k l z;rw[<-v_,e1,d7 _ _ H]at l;rw[d7 _ _ G]at z
  cases C:f.toList[i]? with
  |none=>rw[C]at l;cases l
  |some q =>
   rw[C]at l z;exact x.2 q e k l z
def EI:SetTable.sizeAbove (SetTable.grown 5)=32:=by decide
def Lb:SetTable.sizeAbove (SetTable.grown 19)=128:=by decide
def rf{P:Addr->Prop}{S:Addr}{led:Bool}{o:Obj}{l:Array (Int×Value)}{X:Nat}{t:SetTable}{W:SU}{f M:Nat}{Q:Unit->Shared->Prop}(a:TTab prog w P s.heap S led o l X t W)(B:l.size<=t.mask)(R:SetTable.sizeAbove f=M+1)(j:M=7\/M=31\/M=127)(u:l.size*5<M*3)(h:∀L o' y G U z,Heap.SameBut S s.heap L->TTab prog w P L S led o' y G U z->kU U y.size->z.Perm W->Q () { s with heap:=L}):
  wpAny (model prog w) A (setRelay S f) Q E s:=by
 obtain⟨O,i,e1,w1,C,p1,p2⟩:=Dc M (t9 j) (λe:Int×Value=>e.1) l ⋯ t.finger (t.movedTo M) t.led t.plain;have H:t.relaid (l.map (·.1)) f=J ({ mask:=M,place:=O,dummies:=#[],finger:=t.finger,led:=t.led,moves:=t.movedTo M,plain:=t.plain},i):=by unfold SetTable.relaid;rw[R];exact e1
 refine d_ (wpAny_setState_of a.get a.data (a.fits B) ?_);dsimp only;have F:¬SetTable.sizeAbove f>sizeLine:=by rw[R];rcases j with h|h | h<;>rw[h]<;>decide
 rw[c_ F,H];have Z:l.size<=sizeLine:=by rw[sizeLine_eq];rcases j with h|h | h<;>lia
 refine d_ (?_:wpAny _ _ (if((i.filterMap (l[·]?)).size != l.size)=I then _ else _) _ _ _);rw[c_ (by simp[C])];refine il ?_;refine wpAny_storeSet_of a.get a.data ?_ (by rw[C];exact Z);have sb:=Heap.SameBut.update s.heap S (Obj.putSet (i.filterMap (l[·]?)) { mask:=M,place:=O,dummies:=#[],finger:=t.finger,led:=t.led,moves:=t.movedTo M,plain:=t.plain});obtain⟨n1,n2⟩:=wN a.ents i p2;refine h _ _ _ _ _ _ sb ⟨iu a.get a.data,a.ex,rfl,rfl,j,a.plain,a.led',w1,pP sb a.get a.ex n1⟩ ?_ n2;rw[C];exact u
def zL(x:gr prog w P h es ks)(B:p<=es.size)(F:TK prog w h k a)(C:P a):
  gr prog w P h (insertAt es p (TH prog w k,.ref a)) (ks.take p++k::ks.drop p):=by
 have H:=x.1;refine⟨?_,?_⟩
 .rw[ce _ _ _ B];simp;lia
 .intro i e y j f;rw[cB _ _ _ B]at j;by_cases u:i<p
  .rw[b_ u]at j;rw[vj (by simp;lia),M5 u]at f;exact x.2 i e y j f
  .rw[c_ u]at j;rw[AX (by simp;lia)]at f;have l:(ks.take p).length=p:=by simp;lia
   rw[l]at f;by_cases z:i=p
   .rw[b_ z]at j
    have:i-p=0:=by lia
    rw[this]at f;simp at f;cases j;subst f;exact⟨a,rfl,F,rfl,C⟩
   .rw[c_ z]at j;obtain⟨q,G⟩:∃q,i-p=q+1:=⟨i-p-1,⋯⟩;rw[G,AR,Nc]at f
    have:p+q=i-1:=by lia
    rw[this]at f;exact x.2 (i-1) e y j f
def zc(p:Nat)(k:SS):(ks.take p++k::ks.drop p).Perm (ks++[k]):=by have a:(ks.take p++k::ks.drop p).Perm (k::(ks.take p++ks.drop p)):=Ji;rw[BQ]at a;exact a.trans (N_ k ks).symm
def GL{P:Addr->Prop}{S a:Addr}{led:Bool}{H:SU}{k:SS}{Q:Bool->Shared->Prop}(hu:A.units<cLine)(f:di prog w P s.heap S led H)(hk:TK prog w s.heap k a)(hP:P a)(a4:k∈H\/H.length<66)(h:∀b L,Heap.SameBut S s.heap L->di prog w P L S led (if k∈H then H else H++[k])->Q b { s with heap:=L}):
  wpAny (model prog w) A (setAddHashed S (.ref a) (TH prog w k)) Q E s:=by
 obtain⟨o,B,ep,t,G,f,hr,W,a1⟩:=f;unfold kU at hr;have ab:B.size<=t.mask:=by rcases f.mask with e|e | e<;>rw[e]at hr ⊢<;>lia
 have hf:=f.fits ab;have a5:t.place.size<=t.mask:=by rw[f.size];exact ab
 obtain⟨l,a8,a0,Z⟩:=vC t.place f.wf.rise t.mask (t9 f.mask) a5 (TH prog w k);have a2:t.mask<=127:=by rcases f.mask with e|e | e<;>lia
 have a6:B.size=H.length:=by rw[f.ents.1,W.length_eq]
 refine wpAny_holding ?_;refine d_ (wpAny_setState_of f.get f.data hf ?_);dsimp only;have a3:byScan (.ref a) B=T:=rfl;rw[a3];unfold setSearch;refine d_ (xf (n1:=l) (ks:=G) hu f.get f.data hf f.dm f.odd f.wf f.ents hk a0 Z (by unfold turns;lia) ?_ ?_ 100000 0 Y rfl (u0 _) ⋯ (λm i hm=>absurd hm (Nat.not_lt_zero m)))
 .intro R;have z:k∈H:=W.mem_iff.mp R;dsimp only;refine il ?_
  have:=h T s.heap (Heap.SameBut.refl _ _)
  rw[b_ z]at this;exact this ⟨o,B,ep,t,G,f,hr,W,a1⟩
 .intro R;have z:k∉H:=λx=>R (W.mem_iff.mpr x);have a7:H.length<66:=a4.resolve_left z;rw[c_ z]at h;dsimp only;refine d_ (wpAny_setState_of f.get f.data hf ?_);dsimp only;have ax:t.put (sl t.mask (TH prog w k) l)=({ t with place:=insertAt t.place (below t.place (sl t.mask (TH prog w k) l)) (sl t.mask (TH prog w k) l)},below t.place (sl t.mask (TH prog w k) l)):=by
   unfold SetTable.put;simp only[f.dm,oA,n_,if_false]
  rw[ax];dsimp only;rw[b_ f.plain];refine d_ (iQ hk ?_);simp only[if_true];have hp:=(cZ t.place (sl t.mask (TH prog w k) l) f.wf.rise).1;have ay:below t.place (sl t.mask (TH prog w k) l)<=B.size:=by rw[<-f.size];exact hp
  have F:=ce B (below t.place (sl t.mask (TH prog w k) l)) (TH prog w k,.ref a) ay;refine d_ (wpAny_storeSet_of f.get f.data ?_ (by rw[F,sizeLine_eq];lia))
  have sb:=Heap.SameBut.update s.heap S (Obj.putSet (insertAt B (below t.place (sl t.mask (TH prog w k) l)) (TH prog w k,.ref a))
   { t with place:=insertAt t.place (below t.place (sl t.mask (TH prog w k) l)) (sl t.mask (TH prog w k) l)})
  have T2:TTab prog w P (s.heap.update S (Obj.putSet (insertAt B (below t.place (sl t.mask (TH prog w k) l)) (TH prog w k,.ref a))
    { t with place:=insertAt t.place (below t.place (sl t.mask (TH prog w k) l)) (sl t.mask (TH prog w k) l)})) S led
    { o with data:=.set (insertAt B (below t.place (sl t.mask (TH prog w k) l)) (TH prog w k,.ref a)) (ep+1) { t with place:=insertAt t.place (below t.place (sl t.mask (TH prog w k) l)) (sl t.mask (TH prog w k) l)}}
    (insertAt B (below t.place (sl t.mask (TH prog w k) l)) (TH prog w k,.ref a)) (ep+1)
    { t with place:=insertAt t.place (below t.place (sl t.mask (TH prog w k) l)) (sl t.mask (TH prog w k) l)}
    (G.take (below t.place (sl t.mask (TH prog w k) l))++k::G.drop (below t.place (sl t.mask (TH prog w k) l))):=by
   refine⟨iu f.get f.data,f.ex,rfl,f.dm,f.mask,f.plain,f.led',?_,pP sb f.get f.ex (zL f.ents ay hk hP)⟩;rw[qz];exact GJ t.mask t.place (B.map (·.1)) f.wf (TH prog w k) l a0 Z
  have U:(G.take (below t.place (sl t.mask (TH prog w k) l))++k::G.drop (below t.place (sl t.mask (TH prog w k) l))).Perm (H++[k]):=(zc _ k).trans (W.append_right [k]);have O:(H++[k]).Nodup:=by
   rw[A4];refine⟨a1,by simp,λx hx y hy=>?_⟩
   have:y=k:=by simpa using hy
   subst this;rintro rfl;exact z hx
  have X:({ t with place:=insertAt t.place (below t.place (sl t.mask (TH prog w k) l)) (sl t.mask (TH prog w k) l)}:SetTable).fill=B.size+1:=by unfold SetTable.fill;rw[ce _ _ _ hp,f.size];simp[f.dm]
  by_cases j:({ t with place:=insertAt t.place (below t.place (sl t.mask (TH prog w k) l)) (sl t.mask (TH prog w k) l)}:SetTable).tooFull=I
  .have C:(B.size+1)*5>=t.mask*3:=by
    unfold SetTable.tooFull at j;rw[X]at j;simpa using j
   rw[b_ (by rw[j];rfl)];have as:(t.mask=7/\B.size=4)\/(t.mask=31/\B.size=18):=by rcases f.mask with e|e | e<;>rw[e]at hr C<;>lia
   refine d_ (wpAny_mono (Q:=λ_ s'=>∃L,s'={ s with heap:=L}/\Heap.SameBut S s.heap L/\di prog w P L S led (H++[k])) ?_ (λu s' hq=>?_) λ_ _ x=>x)
   .rcases as with⟨c1,c2⟩|⟨c1,c2⟩
    .have e5:B.size+1=5:=by lia
     rw[e5];refine rf (M:=31) (s:={ s with heap:=_}) T2 (by rw[F];show B.size+1<=t.mask;lia) EI (.inr (.inl rfl)) (by rw[F];lia) λL o' ap an t' al am T3 r3 p3=>?_;exact⟨L,rfl,sb.trans am,o',ap,an,t',al,T3,r3,p3.trans U,O⟩
    .have e5:B.size+1=19:=by lia
     rw[e5];refine rf (M:=127) (s:={ s with heap:=_}) T2 (by rw[F];show B.size+1<=t.mask;lia) Lb (.inr (.inr rfl)) (by rw[F];lia) λL o' ap an t' al am T3 r3 p3=>?_;exact⟨L,rfl,sb.trans am,o',ap,an,t',al,T3,r3,p3.trans U,O⟩
   .obtain⟨L,rfl,q1,q2⟩:=hq;exact il (h I L q1 q2)
  .have C:(B.size+1)*5<t.mask*3:=by
    unfold SetTable.tooFull at j;rw[X]at j;simpa using j
   rw[c_ (by simpa using j)];refine il (h I _ sb ⟨_,_,_,_,_,T2,?_,U,O⟩);unfold kU;rw[F];exact C
end
end SetT
namespace SetT
open PySem.SetTable PyProof.Rows
def d9(a:SU)(k:SS):SU:=if k∈a then a else a++[k]
def qb(l:SU):SU:=l.foldl d9 []
def zw(l:SU)(k:SS):qb (l++[k])=d9 (qb l) k:=by unfold qb;rw[Nd];rfl
def wR(a:SU)(k:SS):a.length<=(d9 a k).length:=by unfold d9;split<;>simp
def xz(l:SU):∀a:SU,a.length<=(l.foldl d9 a).length:=by
 induction l with
 |nil=>intro a;exact iv _
 |cons k l f=>intro a;exact mh (wR a k) (f _)
def rN(l:SU)(i:Nat):(qb (l.take i)).length<=(qb l).length:=by
 have h:qb l=(l.drop i).foldl d9 (qb (l.take i)):=by unfold qb;rw[<-Nd,BQ]
 rw[h];exact xz _ _
def qj{l:SU}{i:Nat}{k:SS}(h:l[i]?=J k):qb (l.take (i+1))=d9 (qb (l.take i)) k:=by rw[Fj,h];exact zw _ _
def xn(x:SS)(l:SU):∀f:SU,x∈l.foldl d9 f↔x∈f\/x∈l:=by
 induction l with
 |nil=>simp
 |cons k l j =>
  intro f;rw[JV,j];unfold d9;split
  .rename_i h
   constructor
   .rintro (a|a)
    .exact .inl a
    .exact .inr (nt _ a)
   .rintro (a|a)
    .exact .inl a
    .rcases j_.mp a with rfl|i
     .exact .inl h
     .exact .inr i
  .constructor
   .rintro (a|a)
    .rcases nw.mp a with i|i
     .exact .inl i
     .simp_all
    .exact .inr (nt _ a)
   .rintro (a|a)
    .exact .inl (vK _ a)
    .rcases j_.mp a with rfl|i
     .exact .inl (pu _ (by simp))
     .exact .inr i
def n4(x:SS)(l:SU):x∈qb l↔x∈l:=by unfold qb;rw[xn];simp
section
variable{prog:Program}{w:World}{A:Around}{E:S5}{s:Shared}
abbrev PB(H0:Heap)(R:Addr->Prop):Addr->Prop:=λa=>(∃o,H0.get? a=J o)/\R a
def zx(a h:Heap):Prop:=∀b o,a.get? b=J o->h.get? b=J o
def jO(x:zx H0 h)(t:TK prog w H0 k a):TK prog w h k a:=by obtain⟨o,items,n,f,r⟩:=t;exact⟨o,items,n,x a o f,r⟩
def tX{j h B:Heap}{C:Addr->Prop}{S:Addr}{led:Bool}{F:SU}(f:di prog w (PB j C) h S led F)(Q:∀o,h.get? S=J o->B.get? S=J o)(x:zx j h)(M:zx j B):di prog w (PB j C) B S led F:=by
 obtain⟨o,P,G,t,z,f,r,p,n⟩:=f;refine⟨o,P,G,t,z,⟨Q o f.get,f.ex,f.data,f.dm,f.mask,f.plain,f.led',f.wf,f.ents.1,λi e k a b=>?_⟩,r,p,n⟩;obtain⟨c,d,⟨u,l,m,O,q⟩,g,⟨H,y⟩,L⟩:=f.ents.2 i e k a b;have e1:=Option.some.inj (O.symm.trans (x c H y));subst e1;exact⟨c,d,⟨u,l,m,M c u y,q⟩,g,⟨u,y⟩,L⟩
def BF(prog:Program)(w:World)(j:Heap)(items:Array Value)(f:SU):Prop :=
 items.size=f.length/\∀(i:Nat)(v:Value)(k:SS),items[i]?=J v->f[i]?=J k->∃a,v=.ref a/\TK prog w j k a
def vP{h:Heap}{S:Addr}{led:Bool}{P:Addr->Prop}{o:Obj}(l:h.get? S=J o)(j:o.ExactSet)(hd:o.data=.set #[] 0 (.fresh 0 0 led)):di prog w P h S led []:=by
 refine⟨o,#[],0,.fresh 0 0 led,[],⟨l,j,hd,rfl,.inl rfl,rfl,rfl,⟨?_,?_,by simp[SetTable.fresh],?_⟩,rfl,?_⟩,?_,List.Perm.nil,Ni⟩
 .intro a b u v _ f;simp[SetTable.fresh]at f
 .intro i v f;simp[SetTable.fresh]at f
 .intro i y v f;simp at f
 .intro i e k f;simp at f
 .show 0*5<7*3;decide
def sN{RR:Addr->Prop}{R:Result->Shared->Prop}{H:Addr}{fp M:SX}{G:Array GenState->Array GenState->Prop}{n:Nat}{P:Nat->Value->Prop}{St:Nat->Shared->Prop}(hu:A.units+1<cLine)(W:WalksS prog w A.in1 H fp M G n P St)(S:Addr)(al:S∉fp){H0:Heap}(a0:H0.get? S=Y)(as:∀b∈M,H0.get? b=Y){led:Bool}(y:SU)(hn:y.length=n)(ab:∀i v k,P i v->y[i]?=J k->∃a,v=.ref a/\TK prog w H0 k a/\RR a)(a6:(qb y).length<=66):
  ∀(c i:Nat)(s:Shared),n-i=c->i<=n->St i s->zx H0 s.heap->di prog w (PB H0 RR) s.heap S led (qb (y.take i)) ->
   (∀f,Moved (S::M) G s f->zx H0 f.heap->di prog w (PB H0 RR) f.heap S led (qb y)->R (.ok (.ret .none)) f) ->
   codeAny (model prog w) A (.builtin "set.update.loop" ⟨[.ref S,.ref H],[]⟩) R s:=by
 have U:S∉M:=λh=>al (W.sub _ h);have z:∀b∈M,b∈S::M:=λb O=>nt _ O;have j:∀{s f:Shared},Moved M G s f->zx H0 s.heap->zx H0 f.heap:=λ{s f} u x b o e =>
  u.heap b o (λO=>by rw[as b O]at e;cases e) (x b o e)
 intro c
 induction c with
 |zero =>
  intro i s hc hi L Q hT B;have e:i=n:=by lia
  subst e;refine codeAny_builtin F.entry_set_update_loop ?_;refine d_ (W.done s _ _ L λf u=>?_);rw[<-hn,Jj]at hT;exact il (B f (u.mono z) (j u Q) (tX hT (λo e=>u.heap S o U e) Q (j u Q)))
 |succ c ih =>
  intro i s hc hi L Q hT B;have Z:i<n:=by lia
  refine codeAny_builtin F.entry_set_update_loop ?_;show wpAny _ A.in1 (pyNext (.ref H) >>= _) _ _ s;refine d_ (W.item i s _ _ Z L λv f hP am u=>?_);obtain⟨k,hk⟩:∃k,y[i]?=J k:=⟨_,AY ⋯⟩;obtain⟨a,rfl,ha,hR⟩:=ab i v k hP hk;have C:=j u Q;have ax:=tX hT (λo e=>u.heap S o U e) Q C;have an:=jO C ha;show wpAny _ A.in1 (holding [Value.ref a] (setAdd S (.ref a)) >>= _) _ _ f;refine d_ (wpAny_holding ?_);unfold setAdd;refine wpAny_holding ?_;refine d_ (wpAny_pyHash_tuple (by show A.units+1<cLine;exact hu) an ?_);have l:=qj hk;refine GL (s:={ f with toks:=f.toks+(k.length+1)}) (by show A.units+1<cLine;exact hu) ax an ⟨let⟨o,_,_,ho,_⟩:=ha;⟨o,ho⟩,hR⟩ ?_ λb h' sb a5=>?_
  .have h1:=rN y (i+1);rw[l]at h1;unfold d9 at h1;by_cases X:k∈qb (y.take i)
   .exact .inl X
   .rw[c_ X]at h1;simp at h1;exact .inr ⋯
  .have a2:zx H0 h':=λq o e=>by
    have hq:q≠S:=by rintro rfl;rw[a0]at e;cases e
    exact(sb.2 q hq).trans (C q o e)
   have a3:di prog w (PB H0 RR) h' S led (qb (y.take (i+1))):=by rw[l];exact a5
   refine il ⟨plainId_quiet F.plain_set_update_loop _,ih (i+1) _ ⋯ Z (W.frame _ f _ _ am (Jk _ _) λb O o e=>?_) a2 a3 λa1 ap a4 ay=>?_⟩
   .exact (sb.2 b (λq:b=S=>al (by rw[<-q];exact O))).trans e
   .refine B a1 (Moved.trans W.gtrans ((u.mono z).then_heap (Jk _ _) λb o O e=>?_) ap) a4 ay;exact(sb.2 b (λq:b=S=>O (by rw[q];exact mu))).trans e
abbrev cA(led:Bool):Obj:={ cls:=.type "set",dict:=Y,data:=.set #[] 0 (.fresh 0 0 led)}
abbrev aW(w:World):Bool:=!w.params.followText "set-order"
def qT(a:Value)(h:Q₁ (.ref s.heap.objs.size) { s with heap:=s.heap.push (cA (aW w))}):
  codeAny (model prog w) A (.call (.builtin "set.__new__") ⟨[.type "set",a],[]⟩) (wants Q₁ E) s:=by
 refine codeAny_of_tree ?_;refine d_ (wpAny_of_eq (PySem.F.newCall_set_1 a) (il ⟨plainId_quiet PySem.F.plain_set_new _,codeAny_builtin PySem.F.entry_set_new ?_⟩));unfold Builtin.«set.__new__» Builtin.Frozenset.newClass;have f:=sub_set_self
 wp_walk
 refine wpAny_askSetting (il ?_);dsimp only;simp only[newObj];exact d_ (wpAny_alloc (il (il h)))
set_option maxHeartbeats 3200000 in
theorem pV(hh:A.handled=Y)(hu:A.units+16<cLine)(hl:s.heap.IsList l items)(hk:BF prog w s.heap items ks)(al:(qb ks).length<=66)(h:∀(u:Heap)(L:Nat),di prog w (PB s.heap λa=>Value.ref a∈items.toList) u s.heap.objs.size (aW w) (qb ks)->zx s.heap u->s.toks<=L->Q (.ref s.heap.objs.size) { s with heap:=u,toks:=L}):
  wpAny (model prog w) A (call (.type "set") [.ref l]) Q E s:=by
 obtain⟨c,tl,a3⟩:=PySem.F.called_set.mro;have ap:=PySem.F.called_set.made;have a2:=PySem.F.called_set.sub;refine wpAny_call (codeAny_of_tree ?_);show wpAny _ _ (callAny (.type "set") _) _ _ _;refine il ⟨Code.quiet_builtin _ (by decide +kernel),codeAny_builtin PySem.F.entry_type_call ?_⟩;rw[Around.under_plain (weight_type_call_type "set" [.ref l] []) rfl];have h1:=PySem.F.called_set.notType;have h2:=PySem.F.called_set.canCreate;have a7:=PySem.F.typeCall_set_1 (.ref l)
 repeat (any_goals (first | assumption | wp_step))
 refine codeAny_mono (qT (.ref l) (E:=E) (Q₁:=λobj z=>obj=.ref s.heap.objs.size/\z={ s with heap:=s.heap.push (cA (aW w))}) ⟨rfl,rfl⟩) λr z hr=>?_
 cases r with
 |error e=>exact hr
 |ok fl =>
  cases fl with
  |ret obj =>
   obtain⟨rfl,rfl⟩:=hr;have hS:(s.heap.push (cA (aW w))).get? s.heap.objs.size=J (cA (aW w)):=yM _ rfl;have hT:Shared.TypeIs { s with heap:=s.heap.push (cA (aW w))} (.ref s.heap.objs.size) "set":=⟨_,hS,rfl⟩;have be:=PySem.F.called_set.init.lookup;have a8:=PySem.F.called_set.init.bind (.ref s.heap.objs.size)
   repeat (any_goals (first | assumption | wp_step))
   refine codeAny_mono (codeAny_call_builtin (R:=wants (λr B=>r=.none/\∃u L,B={ s with heap:=u,toks:=L} /\
     di prog w (PB s.heap λa=>Value.ref a∈items.toList) u s.heap.objs.size (aW w) (qb ks)/\zx s.heap u/\s.toks<=L) E) PySem.F.called_set.init.plain PySem.F.entry_set_init (check_set_init_1 hT ?_)) λW B f=>?_
   .have a9:=hl;obtain⟨ol,M,P,nl,X⟩:=hl;obtain⟨a1,C,am,y⟩:=ol;simp only at P X;subst P;subst X;have Z:(s.heap.push (cA (aW w))).get? l=J { cls:=.type "list",dict:=C,data:=.seq items nl,slots:=y}:=n6 _ M;have a4:=PySem.F.sub_list_set;have a5:=PySem.F.sub_list_frozenset;have a6:(Value.type "list" == Value.type "dict")=T:=by decide
    have ab:(s.heap.push (cA (aW w))).IsList l items:=⟨_,Z,rfl,nl,rfl⟩;unfold Builtin.«set.__init__» noKeywords Builtin.Frozenset.updateFrom;generalize an:pyIter=PI
    wp_walk
    subst an;refine wpAny_pyIter_list ab ?_;refine d_ (wpAny_runValue ?_);have U:l<s.heap.objs.size:=nj M;have ay:A.in1.in1.in1.handled=Y:=by simp[hh]
    have F:(s.heap.push (cA (aW w))).objs.size=s.heap.objs.size+1:=by rw[Fi]
    have O:l≠(s.heap.push (cA (aW w))).objs.size:=by rw[F];exact sv (Fb U)
    have j:∀b,s.heap.objs.size<=b->s.heap.get? b=Y:=λb hb=>by
     cases e:s.heap.get? b with
     |none=>rfl
     |some o=>exact absurd (nj e) (Nat.not_lt.mpr hb)
    have a0:s.heap.objs.size∉[(s.heap.push (cA (aW w))).objs.size,l]:=by rw[F];simp only[j_,Bs,or_false,not_or];exact⟨sv (Jg _),Jm U⟩
    refine sN (RR:=λa=>Value.ref a∈items.toList) (H0:=s.heap) (led:=aW w) (by show A.units+1+1+1<cLine;lia) ((Walks.list ay _ l O items).toS) s.heap.objs.size a0 (j _ (iv _)) ?_ ks hk.1.symm
     (λi v k hv ax=>let⟨a,e,t⟩:=hk.2 i v k hv ax;⟨a,e,t,by rw[<-e];exact zt.mpr ⟨i,by rw[v_];exact hv⟩⟩) al (items.size-0) 0 _ ⋯ (u0 _) ⟨⟨_,yM _ rfl,rfl,rfl⟩,(ab.push _)⟩ ?_ ?_ ?_
    .intro b hb
     have:b=(s.heap.push (cA (aW w))).objs.size:=by simpa using hb
     rw[this,F];exact j _ (B4 _)
    .intro b o e;exact n6 _ (n6 _ e)
    .exact vP (o:=cA (aW w)) (n6 _ hS) ⟨rfl,rfl,rfl⟩ rfl
    .intro s' hm hx G;obtain⟨u,g',d',S,as⟩:=s';have eg:g'=s.gens:=hm.gens;have ed:d'=s.drawn:=hm.drawn;have eo:as=s.os:=hm.os;have et:s.toks<=S:=hm.toks;subst eg;subst ed;subst eo;show wpAny _ _ _ _ _ _;refine il ?_;show wpAny _ _ (ret Value.none) _ _ _;exact il ⟨rfl,u,S,rfl,G,hx,et⟩
   .cases W with
    |error e=>exact f
    |ok H =>
     cases H with
     |ret r =>
      obtain⟨rfl,u,L,rfl,G,hx,et⟩:=f
      repeat (any_goals (first | assumption | wp_step))
      exact h _ _ G hx et
     |_=>exact f.elim
  |_=>exact hr.elim
end
def cO:Slot "set_iterator" "__next__" "set_iterator.__next__" :=
 .of (owner:="set_iterator") (n:="__next__") (by kernel_rfl) (by decide +kernel) (by decide +kernel) (by decide +kernel) (.inl (by decide +kernel)) (by kernel_rfl)
def jQ:Slot "set_iterator" "__iter__" "set_iterator.__iter__" :=
 .of (owner:="set_iterator") (n:="__iter__") (by kernel_rfl) (by decide +kernel) (by decide +kernel) (by decide +kernel) (.inl (by decide +kernel)) (by kernel_rfl)
def jE:entryFor table "set_iterator.__next__"=J Builtin.«set_iterator.__next__»:=entryFor_of_fast (by kernel_rfl)
def qi:entryFor table "set_iterator.__iter__"=J Builtin.«dict_keyiterator.__iter__» :=
 entryFor_alias (id':="dict_keyiterator.__iter__") (by kernel_rfl) rfl (by decide +kernel) (by kernel_rfl)
def j8(a:Value):argsOk "set_iterator.__next__" ⟨[a],[]⟩:=by unfold argsOk;kernel_rfl
def sC(a:Value):argsOk "set_iterator.__iter__" ⟨[a],[]⟩:=by unfold argsOk;kernel_rfl
def ss:entryFor table "set.__iter__"=J Builtin.«frozenset.__iter__» :=
 entryFor_alias (id':="frozenset.__iter__") (by kernel_rfl) rfl (by decide +kernel) (by kernel_rfl)
def wj{α:Type}(l:List α)(i:Nat)(h:i<l.length):(l[i]::l.eraseIdx i).Perm l:=by
 rw[List.eraseIdx_eq_take_drop_succ];have e:l.take i++l[i]::l.drop (i+1)=l:=by rw[Q9 h,BQ]
 exact Ji.symm.trans (List.Perm.of_eq e)
def Df(next:Nat->Nat):∀(a k:Nat)(left:List α)(i:Array α),left.length<=a->(pickOrder.go next a k left i).toList.Perm (i.toList++left):=by
 intro a
 induction a with
 |zero =>
  intro k left i h
  have:left=[]:=E5.mp ⋯
  subst this;unfold pickOrder.go;simp
 |succ f y =>
  intro k left i h;unfold pickOrder.go
  cases left with
  |nil=>simp
  |cons x l =>
   have j:next k % (x::l).length<(x::l).length:=Nat.mod_lt _ (by simp)
   have z:=AY j;rw[z];have B:((x::l).eraseIdx (next k % (x::l).length)).length<=f:=by rw[List.length_eraseIdx_of_lt j];lia
   refine(y (k+1) _ _ B).trans ?_;rw[B0,BU];refine List.Perm.append_left _ ?_;have u:=(wj _ _ j).symm;exact u.symm
def wY(next:Nat->Nat)(xs:Array α):(pickOrder next xs).toList.Perm xs.toList:=by
 unfold pickOrder
 have:=Df next xs.size 0 xs.toList #[] (by simp)
 simpa using this
def wq(xs:Array Nat)(f:dh xs):below xs 0=0:=by
 obtain⟨i,a,_⟩:=cZ xs 0 f;by_cases h:below xs 0=0
 .exact h
 .obtain⟨v,hv⟩:=du xs 0 ⋯
  have:=a 0 v hv ⋯
  lia
def v9(xs:Array Nat)(f:dh xs)(i j:Nat)(h:xs[i]?=J j):below xs (j+1)=i+1:=by
 obtain⟨B,u,y⟩:=cZ xs (j+1) f;by_cases l:below xs (j+1)<=i
 .have:=y i j h l;lia
 .by_cases z:i+1<below xs (j+1)
  .obtain⟨v,hv⟩:=du xs (i+1) ⋯;have a:=u (i+1) v hv z;have b:=f i (i+1) j v ⋯ h hv;lia
  .lia
section
variable{prog:Program}{w:World}{A:Around}{E:S5}{s:Shared}
def bW(w:World)(S:Addr)(f:Nat)(a:Array (Int×Value)):Array (Int×Value):=if w.params.followText "set-order" then pickOrder (w.params.setOrder S f) a else a
def fS(w:World)(S:Addr)(f:Nat)(a:Array (Int×Value)):(bW w S f a).toList.Perm a.toList:=by
 unfold bW;split
 .exact wY _ _
 .exact List.Perm.refl _
def Lc(w:World)(j S:Addr)(o:Obj)(a:Array (Int×Value))(f:Nat)(t:SetTable)(i:Nat)(h:Heap):Prop :=
 h.get? S=J o/\∃slot:Nat,h.get? j=J { cls:=.type "set_iterator",dict:=Y,data:=.fields #[.int slot 0,.int i 0,.ref S,.int a.size 0,.int f 0],slots:=#[]} /\
  (w.params.followText "set-order"=T->below t.place slot=i)
end
section
variable{prog:Program}{w:World}{A:Around}{E:S5}{s:Shared}{S it:Addr}{o:Obj}{es:Array (Int × Value)}{ep:Nat}{t:SetTable}{ks:SU}
def oK(a:Lc w it S o es ep t i s.heap):s.TypeIs (.ref it) "set_iterator":=let⟨_,_,h,_⟩:=a;⟨_,h,rfl⟩
def Wkd(prog:Program)(w:World)(S:Addr)(o:Obj)(es:Array (Int×Value))(ep:Nat)(t:SetTable):Prop :=
 o.ExactSet/\o.data=.set es ep t/\t.dummies=#[]/\t.plain=I/\t.led=aW w/\dh t.place/\t.place.size=es.size/\es.size<=t.mask
def uT{i:Nat}{h:Heap}{slot:Nat}{Q:Option (Value×Nat)->Shared->Prop}(B:Wkd prog w S o es ep t)(P:s.heap.get? S=J o)(H:w.params.followText "set-order"=T->below t.place slot=i)(u:∀(x:Int×Value) a,(bW w S ep es)[i]?=J x->(w.params.followText "set-order"=T->below t.place a=i+1)->Q (J (x.2,a)) s)(l:(bW w S ep es)[i]?=Y->Q Y s):
  wpAny (model prog w) A (setNext S slot i ep) Q E s:=by
 obtain⟨T1,M,T3,X,Z,U,R,W⟩:=B;have hf:t.fits es.size=I:=by unfold SetTable.fits SetTable.fill;simp[R,T3];exact W
 refine d_ (wpAny_setState_of P M hf ?_);unfold bW at u l
 cases f:w.params.followText "set-order" with
 |true =>
  rw[f]at u l;show wpAny _ _ (if w.params.followText "set-order"=I then _ else _) _ _ _;rw[f];simp only[bne_self_eq_false];refine d_ (d_ (wpAny_setState_of P M hf ?_));show wpAny _ _ (if w.params.followText "set-order"=I then _ else _) _ _ _;rw[f];refine d_ (wpAny_askSetting (il ?_));refine il ?_;show Q (((pickOrder (w.params.setOrder S ep) es)[i]?).map λe=>(e.2,slot)) s
  cases O:(pickOrder (w.params.setOrder S ep) es)[i]? with
  |none=>exact l O
  |some x=>exact u x slot O (λz=>nomatch z)
 |false =>
  rw[f]at u l;show wpAny _ _ (if w.params.followText "set-order"=I then _ else _) _ _ _;rw[f];have F:¬((!t.plain&&decide (es.size>1))=I):=by rw[X];simp
  refine(?_:wpAny _ _ (if(!t.plain&&decide (es.size>1))=I then _ else _) _ _ _);rw[c_ F];have G:¬((!t.led && !es.isEmpty)=I):=by rw[Z];simp[f]
  refine d_ (?_:wpAny _ _ (if(!t.led && !es.isEmpty)=I then _ else _) _ _ _);rw[c_ G];refine il ?_;refine il ?_;have y:=H f;rw[y]
  cases C:es[i]? with
  |none=>exact l C
  |some x =>
   obtain⟨j,L⟩:=du t.place i (by rw[R];exact dY C);rw[L];exact u x (j+1) C (λ_=>v9 _ U i j L)
def Wkd.fits(a:Wkd prog w S o es ep t):t.fits es.size=I:=by obtain⟨z,y,T3,j,l,u,i,f⟩:=a;unfold SetTable.fits SetTable.fill;simp[i,T3];exact f
def sP{i:Nat}{x:Int×Value}{Q:S0->Shared->Prop}(f:Wkd prog w S o es ep t)(y:S≠it)(l:Lc w it S o es ep t i s.heap)(F:(bW w S ep es)[i]?=J x)(P:∀C,Lc w it S o es ep t (i+1) C->Heap.SameBut it s.heap C->Q (J x.2) { s with heap:=C}):wpAny (model prog w) A (pyNext (.ref it)) Q E s:=by
 have H:=oK l;obtain⟨z,slot,G,B⟩:=l;refine d_ (wpAny_attempt (wpAny_callSpecial?_slot H cO (wpAny_call_entry cO H jE ?_ (j8 _))));refine d_ (il ?_);refine d_ (wpAny_fieldsOf G rfl ?_);refine d_ (wpAny_setEntries_of z f.2.1 f.fits ?_);rw[c_ (by simp)];refine d_ ?_;rw[Ap,Ap,Ap];refine uT (h:=s.heap) f z B (λR a e1 e2=>?_) (λe1=>by rw[F]at e1;cases e1);rw[F]at e1;cases e1;refine d_ (wpAny_setField_rec G (by simp) λU L u=>?_);refine d_ (wpAny_setField_rec L (by simp) λO M j=>?_);refine il ⟨_,rfl,il (P O ⟨?_,a,?_,e2⟩ (u.trans j))⟩
 .rw[(u.trans j).2 S y];exact z
 .exact M
def vE{i:Nat}{Q:S0->Shared->Prop}(F:A.handled=Y)(f:Wkd prog w S o es ep t)(j:Lc w it S o es ep t i s.heap)(G:(bW w S ep es)[i]?=Y)(H:∀C,Heap.ExtBut it s.heap C->Q Y { s with heap:=C}):wpAny (model prog w) A (pyNext (.ref it)) Q E s:=by
 have z:=oK j;obtain⟨B,slot,y,l⟩:=j;refine d_ (wpAny_attempt (wpAny_callSpecial?_slot (name:=Str.ofString "__next__") z cO (wpAny_call_entry cO z jE ?_ (j8 _))));refine d_ (m:=slotArgs "__next__" 0 _) (il ?_);refine d_ (wpAny_fieldsOf y rfl ?_);refine d_ (wpAny_setEntries_of B f.2.1 f.fits ?_);rw[c_ (by simp)];refine d_ ?_;rw[Ap,Ap,Ap];refine uT (h:=s.heap) f B l (λL u e1 e2=>by rw[G]at e1;cases e1) (λe1=>?_);refine d_ (wpAny_setField y rfl (by simp) ?_);refine d_ ?_;refine d_ (m:=firstArgMember _ _) (wpAny_of_eq (a:=Value.none) (by first | rfl | (simp only[firstArgMember])) ?_);refine wpAny_newObj_type ?_ (by size_fits);refine d_ (wpAny_handled ?_);rw[show A.in1.handled=Y from F];refine d_ (il (wpAny_throw ?_));refine d_ (wpAny_isInstance (T:="StopIteration") (b:=I) ⟨_,yM _ rfl,rfl⟩ isSubtype_stop ?_);exact il (H _ (((Heap.SameBut.update ..).extBut.push _).push _))
def yr(L:A.handled=Y)(u:S≠it)(j:Wkd prog w S o es ep t):
  Walks prog w A it [it,S] [it] es.size (λi v=>∃x,(bW w S ep es)[i]?=J x/\v=x.2) (λi h=>Lc w it S o es ep t i h) where
 sub:=λb f=>by simp at f;simp[f]
 frame:=λ_ _ _ st F=>⟨F S (by simp) _ st.1,let⟨slot,a,b⟩:=st.2;⟨slot,F it (by simp) _ a,b⟩⟩
 item:=λi s Q E M st l=>by
  have H:(bW w S ep es).size=es.size:=by rw[<-wh,(fS w S ep es).length_eq,wh]
  obtain⟨x,C⟩:=du (bW w S ep es) i ⋯;exact sP j u st C λB y sb=>l _ B s.toks ⟨x,C,rfl⟩ y λb o f e=>sb.extBut b o (λh=>f (by simp[h])) e
 done:=λs Q E st l=>by
  have H:(bW w S ep es).size=es.size:=by rw[<-wh,(fS w S ep es).length_eq,wh]
  exact vE L j st (Q8 ⋯) λB G=>l B s.toks λb o f e=>G b o (λh=>f (by simp[h])) e
 self:=λ_ s Q E st l=>by
  have z:=oK st;refine wpAny_pyIter_slot z jQ (wpAny_call_entry jQ z qi ?_ (sC _));exact il ⟨_,rfl,"set_iterator",_,z,cO.lookup,l⟩
def wg(a:Wkd prog w S o es ep t)(f:s.heap.get? S=J o)(l:Q (.ref s.heap.objs.size) { s with heap:=s.heap.push { cls:=.type "set_iterator",data:=.fields #[.int 0 0,.int 0 0,.ref S,.int es.size 0,.int ep 0]}}):
  wpAny (model prog w) A (pyIter (.ref S)) Q E s:=by
 have j:s.TypeIs (.ref S) "set":=⟨o,f,a.1.1⟩;refine wpAny_pyIter_slot j PySem.F.slot_set_iter (wpAny_call_entry PySem.F.slot_set_iter j ss ?_ (PySem.F.args_set_iter_1 _));refine d_ (d_ (il (il ?_)));refine d_ (d_ (wpAny_setEntries_of f a.2.1 a.fits (il ?_)));refine d_ (d_ (wpAny_setState_of f a.2.1 a.fits ?_));refine d_ (d_ (wpAny_askSetting (il (il ?_))));have i:(!w.params.followText "set-order" && (!t.plain&&decide (es.size>1)))=T:=by rw[a.2.2.2.1];simp
 refine(?_:wpAny _ _ (if(!w.params.followText "set-order" && (!t.plain&&decide (es.size>1)))=I then _ else _) _ _ _);rw[c_ (by rw[i];simp)];refine d_ (il ?_);refine d_ (wpAny_setEpoch_of f a.2.1 a.fits ?_);exact d_ (wpAny_newObj_type (il ⟨_,rfl,"set_iterator",_,⟨_,yM _ rfl,rfl⟩,cO.lookup,l⟩))
end
section
variable{prog:Program}{w:World}{A:Around}{E:S5}{s:Shared}{S:Addr}{o:Obj}{es:Array (Int × Value)}{ep:Nat}{t:SetTable}
def yH(a:s.TypeIs (.ref S) "set")(f:Q T s):wpAny (model prog w) A (Builtin.List.listLengthHint (.ref S)) Q E s:=by refine d_ (wpAny_specialOf a PySem.F.slot_set_len.lookup ?_);dsimp only;refine d_ (wpAny_isInstance a sub_set_self ?_);refine d_ (wpAny_typeOf a ?_);exact il f
def km(hh:A.handled=Y)(l:Wkd prog w S o es ep t)(ho:s.heap.get? S=J o)(hn:es.size<=sizeLine)(hQ:∀h' tk,zx s.heap h'->s.heap.objs.size<h'.objs.size->s.toks<=tk->Q ((bW w S ep es).toList.map (·.2)) { s with heap:=h',toks:=tk}):
  wpAny (model prog w) A (collect (.ref S)) Q E s:=by
 have f:S<s.heap.objs.size:=nj ho;refine d_ (wpAny_runValue (codeAny_builtin PySem.F.entry_proto_collect ?_));refine d_ (wpAny_newObj_type ?_);refine il ⟨plainId_quiet PySem.F.plain_list_iadd _,codeAny_builtin PySem.F.entry_list_iadd ?_⟩;generalize hL:({ cls:=.type "list",data:=.seq ([]:SH).toArray}:Obj)=a;have G:(s.heap.push a).get? S=J o:=n6 _ ho;have an:(s.heap.push a).get? s.heap.objs.size=J a:=yM _ (by rw[<-hL];rfl);have j:(s.heap.push a).objs.size=s.heap.objs.size+1:=by rw[Fi]
 show wpAny _ A.in1 (Builtin.List.listExtendWith (.ref s.heap.objs.size) (.ref S) (.ref s.heap.objs.size)) _ _ { s with heap:=s.heap.push a};have al:Shared.TypeIs { s with heap:=s.heap.push a} (.ref S) "set":=⟨o,G,l.1.1⟩;refine d_ (wpAny_typeOf al ?_);have h1:Builtin.List.listSameRef (.ref s.heap.objs.size) (.ref S)=T:=by simp only[Builtin.List.listSameRef,beq_eq_false_iff_ne];exact Jm f
 have h2:(Value.type "set" == Value.type "list")=T:=by decide
 have h3:(Value.type "set" == Value.type "tuple")=T:=by decide
 simp only[h1,h2,h3,Bool.or_false,n_,if_false];refine d_ (wg (s:={ s with heap:=s.heap.push a}) l G ?_);generalize hI:({ cls:=.type "set_iterator",data:=.fields #[.int 0 0,.int 0 0,.ref S,.int es.size 0,.int ep 0]}:Obj)=B;have P:((s.heap.push a).push B).get? S=J o:=n6 _ G;have X:((s.heap.push a).push B).get? s.heap.objs.size=J a:=n6 _ an;have ap:((s.heap.push a).push B).get? (s.heap.push a).objs.size=J B:=yM _ (by rw[<-hI];rfl);show wpAny _ A.in1 _ _ _ { s with heap:=(s.heap.push a).push B};have as:Shared.TypeIs { s with heap:=(s.heap.push a).push B} (.ref S) "set":=⟨o,P,l.1.1⟩;refine d_ (wpAny_holding (yH as ?_));rw[b_ (by decide +kernel)];refine d_ (wpAny_rule ?_);refine d_ ?_;show wpAny _ A.in1 (updateSeq s.heap.objs.size (·.push .none) >>= λ_=>updateSeq s.heap.objs.size (·.pop)) _ _ _;subst hL;refine d_ (wpAny_updateSeq X rfl ?_);have u:=M7 (Obj.mapSeq (·.push Value.none)) X rfl;refine wpAny_updateSeq u rfl ?_;have L:=M7 (Obj.mapSeq (·.pop)) u rfl;have F:∀b M,b≠s.heap.objs.size->((s.heap.push { cls:=.type "list",data:=.seq ([]:SH).toArray}).push B).get? b=J M ->
   ((((s.heap.push { cls:=.type "list",data:=.seq ([]:SH).toArray}).push B).update s.heap.objs.size (Obj.mapSeq (·.push Value.none))).update s.heap.objs.size (Obj.mapSeq (·.pop))).get? b=J M :=
  λb M O e=>(M6 _ _ (Ne.symm O)).trans ((M6 _ _ (Ne.symm O)).trans e)
 have z:s.heap.objs.size≠(s.heap.push { cls:=.type "list",data:=.seq ([]:SH).toArray}).objs.size:=by rw[j];exact sv (Jg _)
 have Z:S≠(s.heap.push { cls:=.type "list",data:=.seq ([]:SH).toArray}).objs.size:=by rw[j];exact sv (Fb f)
 have hW:=(yr (A:=A.in1) (it:=(s.heap.push { cls:=.type "list",data:=.seq ([]:SH).toArray}).objs.size) hh Z l).toS;have am:s.heap.objs.size∉[(s.heap.push { cls:=.type "list",data:=.seq ([]:SH).toArray}).objs.size,S]:=by simp only[j_,Bs,or_false,not_or];exact⟨z,Jm f⟩
 refine il ⟨plainId_quiet PySem.F.plain_extend_loop _,codeAny_extend_loopS hW hn _ am _ es.size 0 _ _ _ rfl (u0 _) ?_ L (ItemsOf.nil _) λs' C c' R U y=>?_⟩
 .refine⟨F S _ (sv f) P,0,?_,λ_=>wq _ l.2.2.2.2.2.1⟩;subst hI;exact F _ _ (Ne.symm z) ap
 .show wpAny _ A (load s.heap.objs.size >>= _) _ _ s';refine d_ (wpAny_load U ?_);refine il ?_;have H:C.toList=(bW w S ep es).toList.map (·.2):=by
   have hl:(bW w S ep es).size=es.size:=by rw[<-wh,(fS w S ep es).length_eq,wh]
   apply JR;intro i;by_cases hi:i<es.size
   .obtain⟨v,hv⟩:=du C i (by rw[y.1];exact hi);obtain⟨x,hx,e⟩:=y.2 i v hv;rw[v_,hv,wl,v_,hx,e];rfl
   .rw[Br (by rw[wh,y.1];lia),Br (by rw[oh,wh,hl];lia)]
  rw[H];obtain⟨h',g',d',W,ab⟩:=s';have eg:g'=s.gens:=R.gens;have ed:d'=s.drawn:=R.drawn;have eo:ab=s.os:=R.os;have et:s.toks<=W:=R.toks;subst eg;subst ed;subst eo;refine hQ h' W (λb M e=>?_) (nj U) et;have O:b<s.heap.objs.size:=nj e;refine R.heap b M ?_ (F b M (sv O) (n6 _ (n6 _ e)));simp only[j_,Bs,or_false,not_or];exact⟨sv O,by rw[j];exact sv (Fb O)⟩
def sR(hh:A.handled=Y)(f:di prog w (PB H0 R) s.heap S (aW w) ks)(hx:zx H0 s.heap)(hQ:∀L O U H,zx s.heap L->s.heap.objs.size<L.objs.size->s.toks<=O->BF prog w H0 (List.toArray U) H->(∀v∈U,∃a,v=.ref a/\R a)->H.Perm ks->Q U { s with heap:=L,toks:=O}):
  wpAny (model prog w) A (collect (.ref S)) Q E s:=by
 obtain⟨o,es,ep,t,u,f,hr,ab,am⟩:=f;unfold kU at hr;have M:es.size<=t.mask:=by rcases f.mask with e|e | e<;>rw[e]at hr ⊢<;>lia
 have al:t.mask<=127:=by rcases f.mask with e|e | e<;>lia
 refine km hh ⟨f.ex,f.data,f.dm,f.plain,f.led',f.wf.rise,f.size,M⟩ f.get (by rw[sizeLine_eq];lia) λL O e1 e3 e2=>?_;have Z:=fS w S ep es;have l:∀e∈es.toList,∃k a,e.2=.ref a/\TK prog w H0 k a/\R a:=by intro e z;obtain⟨i,j⟩:=zt.mp z;rw[v_]at j;obtain⟨k,y⟩:∃k,u[i]?=J k:=⟨_,AY (by rw[<-f.ents.1];exact dY j)⟩;obtain⟨c,d,⟨oc,W,m,X,q⟩,g,⟨P,hb⟩,hR⟩:=f.ents.2 i e k j y;have e3:oc=P:=Option.some.inj (X.symm.trans (hx c P hb));subst e3;exact⟨k,c,d,⟨oc,W,m,hb,q⟩,hR⟩
 let C:Int×Value->SS:=λe=>Classical.epsilon λk=>∃a,e.2=.ref a/\TK prog w H0 k a
 have F:∀e∈es.toList,∃a,e.2=.ref a/\TK prog w H0 (C e) a:=by intro e z;obtain⟨k,a,B,h2,_⟩:=l e z;exact Classical.epsilon_spec (p:=λk=>∃a,e.2=.ref a/\TK prog w H0 k a) ⟨k,a,B,h2⟩
 have G:es.toList.map C=u:=by
  apply JR;intro i;rw[wl,v_]
  cases j:es[i]? with
  |none =>
   have:u.length<=i:=by
    rw[<-f.ents.1]
    have:=Oa.mp j
    lia
   rw[Br this];rfl
  |some e =>
   obtain⟨k,y⟩:∃k,u[i]?=J k:=⟨_,AY (by rw[<-f.ents.1];exact dY j)⟩;obtain⟨c,d,X,g,⟨P,hb⟩,_⟩:=f.ents.2 i e k j y;have z:e∈es.toList:=zt.mpr ⟨i,by rw[v_];exact j⟩;obtain⟨a,B,h2⟩:=F e z;rw[d]at B;cases B;have h3:=jO hx h2;rw[y];show J (C e)=J k;rw[IsTupleKey.inj h3 X]
 refine hQ L O _ ((bW w S ep es).toList.map C) e1 e3 e2 ⟨by simp,?_⟩ ?_ ?_
 .intro i v k hv y;rw[M8,wl]at hv;rw[wl]at y
  cases j:(bW w S ep es).toList[i]? with
  |none=>rw[j]at hv;cases hv
  |some e =>
   rw[j]at hv y;cases hv;cases y;exact F e (Z.mem_iff.mp (AC j))
 .intro v hv;obtain⟨e,z,rfl⟩:=k6.mp hv;obtain⟨k,a,B,_,h3⟩:=l e (Z.mem_iff.mp z);exact⟨a,B,h3⟩
 .have:=Z.map C
  rw[G]at this;exact this.trans ab
end
end SetT
namespace SortT
open PyProof.Rows
structure vo(prog:Program)(w:World)(A:Around)(E:S5)(s:Shared)(kd:SortKind)(O:KeyOrd) where
 key:Keyed->O.α
 dflt:O.α
 good:Keyed->Prop
 ask:∀(x y:Keyed)(st:SortSt)(Q:Option Bool->SortSt->Prop),good x->good y->kindOf st=kd->Q (J (O.blt (key x) (key y))) st->wpS (model prog w) A E s (lt' x y) Q st
section
variable{prog:Program}{w:World}{A:Around}{E:S5}{s:Shared}{kd:SortKind}{O:KeyOrd}(C:vo prog w A E s kd O)
def kk(xs:Array Keyed)(i:Nat):O.α:=match xs[i]? with
 |some p=>C.key p
 |none=>C.dflt
def tr(xs:Array Keyed)(lo a:Nat):Prop:=∀i j,lo<=i->i<=j->j<a->O.kle (kk C xs i) (kk C xs j)
def Jw(xs:Array Keyed)(lo a:Nat):Prop:=∀i j,lo<=i->i<=j->j<a->O.kle (kk C xs j) (kk C xs i)
def cK(xs:Array Keyed):Prop:=∀p,p∈xs.toList->C.good p
structure SB(kd:SortKind)(a₀:Array Keyed)(st:SortSt):Prop where
 perm:(arrOf st).Perm a₀
 kind:kindOf st=kd
 failed:failedOf st=Y
def cL(lo:Nat)(xs ys:Array Keyed):Prop:=∀i,i<lo->ys[i]?=xs[i]?
def cL.rfl'{lo:Nat}{xs:Array Keyed}:cL lo xs xs:=λ_ _=>rfl
def cL.trans{lo:Nat}{xs ys a:Array Keyed}(h:cL lo xs ys)(g:cL lo ys a):cL lo xs a:=λi f=>(g i f).trans (h i f)
variable{C}{a₀:Array Keyed}{st:SortSt}
def SB.size(h:SB kd a₀ st):(arrOf st).size=a₀.size:=h.perm.size_eq
def SB.arr(h:SB kd a₀ st)(a:xs.Perm (arrOf st)):SB kd a₀ (setArr st xs):=⟨a.trans h.perm,h.kind,h.failed⟩
def SB.good(h:SB kd a₀ st)(a:cK C a₀):cK C (arrOf st):=λp f=>a p ((M4.mp h.perm).mem_iff.mp f)
def eI(h:xs[i]?=ys[j]?):kk C xs i=kk C ys j:=by unfold kk;rw[h]
def aO(h:xs[i]?=J p):kk C xs i=C.key p:=by unfold kk;rw[h]
def bw{xs:Array Keyed}(g:cK C xs){i:Nat}{p:Keyed}(h:xs[i]?=J p):C.good p:=by refine g p (zt.mpr ⟨i,?_⟩);rw[v_];exact h
def aU(a:i<xs.size)(h:∀p,xs[i]?=J p->Q p st):wpS (model prog w) A E s (elem' xs i) Q st:=by rw[elem'_eq];have e:=getElem?_pos xs i a;rw[e];exact wpS_pure (h _ e)
def jH{i j:Nat}{Q:Option Bool->SortSt->Prop}(a:SB kd a₀ st)(u:cK C a₀)(z:i<a₀.size)(B:j<a₀.size)(h:Q (J (O.blt (kk C (arrOf st) i) (kk C (arrOf st) j))) st):wpS (model prog w) A E s (ltAt' i j) Q st:=by
 refine wpS_bind (wpS_get ?_);refine wpS_bind (aU (by rw[a.size];exact z) λx f=>wpS_bind (aU (by rw[a.size];exact B) λy l=>?_));rw[aO f,aO l]at h;exact C.ask x y st Q (bw (a.good u) f) (bw (a.good u) l) a.kind h
def pi(j:src<xs.size)(hd:d<=src)(i:Nat):
  kk C (bubble xs src d) i=if i=src-d then kk C xs src else if src-d<i/\i<=src then kk C xs (i-1)else kk C xs i:=by
 have e:=getElem?_bubble j d hd i;split
 .next f=>rw[b_ f]at e;exact eI e
 .next f =>
  rw[c_ f]at e;split
  .next a=>rw[b_ a]at e;exact eI e
  .next a=>rw[c_ a]at e;exact eI e
def jI(f:j<=xs.size)(q:Nat):
  kk C (mirror xs i j ((j-i)/2)) q=if i<=q/\q<j then kk C xs (i+j-1-q)else kk C xs q:=by
 have e:=getElem?_mirror_all (i:=i) f q;split
 .next a=>rw[b_ a]at e;exact eI e
 .next a=>rw[c_ a]at e;exact eI e
def dA(f:j<=xs.size)(a:∀q,i<=q->q<j->kk C xs q=kk C xs (j-1))(q:Nat):
  kk C (mirror xs i j ((j-i)/2)) q=kk C xs q:=by
 rw[jI f];split
 .next h=>rw[a (i+j-1-q) ⋯ ⋯,a q h.1 h.2]
 .rfl
def fI{xs:Array Keyed}{lo i j:Nat}(a:j<=xs.size)(h:lo<=i):cL lo xs (mirror xs i j ((j-i)/2)):=λq f=>by
 rw[getElem?_mirror_all a,c_ ⋯]
def tf{xs:Array Keyed}{lo a d:Nat}(f:a<xs.size)(hd:d<=a)(h:lo<=a-d):cL lo xs (bubble xs a d):=λq i=>by
 rw[getElem?_bubble f d hd,c_ ⋯,c_ ⋯]
abbrev AS:=Option (S8)×Nat
abbrev DS:=Option (S8)×Nat×Nat
def jG(p a f:Nat):StateT SortSt Sem AS :=
 forIn [a:f] ((Y,a):AS) λ_ c=>do
  let q <-ltAt' (p+c.2) (p+c.2-1)
  match q with
  |some z=>if z=I then pure (ForInStep.done (Y,c.2))else pure (ForInStep.yield (Y,c.2+1))
  |_=>pure (ForInStep.done (J Y,c.2))
def GN(p n a:Nat):StateT SortSt Sem (S8):=do
 reverseSlice' p (p+n)
 let c <-jG p n a
 match c.1 with
 |some r=>pure r
 |none=>pure (J c.2)
def Dg(p n a:Nat):StateT SortSt Sem DS :=
 forIn [n:a] ((Y,n,0):DS) λ_ c=>do
  let q <-ltAt' (p+c.2.1) (p+c.2.1-1)
  match q with
  |some z =>
   if z=I then
    if c.2.2>0 then do
     reverseSlice' (p+c.2.1-(c.2.2+1)) (p+c.2.1)
     pure (ForInStep.yield (Y,c.2.1+1,0))
    else pure (ForInStep.yield (Y,c.2.1+1,0))
   else do
    let q <-ltAt' (p+c.2.1-1) (p+c.2.1)
    match q with
    |some z=>if z=I then pure (ForInStep.done (Y,c.2.1,c.2.2))else pure (ForInStep.yield (Y,c.2.1+1,c.2.2+1))
    |_=>pure (ForInStep.done (J Y,c.2.1,c.2.2))
  |_=>pure (ForInStep.done (J Y,c.2.1,c.2.2))
def GO(p n a:Nat):StateT SortSt Sem (S8):=do
 liftM (rule "list.sort.descending-run")
 let c <-Dg p (n+1) a
 match c.1 with
 |some r=>pure r
 |none =>
  if c.2.2>0 then do
   reverseSlice' (p+c.2.1-(c.2.2+1)) (p+c.2.1)
   GN p c.2.1 a
  else GN p c.2.1 a
def GP(p a:Nat):countRun' p a=(do
  let c <-jG p 1 a
  match c.1 with
  |some r=>pure r
  |none =>
   if(c.2==a)=I then pure (J c.2)
   else if c.2>1 then do
    let q <-ltAt' p (p+c.2-1)
    match q with
    |some z=>if z=I then pure (J c.2)else do
      reverseSlice' p (p+c.2)
      GO p c.2 a
    |_=>pure Y
   else GO p c.2 a):=by
 refine congrArg (λg=>jG p 1 a >>= g) (funext λc=>?_);obtain⟨r,n⟩:=c
 cases r with
 |some r=>rfl
 |none =>
  dsimp only;split
  .rfl
  .split
   .congr 1;funext x
    cases x with
    |none=>rfl
    |some z =>
     dsimp only;split
     .rfl
     .refine congrArg _ (funext λ_=>?_);refine congrArg _ (funext λ_=>?_);refine congrArg (λg=>Dg p (n+1) a >>= g) (funext λu=>?_);obtain⟨j,i,y⟩:=u
      cases j with
      |some j=>rfl
      |none =>
       dsimp only;split
       .refine congrArg _ (funext λ_=>?_);refine congrArg _ (funext λ_=>?_);refine congrArg (λg=>jG p i a >>= g) (funext λf=>?_);obtain⟨r3,l⟩:=f;cases r3<;>rfl
       .refine congrArg _ (funext λ_=>?_);refine congrArg (λg=>jG p i a >>= g) (funext λf=>?_);obtain⟨r3,l⟩:=f;cases r3<;>rfl
   .refine congrArg _ (funext λ_=>?_);refine congrArg (λg=>Dg p (n+1) a >>= g) (funext λu=>?_);obtain⟨j,i,y⟩:=u
    cases j with
    |some j=>rfl
    |none =>
     dsimp only;split
     .refine congrArg _ (funext λ_=>?_);refine congrArg _ (funext λ_=>?_);refine congrArg (λg=>jG p i a >>= g) (funext λf=>?_);obtain⟨r3,l⟩:=f;cases r3<;>rfl
     .refine congrArg _ (funext λ_=>?_);refine congrArg (λg=>jG p i a >>= g) (funext λf=>?_);obtain⟨r3,l⟩:=f;cases r3<;>rfl
def ur(M:cK C a₀)(U:p+nrem<=a₀.size)(W:1<=a)(H:a<=nrem)(G:SB kd a₀ st)(L:tr C (arrOf st) p (p+a))(h:∀n,a<=n->n<=nrem->tr C (arrOf st) p (p+n)->(n=nrem\/O.klt (kk C (arrOf st) (p+n)) (kk C (arrOf st) (p+n-1)))->Q (Y,n) st):
  wpS (model prog w) A E s (jG p a nrem) Q st:=by
 refine wpS_forRange (I:=λx c f=>f=st/\c=(Y,x)/\tr C (arrOf st) p (p+x)) ?_ ?_ ⟨rfl,rfl,L⟩
 .rintro x c f P S ⟨rfl,rfl,z⟩;refine wpS_bind (jH G M ⋯ ⋯ ?_)
  cases B:O.blt (kk C (arrOf f) (p+x)) (kk C (arrOf f) (p+x-1)) with
  |true=>exact wpS_pure (h x P ⋯ z (.inr B))
  |false =>
   refine wpS_pure ⟨rfl,rfl,λi j F y R=>?_⟩;by_cases l:j<p+x
   .exact z i j F y l
   .have e:j=p+x:=by lia
    subst e;by_cases u:i=p+x
    .subst u;exact KeyOrd.kle_refl _
    .exact KeyOrd.kle_trans (z i (p+x-1) F ⋯ ⋯) B
 .simp_all
def kQ(h:Q () (setArr st (mirror (arrOf st) i j ((j-i)/2)))):wpS (model prog w) A E s (reverseSlice' i j) Q st:=by exact wpS_modify h
def uh(L:cK C a₀)(G:p+nrem<=a₀.size)(M:1<=n)(u:n<=nrem)(y:SB kd a₀ st)(H:Jw C (arrOf st) p (p+n))(h:∀m a,SB kd a₀ a->cL p (arrOf st) (arrOf a)->pendingOf a=pendingOf st->1<=m->m<=nrem->tr C (arrOf a) p (p+m)->Q (J m) a):
  wpS (model prog w) A E s (GN p n nrem) Q st:=by
 have f:p+n<=(arrOf st).size:=by rw[y.size];lia
 refine wpS_bind (kQ ?_);have l:=y.arr (mirror_perm (arrOf st) p (p+n) ((p+n-p)/2));refine wpS_bind (ur L G M u l (λi j S B P=>?_) λm R F z _=>wpS_pure (h m _ l (fI f (iv _)) rfl ⋯ F z));rw[jI f,jI f,b_ ⋯,b_ ⋯];exact H _ _ ⋯ ⋯ ⋯
def Dh{p n l:Nat}{Q:DS->SortSt->Prop}(h0:cK C a₀)(hn:p+l<=a₀.size)(h1:1<=n)(S:n<=l)(hB:SB kd a₀ st)(hs:Jw C (arrOf st) p (p+n))(h:∀m q f,SB kd a₀ f->cL p (arrOf st) (arrOf f)->pendingOf f=pendingOf st->n<=m->m<=l->Jw C (arrOf f) p (p+m)->q+1<=m ->
   (∀i,p+m-(q+1)<=i->i<p+m->kk C (arrOf f) i=kk C (arrOf f) (p+m-1))->Q (Y,m,q) f):
  wpS (model prog w) A E s (Dg p n l) Q st:=by
 refine wpS_forRange (I:=λx c f=>∃q,c=(Y,x,q)/\SB kd a₀ f/\cL p (arrOf st) (arrOf f)/\pendingOf f=pendingOf st/\Jw C (arrOf f) p (p+x)/\q+1<=x /\
   ∀i,p+x-(q+1)<=i->i<p+x->kk C (arrOf f) i=kk C (arrOf f) (p+x-1)) ?_ ?_ ⟨0,rfl,hB,cL.rfl',rfl,hs,⋯,λi a b=>by congr 1;lia⟩
 .rintro x c f ab am ⟨q,rfl,u,y,z,hf,M,F⟩;have G:p+x<=(arrOf f).size:=by rw[u.size];lia
  have B:∀xs:Array Keyed,(∀i,kk C xs i=kk C (arrOf f) i)->O.kle (kk C (arrOf f) (p+x)) (kk C (arrOf f) (p+x-1))->Jw C xs p (p+(x+1)):=by
   intro xs hk Z i j hi W hj;rw[hk,hk];by_cases P:j<p+x
   .exact hf i j hi W P
   .have e:j=p+x:=by lia
    subst e;by_cases R:i=p+x
    .subst R;exact KeyOrd.kle_refl _
    .exact KeyOrd.kle_trans Z (hf i (p+x-1) hi ⋯ ⋯)
  dsimp only;refine wpS_bind (jH u h0 ⋯ ⋯ ?_)
  cases U:O.blt (kk C (arrOf f) (p+x)) (kk C (arrOf f) (p+x-1)) with
  |true =>
   dsimp only;rw[b_ rfl];by_cases H:q>0
   .rw[b_ H];refine wpS_bind (kQ (wpS_pure ⟨0,rfl,u.arr (mirror_perm _ _ _ _),y.trans (fI G ⋯),z,B _ (dA G F) (KeyOrd.kle_of_klt U),⋯,λi a b=>by congr 1;lia⟩))
   .rw[c_ H];exact wpS_pure ⟨0,rfl,u,y,z,B _ (λ_=>rfl) (KeyOrd.kle_of_klt U),⋯,λi a b=>by congr 1;lia⟩
  |false =>
   dsimp only;rw[c_ (by simp)];refine wpS_bind (jH u h0 ⋯ ⋯ ?_)
   cases L:O.blt (kk C (arrOf f) (p+x-1)) (kk C (arrOf f) (p+x)) with
   |true =>
    dsimp only;rw[b_ rfl];exact wpS_pure (h x q f u y z ab ⋯ hf M F)
   |false =>
    dsimp only;rw[c_ (by simp)];have al:kk C (arrOf f) (p+x)=kk C (arrOf f) (p+x-1):=KeyOrd.kle_antisymm L U;refine wpS_pure ⟨q+1,rfl,u,y,z,B _ (λ_=>rfl) L,⋯,λi a b=>?_⟩;have e1:p+(x+1)-1=p+x:=by lia
    rw[e1];by_cases X:i=p+x
    .subst X;rfl
    .rw[al];exact F i ⋯ ⋯
 .rintro c f ⟨q,rfl,u,y,z,hf,M,F⟩;have e:max n l=l:=by lia
  rw[e]at hf M F ⊢;exact h l q f u y z S (iv _) hf M F
def se{p n f:Nat}{Q:S8->SortSt->Prop}(W:cK C a₀)(U:p+f<=a₀.size)(M:n+1<=f)(hB:SB kd a₀ st)(hs:Jw C (arrOf st) p (p+(n+1)))(h:∀m a,SB kd a₀ a->cL p (arrOf st) (arrOf a)->pendingOf a=pendingOf st->1<=m->m<=f->tr C (arrOf a) p (p+m)->Q (J m) a):
  wpS (model prog w) A E s (GO p n f) Q st:=by
 refine wpS_bind (wpS_lift (wpAny_rule ⟨rfl,?_⟩));refine wpS_bind (Dh W U ⋯ M hB hs λm q a y z B ab G hf hq X=>?_);dsimp only;have l:p+m<=(arrOf a).size:=by rw[y.size];lia
 by_cases F:q>0
 .rw[b_ F];refine wpS_bind (kQ (uh W U ⋯ G (y.arr (mirror_perm _ _ _ _)) ?_ λH u S L P=>h H u S ((z.trans (fI l ⋯)).trans L) (P.trans B)));intro i j hi R Z;rw[dA l X,dA l X];exact hf i j hi R Z
 .rw[c_ F];exact uh W U ⋯ G y hf λH u S L P=>h H u S (z.trans L) (P.trans B)
def uc(P:cK C a₀)(X:p+nrem<=a₀.size)(h1:1<=nrem)(u:SB kd a₀ st)(h:∀m f,SB kd a₀ f->cL p (arrOf st) (arrOf f)->pendingOf f=pendingOf st->1<=m->m<=nrem->tr C (arrOf f) p (p+m)->Q (J m) f):
  wpS (model prog w) A E s (countRun' p nrem) Q st:=by
 rw[GP];refine wpS_bind (ur P X (iv 1) h1 u (λi j M G Z=>by have e:i=j:=⋯;subst e;exact KeyOrd.kle_refl _) λn a1 a2 l U=>?_);by_cases B:n=nrem
 .rw[b_ (by simpa using B)];exact wpS_pure (h n st u cL.rfl' rfl a1 a2 l)
 .rw[c_ (by simpa using B)];have F:=U.resolve_left B;by_cases H:n>1
  .rw[b_ H];refine wpS_bind (jH u P ⋯ ⋯ ?_)
   cases hz:O.blt (kk C (arrOf st) p) (kk C (arrOf st) (p+n-1)) with
   |true =>
    dsimp only;exact wpS_pure (h n st u cL.rfl' rfl a1 a2 l)
   |false =>
    dsimp only;have y:p+n<=(arrOf st).size:=by rw[u.size];lia
    have a:∀q,p<=q->q<p+n->kk C (arrOf st) q=kk C (arrOf st) (p+n-1):=λq L R =>
     KeyOrd.kle_antisymm (l q (p+n-1) L ⋯ ⋯) (KeyOrd.kle_trans hz (l p q (iv _) L R))
    refine wpS_bind (kQ (se P X ⋯ (u.arr (mirror_perm _ _ _ _)) ?_ λm2 W L R b3=>h m2 W L ((fI y (iv _)).trans R) b3));intro i j M G Z;rw[dA y a,dA y a];by_cases S:j<p+n
    .rw[a i M ⋯,a j ⋯ S];exact KeyOrd.kle_refl _
    .have e:j=p+n:=by lia
     subst e;by_cases z:i=p+n
     .subst z;exact KeyOrd.kle_refl _
     .rw[a i M ⋯];exact KeyOrd.kle_of_klt F
  .rw[c_ H];have e:n=1:=by lia
   subst e;refine se P X ⋯ u ?_ h;intro i j M G Z;by_cases z:i=j
   .subst z;exact KeyOrd.kle_refl _
   .have e1:i=p:=by lia
    have e2:j=p+1:=by lia
    subst e1;subst e2;exact KeyOrd.kle_of_klt F
end
section
variable{prog:Program}{w:World}{A:Around}{E:S5}{s:Shared}{kd:SortKind}{O:KeyOrd}{C:vo prog w A E s kd O}{a₀:Array Keyed}{st:SortSt}
def Rt{l m r k x:Nat}(a:l<=m)(b:m<r)(h:r-l<=k-x):m-l<=k-(x+1):=by rw[OA];exact JK (q0 (Nat.sub_lt_sub_right a b) h)
def Ru{l m r k x:Nat}(a:l<=m)(h:r-l<=k-x):r-(m+1)<=k-(x+1):=by rw[OA,OA];exact Nat.sub_le_sub_right (mh (Na a r) h) 1
def Rv{l r k:Nat}(a:l<=r)(h:r-l<=k-max 0 k):l=r:=Nat.le_antisymm a (Q_.1 (Nat.le_zero.1 (Nat.sub_eq_zero_of_le (Nat.le_max_right 0 k)▸h)))
def Ss{l r:Nat}(h:¬l>=r):l<=(l+r)/2/\(l+r)/2<r:=by lia
def GQ{l r:Nat}(h:¬l>=r):l<=l+(r-l)/2/\l+(r-l)/2<r:=by lia
def tq(h0:cK C a₀)(hn:p+n<=a₀.size)(hok:ok<=n)(hB:SB kd a₀ st)(hs:tr C (arrOf st) p (p+ok))(h:∀f,SB kd a₀ f->cL p (arrOf st) (arrOf f)->pendingOf f=pendingOf st->tr C (arrOf f) p (p+n)->Q I f):wpS (model prog w) A E s (binarySort' p n ok) Q st:=by
 rw[binarySort'_eq]
 refine wpS_bind (wpS_mono (wpS_forRange (I:=λk c f=>c=(Y,())/\SB kd a₀ f/\cL p (arrOf st) (arrOf f)/\pendingOf f=pendingOf st/\tr C (arrOf f) p (p+min k n))
  (Q:=λc f=>c=(Y,())/\SB kd a₀ f/\cL p (arrOf st) (arrOf f)/\pendingOf f=pendingOf st/\tr C (arrOf f) p (p+n)) ?_ ?_ ?_) ?_)
 .rintro k c f al ab ⟨rfl,z,G,H,y⟩;have ek:min k n=k:=by lia
  rw[ek]at y
  refine wpS_bind (wpS_mono (wpS_forRange (I:=λx c u=>u=f/\∃l r,c=(Y,l,r)/\l<=r/\r<=k/\r-l<=k-x /\
    (∀i,p<=i->i<p+l->O.kle (kk C (arrOf f) i) (kk C (arrOf f) (p+k)))/\∀i,p+r<=i->i<p+k->O.klt (kk C (arrOf f) (p+k)) (kk C (arrOf f) i))
   (Q:=λc u=>u=f/\∃l r,c=(Y,l,r)/\l<=k /\
    (∀i,p<=i->i<p+l->O.kle (kk C (arrOf f) i) (kk C (arrOf f) (p+k)))/\∀i,p+l<=i->i<p+k->O.klt (kk C (arrOf f) (p+k)) (kk C (arrOf f) i)) ?_ ?_ ?_) ?_)
  .rintro x c u _ hx ⟨rfl,l,r,rfl,R,L,U,B,F⟩;by_cases M:l>=r
   .rw[b_ M];have e:l=r:=by lia
    subst e;exact wpS_pure ⟨rfl,l,l,rfl,L,B,F⟩
   .rw[c_ M];have⟨m1,W⟩:=Ss M;have m3:=q0 W L;dsimp only;generalize (l+r)/2=m at *;refine wpS_bind (jH z h0 ⋯ ⋯ ?_)
    cases hz:O.blt (kk C (arrOf u) (p+k)) (kk C (arrOf u) (p+m)) with
    |true =>
     simp only[if_true];exact wpS_pure ⟨rfl,l,m,rfl,m1,vu m3,Rt m1 W U,B,λi a b=>KeyOrd.klt_of_klt_of_kle hz (y _ _ (Jk ..) a b)⟩
    |false =>
     simp only[n_,if_false];exact wpS_pure ⟨rfl,m+1,r,rfl,W,L,Ru m1 U,λi a b=>KeyOrd.kle_trans (y i (p+m) a (Fc b) (Nb m3 p)) hz,F⟩
  .rintro c u ⟨rfl,l,r,rfl,R,L,U,B,F⟩;have e:=Rv R U;subst e;exact⟨rfl,l,l,rfl,L,B,F⟩
  .exact⟨rfl,0,k,rfl,⋯,⋯,⋯,λi a b=>by lia,λi a b=>by lia⟩
  .rintro c u ⟨rfl,l,r,rfl,X,B,F⟩;dsimp only;rw[moveDown'_eq];have P:p+k<(arrOf u).size:=by rw[z.size];lia
   have ed:p+k-(p+l)=k-l:=Nat.add_sub_add_left _ _ _;have Z:k-l<=p+k:=mh (BV _ _) (Nat.le_add_left _ _);have e2:p+k-(k-l)=p+l:=by rw[Nat.add_sub_assoc (BV _ _),JT X]
   rw[ed];refine wpS_bind (wpS_modify (wpS_pure ⟨rfl,z.arr (bubble_perm _ _ _),G.trans (tf P Z (e2▸Jk _ _)),H,?_⟩));have e1:min (k+1) n=k+1:=by lia
   rw[e1];intro i j hi S hj;show O.kle (kk C (bubble (arrOf u) (p+k) (k-l)) i) (kk C (bubble (arrOf u) (p+k) (k-l)) j);rw[pi P Z,pi P Z,e2]
   repeat' split
   all_goals first
    |(exfalso;lia)
    |exact KeyOrd.kle_refl _
    |exact B _ ⋯ ⋯
    |exact KeyOrd.kle_of_klt (F _ ⋯ ⋯)
    |exact y _ _ ⋯ ⋯ ⋯
 .rintro c f ⟨hc,z,G,H,y⟩;refine⟨hc,z,G,H,?_⟩;have e:min (max (max ok 1) n) n=n:=Nf (Nat.le_max_right ..)
  rwa [e]at y
 .refine⟨rfl,hB,cL.rfl',rfl,λi j hi S hj=>?_⟩;by_cases h1:ok=0
  .have e:i=j:=by lia
   subst e;exact KeyOrd.kle_refl _
  .exact hs i j hi S ⋯
 .rintro c f ⟨rfl,z,G,H,y⟩;exact wpS_pure (h f z G H y)
def gallop':Bool->Keyed->Array Keyed->Nat->Nat->Nat->StateT SortSt Sem (S8):=sortPriv% PySem.Builtin.gallop
def oi(left:Bool)(key:Keyed)(arr:Array Keyed)(base i:Nat):StateT SortSt Sem (Option Bool):=do
 let x <-elem' arr (base+i)
 if left then lt' x key else return (<-lt' key x).map (!·)
def vV(left:Bool)(key:Keyed)(arr:Array Keyed)(base n a:Nat):gallop' left key arr base n a=(do
  let mut la:=0
  let mut of:=1
  let mut lo:=0
  let mut hi:=0
  let J rt <-oi left key arr base a|return Y
  if rt then
   let f:=n-a
   for _ in [0:n] do
    if of>=f then break
    let J q <-oi left key arr base (a+of)|return Y
    if !q then break
    la:=of
    of:=2*of+1
   lo:=a+la+1
   hi:=a+min of f
  else
   let f:=a+1
   for _ in [0:n] do
    if of>=f then break
    let J q <-oi left key arr base (a-of)|return Y
    if q then break
    la:=of
    of:=2*of+1
   lo:=a+1-min of f
   hi:=a-la
  for _ in [0:n] do
   if lo>=hi then break
   let m:=lo+(hi-lo)/2
   let J q <-oi left key arr base m|return Y
   if q then lo:=m+1 else hi:=m
  return J hi):=rfl
def h_(C:vo prog w A E s kd O)(left:Bool)(key:Keyed)(arr:Array Keyed)(i:Nat):Bool:=if left then O.blt (kk C arr i) (C.key key)else !O.blt (C.key key) (kk C arr i)
def ku(l:kindOf st=kd)(j:cK C arr)(a:C.good key)(u:base+i<arr.size)(h:Q (J (h_ C left key arr (base+i))) st):wpS (model prog w) A E s (oi left key arr base i) Q st:=by
 refine wpS_bind (aU u λx f=>?_);unfold h_ at h;rw[aO f]at h
 cases left with
 |true =>
  exact C.ask x key st Q (bw j f) a l h
 |false =>
  exact wpS_bind (C.ask key x st _ a (bw j f) l (wpS_pure h))
def Ld(left:Bool)(key:Keyed)(arr:Array Keyed)(base n lo a:Nat):StateT SortSt Sem DS :=
 forIn [:n] ((Y,lo,a):DS) λ_ c =>
  if c.2.1>=c.2.2 then pure (ForInStep.done (Y,c.2.1,c.2.2))
  else do
   let q <-oi left key arr base (c.2.1+(c.2.2-c.2.1)/2)
   match q with
   |some q=>if q=I then pure (ForInStep.yield (Y,c.2.1+(c.2.2-c.2.1)/2+1,c.2.2))else pure (ForInStep.yield (Y,c.2.1,c.2.1+(c.2.2-c.2.1)/2))
   |_=>pure (ForInStep.done (J Y,c.2.1,c.2.2))
section
variable{left:Bool}{key:Keyed}{arr:Array Keyed}{base n:Nat}
def gE(u:base+n<=arr.size)(f:tr C arr base (base+n)):∀i j,i<=j->j<n->h_ C left key arr (base+j)=I->h_ C left key arr (base+i)=I:=by
 intro i j l y;have a:=f (base+i) (base+j) ⋯ ⋯ ⋯;unfold h_
 cases left with
 |true=>exact λq=>KeyOrd.klt_of_kle_of_klt a q
 |false =>
  simp only[n_,if_false,Fa];exact λq=>KeyOrd.kle_trans a q
def jg(u:base+n<=arr.size)(z:tr C arr base (base+n)):∀i j,i<=j->j<n->h_ C left key arr (base+i)=T->h_ C left key arr (base+j)=T:=by
 intro i j f y l
 cases a:h_ C left key arr (base+j) with
 |false=>rfl
 |true=>rw[gE u z i j f y a]at l;cases l
def qO{lo hi:Nat}{Q:DS->SortSt->Prop}(X:kindOf st=kd)(Z:cK C arr)(y:C.good key)(R:base+n<=arr.size)(W:tr C arr base (base+n))(P:lo<=hi)(S:hi<=n)(h1:∀i,i<lo->h_ C left key arr (base+i)=I)(h2:∀i,hi<=i->i<n->h_ C left key arr (base+i)=T)(h:∀k,k<=n->(∀i,i<k->h_ C left key arr (base+i)=I)->(∀i,k<=i->i<n->h_ C left key arr (base+i)=T)->Q (Y,k,k) st):
  wpS (model prog w) A E s (Ld left key arr base n lo hi) Q st:=by
 refine wpS_forRange (I:=λx c u=>u=st/\∃l r,c=(Y,l,r)/\l<=r/\r<=n/\r-l<=n-x/\(∀i,i<l->h_ C left key arr (base+i)=I)/\∀i,r<=i->i<n->h_ C left key arr (base+i)=T)
  ?_ ?_ ⟨rfl,lo,hi,rfl,P,S,⋯,h1,h2⟩
 .rintro x c u _ hx ⟨rfl,l,r,rfl,z,f,B,F,G⟩;by_cases j:l>=r
  .rw[b_ j];have e:l=r:=by lia
   subst e;exact wpS_pure (h l f F G)
  .rw[c_ j];have⟨M,H⟩:=GQ j;have L:=q0 H f;dsimp only;generalize l+(r-l)/2=m at *;refine wpS_bind (ku X Z y (q0 (Nb L _) R) ?_)
   cases U:h_ C left key arr (base+m) with
   |true =>
    simp only[if_true];exact wpS_pure ⟨rfl,_,_,rfl,H,f,Ru M B,λi hi=>gE R W i m (Fc hi) L U,G⟩
   |false =>
    simp only[n_,if_false];exact wpS_pure ⟨rfl,_,_,rfl,M,vu L,Rt M H B,F,λi a b=>jg R W m i a b U⟩
 .rintro c u ⟨rfl,l,r,rfl,z,f,B,F,G⟩;have e:=Rv z B;subst e;exact h l f F G
def NL{x of:Nat}(h:x+1<=of):of<2*of+1/\x+1+1<=2*of+1:=by lia
def Rw{f of h n:Nat}(a:f<of)(b:h+f<n):h+f+1<=h+min of (n-h)/\h+min of (n-h)<=n :=
 ⟨Nat.add_le_add_left (Nat.le_min.2 ⟨a,Re b⟩) h,mh (Nat.add_le_add_left (Nat.min_le_right ..) h) (Nk (Em (vu (JO (Jk ..) b))))⟩
def Jx{f of h:Nat}(a:f<of)(b:f<=h):h+1-min of (h+1)<=h-f :=
 Nat.add_sub_add_right h 1 f▸Na (Nat.le_min.2 ⟨a,Fe b⟩) (h+1)
def dL{f:Nat}{Q:S8->SortSt->Prop}(S:kindOf st=kd)(U:cK C arr)(y:C.good key)(H:base+n<=arr.size)(W:f<n)(P:tr C arr base (base+n))(h:∀k,k<=n->(∀i,i<k->h_ C left key arr (base+i)=I)->(∀i,k<=i->i<n->h_ C left key arr (base+i)=T)->Q (J k) st):
  wpS (model prog w) A E s (gallop' left key arr base n f) Q st:=by
 rw[vV];refine wpS_bind (ku S U y ⋯ ?_)
 cases hz:h_ C left key arr (base+f) with
 |true =>
  refine wpS_bind (wpS_mono (wpS_forRange (I:=λx c l=>l=st/\∃j of,c=(Y,j,of)/\j<of/\x+1<=of/\f+j<n/\h_ C left key arr (base+(f+j))=I)
   (Q:=λc l=>l=st/\∃j of,c=(Y,j,of)/\j<of/\f+j<n/\h_ C left key arr (base+(f+j))=I/\(n-f<=of\/of<n-f/\h_ C left key arr (base+(f+of))=T)) ?_ ?_
    ⟨rfl,0,1,rfl,⋯,⋯,W,hz⟩) ?_)
  .rintro x c l _ hx ⟨rfl,j,of,rfl,B,L,z,F⟩;dsimp only;by_cases u:of>=n-f
   .rw[b_ u];exact wpS_pure ⟨rfl,j,of,rfl,B,z,F,.inl u⟩
   .rw[c_ u];have X:=Nat.add_lt_of_lt_sub' (Op u);have⟨o1,Z⟩:=NL L;refine wpS_bind (ku S U y (q0 (Nb X _) H) ?_)
    cases R:h_ C left key arr (base+(f+of)) with
    |true =>
     simp only[B3,n_,if_false];exact wpS_pure ⟨rfl,_,_,rfl,o1,Z,X,R⟩
    |false =>
     simp only[Nj,if_true];exact wpS_pure ⟨rfl,j,of,rfl,B,z,F,.inr ⟨Op u,R⟩⟩
  .rintro c l ⟨rfl,j,of,rfl,B,L,z,F⟩;exact⟨rfl,j,of,rfl,B,z,F,.inl (mh (BV ..) (Jd L))⟩
  .rintro c l ⟨rfl,j,of,rfl,B,z,F,G⟩;dsimp only;refine wpS_bind (qO (lo:=f+j+1) (hi:=f+min of (n-f)) S U y H P (Rw B z).1 (Rw B z).2 (λi M=>gE H P i (f+j) (Fc M) z F) (λi a b=>?_) λk a b c=>wpS_pure (h k a b c));rcases G with G|⟨G,h6⟩
   .rw[Nf G]at a;lia
   .rw[Fg (vu G)]at a;exact jg H P (f+of) i a b h6
 |false =>
  simp only[n_,if_false]
  refine wpS_bind (wpS_mono (wpS_forRange (I:=λx c l=>l=st/\∃j of,c=(Y,j,of)/\j<of/\x+1<=of/\j<=f/\h_ C left key arr (base+(f-j))=T)
   (Q:=λc l=>l=st/\∃j of,c=(Y,j,of)/\j<of/\j<=f/\h_ C left key arr (base+(f-j))=T/\(f+1<=of\/of<f+1/\h_ C left key arr (base+(f-of))=I)) ?_ ?_
    ⟨rfl,0,1,rfl,⋯,⋯,⋯,hz⟩) ?_)
  .rintro x c l _ hx ⟨rfl,j,of,rfl,B,L,z,F⟩;dsimp only;by_cases u:of>=f+1
   .rw[b_ u];exact wpS_pure ⟨rfl,j,of,rfl,B,z,F,.inl u⟩
   .rw[c_ u];have⟨o1,Z⟩:=NL L;have X:=Op u;refine wpS_bind (ku S U y (q0 (Nb (JO (BV ..) W) _) H) ?_)
    cases R:h_ C left key arr (base+(f-of)) with
    |true =>
     simp only[if_true];exact wpS_pure ⟨rfl,j,of,rfl,B,z,F,.inr ⟨X,R⟩⟩
    |false =>
     simp only[n_,if_false];exact wpS_pure ⟨rfl,_,_,rfl,o1,Z,Fc X,R⟩
  .rintro c l ⟨rfl,j,of,rfl,B,L,z,F⟩;exact⟨rfl,j,of,rfl,B,z,F,.inl (mh (Fe (vu W)) L)⟩
  .rintro c l ⟨rfl,j,of,rfl,B,z,F,G⟩;dsimp only;refine wpS_bind (qO (lo:=f+1-min of (f+1)) (hi:=f-j) S U y H P (Jx B z) (mh (BV ..) (vu W)) (λi M=>?_) (λi a b=>jg H P (f-j) i a b F) λk a b c=>wpS_pure (h k a b c));rcases G with G|⟨G,h6⟩
   .rw[Nf G,Nat.sub_self]at M
    nomatch M
   .rw[Fg (vu G),Nat.succ_sub (Fc G)]at M;exact gE H P i (f-of) (Fc M) (JO (BV ..) W) h6
end
end
def lJ:Array Keyed->Array Keyed->StateT SortSt Sem (Array Keyed):=sortPriv% PySem.Builtin.mergeLo
def Di:Nat->StateT SortSt Sem Unit:=sortPriv% PySem.Builtin.setMinGallop
section
variable{prog:Program}{w:World}{A:Around}{E:S5}{s:Shared}{kd:SortKind}{O:KeyOrd}(C:vo prog w A E s kd O)
def LS(l:List Keyed):Prop:=l.Pairwise λx y=>O.kle (C.key x) (C.key y)
def LB(l m:List Keyed):Prop:=∀x∈l,∀y∈m,O.kle (C.key x) (C.key y)
variable{C}
def cq(i:LS C l)(a:LS C m)(f:LB C l m):LS C (l++m):=by unfold LS;rw[List.pairwise_append];exact⟨i,a,f⟩
def mI{xs:Array Keyed}{lo hi:Nat}(u:hi<=xs.size)(h:tr C xs lo hi):LS C (xs.extract lo hi).toList:=by
 unfold LS;rw[Jc];intro i j l a z;have f:(xs.extract lo hi).size=hi-lo:=by simp;lia
 have y:j<(xs.extract lo hi).size:=by exact a
 have e1:(xs.extract lo hi).toList[i]=xs[lo+i]'⋯:=by simp
 have e2:(xs.extract lo hi).toList[j]=xs[lo+j]'⋯:=by simp
 rw[e1,e2]
 have:=h (lo+i) (lo+j) ⋯ ⋯ ⋯
 rw[aO (getElem?_pos xs (lo+i) ⋯),aO (getElem?_pos xs (lo+j) ⋯)]at this;exact this
def ko(h:LS C xs.toList):tr C xs 0 xs.size:=by
 intro i j _ f a;rw[aO (getElem?_pos xs i ⋯),aO (getElem?_pos xs j a)];by_cases e:i=j
 .subst e;exact KeyOrd.kle_refl _
 .unfold LS at h;rw[Jc]at h
  have:=h i j (by simp;lia) (by simpa using a) ⋯
  simpa using this
structure MI(C:vo prog w A E s kd O)(a b ou:Array Keyed)(i j:Nat):Prop where
 perm:(ou.toList++(a.toList.drop i++b.toList.drop j)).Perm (a.toList++b.toList)
 srt:LS C ou.toList
 low:LB C ou.toList (a.toList.drop i++b.toList.drop j)
variable{a b ou:Array Keyed}{i j:Nat}
def MI.size(m:MI C a b ou i j)(f:i<=a.size)(l:j<=b.size):ou.size+(a.size-i)+(b.size-j)=a.size+b.size:=by
 have:=m.perm.length_eq
 simp at this;lia
def iO{xs:Array Keyed}{i:Nat}{p:Keyed}(h:xs[i]?=J p):xs.toList.drop i=p::xs.toList.drop (i+1):=by
 have f:i<xs.toList.length:=by
  have:=(Jb.mp h).1
  simpa using this
 have e:xs.toList[i]=p:=by
  have:=(Jb.mp h).2
  simpa using this
 rw[<-e,Q9 f]
def iI{xs:Array Keyed}(h:LS C xs.toList)(i:Nat):LS C (xs.toList.drop i):=h.sublist (List.drop_sublist i _)
def iM{xs:Array Keyed}(h:LS C xs.toList){i:Nat}{p:Keyed}(u:xs[i]?=J p):∀y∈xs.toList.drop i,O.kle (C.key p) (C.key y):=by
 have f:=iI h i;rw[iO u]at f ⊢;unfold LS at f;rw[Bl]at f;intro y l;rcases j_.mp l with rfl|l
 .exact KeyOrd.kle_refl _
 .exact f.1 y l
def MI.pushA(m:MI C a b ou i j)(G:LS C a.toList)(H:LS C b.toList){p:Keyed}(F:a[i]?=J p)(L:∀q,b[j]?=J q->O.kle (C.key p) (C.key q)):MI C a b (ou.push p) (i+1) j:=by
 have hd:=iO F;have B:∀y∈a.toList.drop i++b.toList.drop j,O.kle (C.key p) (C.key y):=by
  intro y f;rcases nw.mp f with f|f
  .exact iM G F y f
  .cases u:b[j]? with
   |none =>
    have:b.toList.drop j=[]:=JI (by have:=Oa.mp u;simpa using this)
    rw[this]at f;cases f
   |some q=>exact KeyOrd.kle_trans (L q u) (iM H u y f)
 refine⟨?_,?_,?_⟩
 .have:=m.perm
  rw[hd]at this;rw[B0,BU];exact this
 .rw[B0];refine cq m.srt (by unfold LS;simp) λx l y f=>?_
  have:y=p:=by simpa using f
  subst this;exact m.low x l y (vK _ (by rw[hd];exact mu))
 .intro x l y f;rw[B0]at l;have z:y∈a.toList.drop i++b.toList.drop j:=by
   simp_all
  rcases nw.mp l with l|l
  .exact m.low x l y z
  .have:x=p:=by simpa using l
   subst this;exact B y z
def MI.pushB(m:MI C a b ou i j)(G:LS C a.toList)(H:LS C b.toList){p:Keyed}(F:b[j]?=J p)(L:∀q,a[i]?=J q->O.kle (C.key p) (C.key q)):MI C a b (ou.push p) i (j+1):=by
 have hd:=iO F;have B:∀y∈a.toList.drop i++b.toList.drop j,O.kle (C.key p) (C.key y):=by
  intro y f;rcases nw.mp f with f|f
  .cases u:a[i]? with
   |none =>
    have:a.toList.drop i=[]:=JI (by have:=Oa.mp u;simpa using this)
    rw[this]at f;cases f
   |some q=>exact KeyOrd.kle_trans (L q u) (iM G u y f)
  .exact iM H F y f
 refine⟨?_,?_,?_⟩
 .have:=m.perm
  rw[hd]at this;rw[B0,BU];refine List.Perm.trans (List.Perm.append_left _ ?_) this;show(p::(a.toList.drop i++b.toList.drop (j+1))).Perm _;exact Ji.symm
 .rw[B0];refine cq m.srt (by unfold LS;simp) λx l y f=>?_
  have:y=p:=by simpa using f
  subst this;exact m.low x l y (pu _ (by rw[hd];exact mu))
 .intro x l y f;rw[B0]at l;have z:y∈a.toList.drop i++b.toList.drop j:=by
   rcases nw.mp f with f|f
   .exact vK _ f
   .exact pu _ (by rw[hd];exact nt _ f)
  rcases nw.mp l with l|l
  .exact m.low x l y z
  .have:x=p:=by simpa using l
   subst this;exact B y z
def jJ{xs:Array Keyed}{i k:Nat}{p:Keyed}(h:xs[i+k]?=J p):xs.extract i (i+(k+1))=(xs.extract i (i+k)).push p:=by
 apply Bu.mp;simp only[M_,B0,Od];have e1:i+(k+1)-i=k+1:=by lia
 have e2:i+k-i=k:=by lia
 rw[e1,e2,Fj,Nc,v_,h];rfl
def MI.moveA(m:MI C a b ou i j)(y:LS C a.toList)(B:LS C b.toList):∀k,i+k<=a.size->(∀r p q,r<k->a[i+r]?=J p->b[j]?=J q->O.kle (C.key p) (C.key q))->MI C a b (ou++a.extract i (i+k)) (i+k) j:=by
 intro k
 induction k with
 |zero =>
  intro _ _;have e:ou++a.extract i (i+0)=ou:=by apply Bu.mp;simp
  rw[e];exact m
 |succ k z =>
  intro H u;have f:=getElem?_pos a (i+k) ⋯;have F:=(z ⋯ λr p q G=>u r p q ⋯).pushA y B f (λq l=>u k _ q ⋯ f l);have e:ou++(a.extract i (i+k)).push (a[i+k]'⋯)=(ou++a.extract i (i+k)).push (a[i+k]'⋯):=by simp
  rw[jJ f,e];exact F
def MI.moveB(m:MI C a b ou i j)(y:LS C a.toList)(B:LS C b.toList):∀k,j+k<=b.size->(∀r p q,r<k->b[j+r]?=J p->a[i]?=J q->O.kle (C.key p) (C.key q))->MI C a b (ou++b.extract j (j+k)) i (j+k):=by
 intro k
 induction k with
 |zero =>
  intro _ _;have e:ou++b.extract j (j+0)=ou:=by apply Bu.mp;simp
  rw[e];exact m
 |succ k z =>
  intro H u;have f:=getElem?_pos b (j+k) ⋯;have F:=(z ⋯ λr p q G=>u r p q ⋯).pushB y B f (λq l=>u k _ q ⋯ f l);have e:ou++(b.extract j (j+k)).push (b[j+k]'⋯)=(ou++b.extract j (j+k)).push (b[j+k]'⋯):=by simp
  rw[jJ f,e];exact F
def MR(C:vo prog w A E s kd O)(a b f:Array Keyed):Prop:=f.toList.Perm (a.toList++b.toList)/\LS C f.toList
def hX{xs:Array Keyed}{i:Nat}:(xs.extract i xs.size).toList=xs.toList.drop i:=by rw[M_];exact E6 (by simp)
def MI.all(m:MI C a b ou i j)(f:LS C a.toList)(l:LS C b.toList)(h:a.size<=i\/b.size<=j):MR C a b (ou++a.extract i a.size++b.extract j b.size):=by
 have e:(ou++a.extract i a.size++b.extract j b.size).toList=ou.toList++(a.toList.drop i++b.toList.drop j):=by rw[E7,E7,hX,hX,BU]
 unfold MR;rw[e];refine⟨m.perm,cq m.srt ?_ m.low⟩;rcases h with h|h
 .have:a.toList.drop i=[]:=JI (by simpa using h)
  rw[this];exact iI l j
 .have:b.toList.drop j=[]:=JI (by simpa using h)
  rw[this,En];exact iI f i
def MI.one(m:MI C a b ou i j)(B:LS C a.toList)(F:LS C b.toList)(h:i+1=a.size)(G:∀x q,x∈b.toList->a[i]?=J q->O.kle (C.key x) (C.key q)):MR C a b (ou++b.extract j b.size++a.extract i a.size):=by
 have e:(ou++b.extract j b.size++a.extract i a.size).toList=ou.toList++(b.toList.drop j++a.toList.drop i):=by rw[E7,E7,hX,hX,BU]
 unfold MR;rw[e];have z:=getElem?_pos a i ⋯;have hd:=iO z;have f:a.toList.drop (i+1)=[]:=JI (by simp;lia);rw[f]at hd;refine⟨(List.Perm.append_left _ Rf).trans m.perm,cq m.srt (cq (iI F j) (iI B i) ?_) ?_⟩
 .intro x u y l;rw[hd]at l
  have:y=a[i]'⋯:=by simpa using l
  subst this;exact G x _ (Oj u) z
 .intro x u y l;exact m.low x u y (nw.mpr (nw.mp l).symm)
end
structure Eqv(st st':SortSt):Prop where
 kind:kindOf st'=kindOf st
 arr:arrOf st'=arrOf st
 pend:pendingOf st'=pendingOf st
 failed:failedOf st'=failedOf st
def Eqv.rfl'{st:SortSt}:Eqv st st:=⟨rfl,rfl,rfl,rfl⟩
def Eqv.trans{st a f:SortSt}(x:Eqv st a)(y:Eqv a f):Eqv st f:=⟨y.kind.trans x.kind,y.arr.trans x.arr,y.pend.trans x.pend,y.failed.trans x.failed⟩
abbrev GS:=Option (Array Keyed)×Array Keyed×Nat×Nat×Nat×Nat×Nat
def GR(a b f:Array Keyed)(i j g na nb:Nat):StateT SortSt Sem (ForInStep GS):=do
 let x <-elem' a i
 if(i+1+1==a.size)=I then pure (ForInStep.done (J (f.push x++b.extract j b.size++a.extract (i+1) a.size),f.push x,i+1,j,g,na,nb))
 else if(decide (na<7)&&decide (nb<7))=I then pure (ForInStep.done (Y,f.push x,i+1,j,g,na,nb))
 else pure (ForInStep.yield (Y,f.push x,i+1,j,g,na,nb))
def GU(a b f:Array Keyed)(i j g na nb:Nat):StateT SortSt Sem (ForInStep GS):=do
 let x <-elem' b j
 if(j+1==b.size)=I then pure (ForInStep.done (J (f.push x++a.extract i a.size++b.extract (j+1) b.size),f.push x,i,j+1,g,na,nb))
 else do
  let y <-elem' a i
  let q <-gallop' I y b (j+1) (b.size-(j+1)) 0
  match q with
  |some k =>
   if k>0 then
    if(j+1+k==b.size)=I then
     pure (ForInStep.done (J (f.push x++b.extract (j+1) (j+1+k)++a.extract i a.size++b.extract (j+1+k) b.size),f.push x++b.extract (j+1) (j+1+k),i,j+1+k,g,na,k))
    else GR a b (f.push x++b.extract (j+1) (j+1+k)) i (j+1+k) g na k
   else GR a b (f.push x) i (j+1) g na k
  |_=>pure (ForInStep.done (J (f.push x++a.extract i a.size++b.extract (j+1) b.size),f.push x,i,j+1,g,na,nb))
def Dj(a b f:Array Keyed)(i j g na nb:Nat):StateT SortSt Sem (ForInStep GS):=do
 Di g
 let x <-elem' b j
 let q <-gallop' T x a i (a.size-i) 0
 match q with
 |some k =>
  if k>0 then
   if(i+k+1==a.size)=I then
    pure (ForInStep.done (J (f++a.extract i (i+k)++b.extract j b.size++a.extract (i+k) a.size),f++a.extract i (i+k),i+k,j,g,k,nb))
   else if(i+k==a.size)=I then
    pure (ForInStep.done (J (f++a.extract i (i+k)++a.extract (i+k) a.size++b.extract j b.size),f++a.extract i (i+k),i+k,j,g,k,nb))
   else GU a b (f++a.extract i (i+k)) (i+k) j g k nb
  else GU a b f i j g k nb
 |_=>pure (ForInStep.done (J (f++a.extract i a.size++b.extract j b.size),f,i,j,g,na,nb))
abbrev Jy:=Option (Array Keyed)×Array Keyed×Nat×Nat×Nat×Nat
abbrev LCt:=Option (Array Keyed)×Array Keyed×Nat×Nat×Nat
def Pz(a b:Array Keyed)(g:Nat)(c:Jy):StateT SortSt Sem (ForInStep Jy):=do
 let x <-elem' b c.2.2.2.1
 let y <-elem' a c.2.2.1
 let q <-lt' x y
 match q with
 |some q =>
  if q=I then do
   let z <-elem' b c.2.2.2.1
   if(c.2.2.2.1+1==b.size)=I then pure (ForInStep.done (J (c.2.1.push z++a.extract c.2.2.1 a.size++b.extract (c.2.2.2.1+1) b.size),c.2.1.push z,c.2.2.1,c.2.2.2.1+1,0,c.2.2.2.2.2+1))
   else if c.2.2.2.2.2+1>=g then pure (ForInStep.done (Y,c.2.1.push z,c.2.2.1,c.2.2.2.1+1,0,c.2.2.2.2.2+1))
   else pure (ForInStep.yield (Y,c.2.1.push z,c.2.2.1,c.2.2.2.1+1,0,c.2.2.2.2.2+1))
  else do
   let z <-elem' a c.2.2.1
   if(c.2.2.1+1+1==a.size)=I then pure (ForInStep.done (J (c.2.1.push z++b.extract c.2.2.2.1 b.size++a.extract (c.2.2.1+1) a.size),c.2.1.push z,c.2.2.1+1,c.2.2.2.1,c.2.2.2.2.1+1,0))
   else if c.2.2.2.2.1+1>=g then pure (ForInStep.done (Y,c.2.1.push z,c.2.2.1+1,c.2.2.2.1,c.2.2.2.2.1+1,0))
   else pure (ForInStep.yield (Y,c.2.1.push z,c.2.2.1+1,c.2.2.2.1,c.2.2.2.2.1+1,0))
 |_=>pure (ForInStep.done (J (c.2.1++a.extract c.2.2.1 a.size++b.extract c.2.2.2.1 b.size),c.2.1,c.2.2.1,c.2.2.2.1,c.2.2.2.2.1,c.2.2.2.2.2))
def PC(a b:Array Keyed)(c:GS):StateT SortSt Sem (ForInStep GS) :=
 if c.2.2.2.2.1>1 then Dj a b c.2.1 c.2.2.1 c.2.2.2.1 (c.2.2.2.2.1-1) c.2.2.2.2.2.1 c.2.2.2.2.2.2
 else Dj a b c.2.1 c.2.2.1 c.2.2.2.1 c.2.2.2.2.1 c.2.2.2.2.2.1 c.2.2.2.2.2.2
def Rx(c:GS):StateT SortSt Sem (ForInStep LCt) :=
 match c.1 with
 |some r=>pure (ForInStep.done (J r,c.2.1,c.2.2.1,c.2.2.2.1,c.2.2.2.2.1))
 |none=>do
  Di (c.2.2.2.2.1+1)
  pure (ForInStep.yield (Y,c.2.1,c.2.2.1,c.2.2.2.1,c.2.2.2.2.1+1))
def Ry(a b:Array Keyed)(g:Nat)(c:Jy):StateT SortSt Sem (ForInStep LCt) :=
 match c.1 with
 |some r=>pure (ForInStep.done (J r,c.2.1,c.2.2.1,c.2.2.2.1,g))
 |none=>do
  liftM (rule "list.sort.gallop")
  let e <-forIn [:a.size+b.size] ((Y,c.2.1,c.2.2.1,c.2.2.2.1,g+1,c.2.2.2.2.1,c.2.2.2.2.2):GS) λ_ e=>PC a b e
  Rx e
def Rz(a b:Array Keyed)(c:LCt):StateT SortSt Sem (ForInStep LCt):=do
 let d <-forIn [:a.size+b.size] ((Y,c.2.1,c.2.2.1,c.2.2.2.1,0,0):Jy) λ_ d=>Pz a b c.2.2.2.2 d
 Ry a b c.2.2.2.2 d
def RB(a b:Array Keyed)(x:Keyed):StateT SortSt Sem (Array Keyed):=do
 let g <-get
 let r <-forIn [:a.size+b.size] ((Y,#[x],0,1,gallopOf g):LCt) λ_ c=>Rz a b c
 match r.1 with
 |some r=>pure r
 |none=>liftM (unsupported "internal:list.sort.merge-bound":Sem (Array Keyed))
def PD(a b:Array Keyed):lJ a b=(do
 liftM (rule "list.sort.merge-lo")
 let x <-elem' b 0
 if(1==b.size)=I then pure (#[x]++a.extract 0 a.size++b.extract 1 b.size)
 else if(0+1==a.size)=I then pure (#[x]++b.extract 1 b.size++a.extract 0 a.size)
 else RB a b x):=by
 refine congrArg (Bind.bind _) (funext λ_=>congrArg (Bind.bind _) (funext λx=>congrArg (λz=>ite _ _ (ite _ _ z)) ?_));have e:∀{α β:Type}{x y:StateT SortSt Sem α}{f h:α->StateT SortSt Sem β},x=y->(∀a,f a=h a)->(x >>= f)=(y >>= h):=λe f=>by rw[e,funext f]
 refine congrArg (Bind.bind _) (funext λg=>e (congrArg (forIn _ _) (funext λ_=>funext λc=>?_)) λ⟨r,_⟩=>by cases r<;>rfl);refine e rfl λd=>?_;obtain⟨i,j⟩:=d
 cases i with
 |some r=>rfl
 |none=>exact congrArg (Bind.bind _) (funext λ_=>e rfl λ⟨r,_⟩=>by cases r<;>rfl)
section
variable{prog:Program}{w:World}{A:Around}{E:S5}{s:Shared}{kd:SortKind}{O:KeyOrd}{C:vo prog w A E s kd O}{st:SortSt}{a b:Array Keyed}
structure zG(C:vo prog w A E s kd O)(a b:Array Keyed):Prop where
 ga:cK C a
 gb:cK C b
 sa:LS C a.toList
 sb:LS C b.toList
 na:1<=a.size
 nb:1<=b.size
 fst:∀p q,b[0]?=J p->a[0]?=J q->O.kle (C.key p) (C.key q)
 lst:∀x q,x∈b.toList->a[a.size-1]?=J q->O.kle (C.key x) (C.key q)
def LI(C:vo prog w A E s kd O)(a b:Array Keyed)(N:Nat)(c:GS):Prop:=c.1=Y/\MI C a b c.2.1 c.2.2.1 c.2.2.2.1/\c.2.2.1+1<a.size/\c.2.2.2.1<b.size/\N<=c.2.1.size
def jZ(C:vo prog w A E s kd O)(a b:Array Keyed)(N:Nat)(st:SortSt)(r:ForInStep GS)(f:SortSt):Prop:=Eqv st f/\match r with
 |.done c=>(∃x,c.1=J x/\MR C a b x)\/LI C a b N c
 |.yield c=>LI C a b N c
def uB(f:zG C a b)(m:MI C a b ou i j)(P:i+1<a.size)(H:j<b.size)(hN:N<=ou.size)(u:∀p q,a[i]?=J p->b[j]?=J q->O.kle (C.key p) (C.key q)):
  wpS (model prog w) A E s (GR a b ou i j g na nb) (jZ C a b N st) st:=by
 refine wpS_bind (aU ⋯ λx F=>?_);have G:=m.pushA f.sa f.sb F (λq z=>u x q F z);have L:(ou.push x).size=ou.size+1:=B2 ..;by_cases l:i+1+1=a.size
 .rw[b_ (by simpa using l)];exact wpS_pure ⟨Eqv.rfl',.inl ⟨_,rfl,G.one f.sa f.sb l λy q M z=>f.lst y q M (by rw[<-l];exact z)⟩⟩
 .rw[c_ (by simpa using l)];have B:LI C a b N (Y,ou.push x,i+1,j,g,na,nb):=⟨rfl,G,⋯,H,⋯⟩;split
  .exact wpS_pure ⟨Eqv.rfl',.inr B⟩
  .exact wpS_pure ⟨Eqv.rfl',B⟩
def uz(f:zG C a b)(hk:kindOf st=kd)(m:MI C a b ou i j)(W:i+1<a.size)(Z:j<b.size)(hN:N<=ou.size)(L:∀p q,b[j]?=J p->a[i]?=J q->O.kle (C.key p) (C.key q)):
  wpS (model prog w) A E s (GU a b ou i j g na nb) (jZ C a b N st) st:=by
 refine wpS_bind (aU Z λx S=>?_);have G:=m.pushB f.sa f.sb S (λq u=>L x q S u);have al:(ou.push x).size=ou.size+1:=B2 ..;by_cases X:j+1=b.size
 .rw[b_ (by simpa using X)];exact wpS_pure ⟨Eqv.rfl',.inl ⟨_,rfl,G.all f.sa f.sb (.inr ⋯)⟩⟩
 .rw[c_ (by simpa using X)];refine wpS_bind (aU ⋯ λy H=>?_);refine wpS_bind (dL (C:=C) hk f.gb (bw f.ga H) ⋯ ⋯ ?_ λk am P Q=>?_)
  .intro p q B M u;exact ko f.sb p q (u0 _) M ⋯
  .have z:∀r p q,r<k->b[j+1+r]?=J p->a[i]?=J q->O.kle (C.key p) (C.key q):=λr p q hr B u=>by
    have:=P r hr
    unfold h_ at this;rw[aO B]at this;rw[H]at u;cases u;exact KeyOrd.kle_of_klt this
   have l:∀p q,a[i]?=J p->b[j+1+k]?=J q->O.kle (C.key p) (C.key q):=λp q B u=>by
    have ab:=(Jb.mp u).1
    have:=Q k (iv _) ⋯
    unfold h_ at this;rw[aO u]at this;rw[H]at B;cases B;exact this
   dsimp only;by_cases F:k>0
   .rw[b_ F];have R:=G.moveB f.sa f.sb k ⋯ z;by_cases U:j+1+k=b.size
    .rw[b_ (by simpa using U)];exact wpS_pure ⟨Eqv.rfl',.inl ⟨_,rfl,R.all f.sa f.sb (.inr ⋯)⟩⟩
    .rw[c_ (by simpa using U)];exact uB f R W ⋯ (by rw[JQ];lia) l
   .rw[c_ F];have e:k=0:=by lia
    subst e;exact uB f G W ⋯ ⋯ l
def uI(f:zG C a b)(hk:kindOf st=kd)(m:MI C a b ou i j)(hi:i+1<a.size)(P:j<b.size)(hN:N<=ou.size):
  wpS (model prog w) A E s (Dj a b ou i j g na nb) (jZ C a b N st) st:=by
 unfold Dj;refine wpS_bind (wpS_modify ?_);have ev:Eqv st (SortSt.mk' (kindOf st) (arrOf st) (pendingOf st) g (failedOf st)):=⟨rfl,rfl,rfl,rfl⟩;refine wpS_mono (Q:=jZ C a b N (SortSt.mk' (kindOf st) (arrOf st) (pendingOf st) g (failedOf st))) ?_ λr ab h=>⟨ev.trans h.1,h.2⟩;have z:kindOf (SortSt.mk' (kindOf st) (arrOf st) (pendingOf st) g (failedOf st))=kd:=hk;refine wpS_bind (aU P λx M=>?_);refine wpS_bind (dL (C:=C) z f.ga (bw f.gb M) ⋯ ⋯ ?_ λk al S U=>?_)
 .intro p q F R u;exact ko f.sa p q (u0 _) R ⋯
 .have B:∀r p q,r<k->a[i+r]?=J p->b[j]?=J q->O.kle (C.key p) (C.key q):=λr p q Z F u=>by
   have:=S r Z
   unfold h_ at this;rw[aO F]at this;rw[M]at u;cases u;simp only[n_,if_false,Fa]at this;exact this
  have l:∀p q,b[j]?=J p->a[i+k]?=J q->O.kle (C.key p) (C.key q):=λp q F u=>by
   have X:=(Jb.mp u).1
   have:=U k (iv _) ⋯
   unfold h_ at this;rw[aO u]at this;rw[M]at F;cases F;simp only[n_,if_false,Om]at this;exact KeyOrd.kle_of_klt this
  dsimp only;by_cases G:k>0
  .rw[b_ G];have L:=m.moveA f.sa f.sb k ⋯ B;by_cases H:i+k+1=a.size
   .rw[b_ (by simpa using H)];exact wpS_pure ⟨Eqv.rfl',.inl ⟨_,rfl,L.one f.sa f.sb H λy q hy u=>f.lst y q hy (by rw[<-H];exact u)⟩⟩
   .rw[c_ (by simpa using H)];by_cases W:i+k=a.size
    .rw[b_ (by simpa using W)];exact wpS_pure ⟨Eqv.rfl',.inl ⟨_,rfl,L.all f.sa f.sb (.inl ⋯)⟩⟩
    .rw[c_ (by simpa using W)];exact uz f z L ⋯ P (by rw[JQ];lia) l
  .rw[c_ G];have e:k=0:=by lia
   subst e;exact uz f z m hi P hN l
def Lf(C:vo prog w A E s kd O)(a b:Array Keyed)(N:Nat)(c:Jy):Prop:=c.1=Y/\MI C a b c.2.1 c.2.2.1 c.2.2.2.1/\c.2.2.1+1<a.size/\c.2.2.2.1<b.size/\N<=c.2.1.size
def PF(C:vo prog w A E s kd O)(a b:Array Keyed)(N:Nat)(c:LCt):Prop:=c.1=Y/\MI C a b c.2.1 c.2.2.1 c.2.2.2.1/\c.2.2.1+1<a.size/\c.2.2.2.1<b.size/\N<=c.2.1.size
def PH(C:vo prog w A E s kd O)(a b:Array Keyed)(N:Nat)(st:SortSt)(r:ForInStep Jy)(f:SortSt):Prop:=match r with
 |.done c=>f=st/\((∃x,c.1=J x/\MR C a b x)\/Lf C a b N c)
 |.yield c=>f=st/\Lf C a b N c
def GV(C:vo prog w A E s kd O)(a b:Array Keyed)(N:Nat)(st:SortSt)(r:ForInStep LCt)(f:SortSt):Prop:=match r with
 |.done c=>Eqv st f/\∃x,c.1=J x/\MR C a b x
 |.yield c=>Eqv st f/\PF C a b N c
def GW(f:zG C a b)(L:kindOf st=kd)(M:MI C a b ou' i' j')(G:i'+1<a.size)(u:j'<b.size)(hN:N<=ou'.size):
  wpS (model prog w) A E s (Pz a b g (Y,ou',i',j',na,nb)) (PH C a b (N+1) st) st:=by
 unfold Pz;dsimp only;refine wpS_bind (aU u λp H=>wpS_bind (aU ⋯ λq F=>?_));refine wpS_bind (C.ask p q st _ (bw f.gb H) (bw f.ga F) L ?_)
 cases P:O.blt (C.key p) (C.key q) with
 |true =>
  dsimp only;refine wpS_bind (aU u λQ i=>?_);rw[H]at i;cases i;have z:=M.pushB f.sa f.sb H (λR l=>by rw[F]at l;cases l;exact KeyOrd.kle_of_klt P);have j:(ou'.push p).size=ou'.size+1:=B2 ..;by_cases B:j'+1=b.size
  .rw[b_ (by simpa using B)];exact wpS_pure ⟨rfl,.inl ⟨_,rfl,z.all f.sa f.sb (.inr ⋯)⟩⟩
  .rw[c_ (by simpa using B)];split
   .exact wpS_pure ⟨rfl,.inr ⟨rfl,z,G,⋯,by rw[j];lia⟩⟩
   .exact wpS_pure ⟨rfl,rfl,z,G,⋯,by rw[j];lia⟩
 |false =>
  dsimp only;refine wpS_bind (aU ⋯ λR l=>?_);rw[F]at l;cases l;have z:=M.pushA f.sa f.sb F (λQ i=>by rw[H]at i;cases i;exact P);have j:(ou'.push q).size=ou'.size+1:=B2 ..;by_cases B:i'+1+1=a.size
  .rw[b_ (by simpa using B)];exact wpS_pure ⟨rfl,.inl ⟨_,rfl,z.one f.sa f.sb B λy q S F=>f.lst y q S (by rw[<-B];exact F)⟩⟩
  .rw[c_ (by simpa using B)];split
   .exact wpS_pure ⟨rfl,.inr ⟨rfl,z,⋯,u,by rw[j];lia⟩⟩
   .exact wpS_pure ⟨rfl,rfl,z,⋯,u,by rw[j];lia⟩
def GX(j:Eqv C7 st)(f:(∃x,c.1=J x/\MR C a b x)\/LI C a b N c):wpS (model prog w) A E s (Rx c) (GV C a b N C7) st:=by
 obtain⟨B,z,H,G,F,u,y⟩:=c;rcases f with⟨r,i,l⟩|⟨f,i⟩
 .cases i;exact wpS_pure ⟨j,r,rfl,l⟩
 .cases f;exact wpS_bind (wpS_modify (wpS_pure ⟨j.trans ⟨rfl,rfl,rfl,rfl⟩,rfl,i⟩))
def GY(l:zG C a b)(y:kindOf st=kd)(h:LI C a b N c):wpS (model prog w) A E s (PC a b c) (jZ C a b N st) st:=by
 obtain⟨_,u,f,i,j⟩:=h;unfold PC;split
 .exact uI l y u f i j
 .exact uI l y u f i j
def GZ(u:zG C a b)(H:kindOf st=kd)(B:Eqv C7 st)(l:(∃x,c.1=J x/\MR C a b x)\/Lf C a b N c):wpS (model prog w) A E s (Ry a b g c) (GV C a b N C7) st:=by
 obtain⟨S,L,R,W,na,nb⟩:=c;rcases l with⟨r,j,F⟩|⟨l,j⟩
 .cases j;exact wpS_pure ⟨B,r,rfl,F⟩
 .cases l;refine wpS_bind (wpS_lift (wpAny_rule ⟨rfl,?_⟩));refine wpS_bind (wpS_mono (wpS_forRange (I:=λy c i=>Eqv st i/\LI C a b N c) (Q:=λc i=>Eqv st i/\((∃x,c.1=J x/\MR C a b x)\/LI C a b N c)) ?_ ?_ ⟨Eqv.rfl',rfl,j⟩) ?_)
  .rintro y c i _ U ⟨f,P⟩;refine wpS_mono (GY u (f.kind.trans H) P) λr M j=>?_
   cases r with
   |done G=>exact⟨f.trans j.1,j.2⟩
   |yield G=>exact⟨f.trans j.1,j.2⟩
  .rintro c i ⟨f,z⟩;exact⟨f,.inr z⟩
  .rintro c i ⟨f,l⟩;exact GX (B.trans f) l
def G0(i:zG C a b)(F:kindOf st=kd)(h:PF C a b N c):wpS (model prog w) A E s (Rz a b c) (GV C a b (N+1) st) st:=by
 obtain⟨l,H⟩:=h
 refine wpS_bind (wpS_mono (wpS_forRange (I:=λy c f=>f=st/\Lf C a b (N+y) c)
  (Q:=λc f=>f=st/\((∃x,c.1=J x/\MR C a b x)\/Lf C a b (N+1) c)) ?_ ?_ ⟨rfl,rfl,H⟩) ?_)
 .rintro y c f _ R ⟨rfl,P⟩;obtain⟨l,G,z,B,j⟩:=P;refine wpS_mono (GW i F G z B j) λr M u=>?_
  cases r with
  |done L=>exact⟨u.1,u.2.imp_right λh=>⟨h.1,h.2.1,h.2.2.1,h.2.2.2.1,mh ⋯ h.2.2.2.2⟩⟩
  |yield L=>exact u
 .rintro c f ⟨rfl,h⟩;exact⟨rfl,.inr ⟨h.1,h.2.1,h.2.2.1,h.2.2.2.1,mh ⋯ h.2.2.2.2⟩⟩
 .rintro c f ⟨rfl,l⟩;exact GZ i F Eqv.rfl' l
def G1(u:zG C a b)(F:kindOf st=kd)(y:MI C a b #[x0] 0 1)(G:0+1<a.size)(H:1<b.size)(h:∀x f,Eqv st f->MR C a b x->Q x f):wpS (model prog w) A E s (RB a b x0) Q st:=by
 refine wpS_bind (wpS_get ?_)
 refine wpS_bind (wpS_mono (wpS_forRange (I:=λx c f=>Eqv st f/\PF C a b (x+1) c)
  (Q:=λc f=>Eqv st f/\∃x,c.1=J x/\MR C a b x) ?_ ?_ ⟨Eqv.rfl',rfl,y,G,H,iv _⟩) ?_)
 .rintro x c f _ R ⟨l,j⟩;refine wpS_mono (G0 u (l.kind.trans F) j) λr L i=>?_
  cases r with
  |done B=>exact⟨l.trans i.1,i.2⟩
  |yield B=>exact⟨l.trans i.1,i.2⟩
 .rintro c f ⟨l,j⟩;exfalso;have y:=j.2.2.1;have S:=j.2.2.2.1
  have:=j.2.1.size ⋯ ⋯
  have:=j.2.2.2.2
  lia
 .rintro c f ⟨l,r,i,z⟩;obtain⟨M,P⟩:=c;cases i;exact wpS_pure (h r f l z)
def G2(f:zG C a b)(R:kindOf st=kd)(h:∀x i,Eqv st i->MR C a b x->Q x i):wpS (model prog w) A E s (lJ a b) Q st:=by
 rw[PD];refine wpS_bind (wpS_lift (wpAny_rule ⟨rfl,?_⟩));have M:=f.na;have G:=f.nb;refine wpS_bind (aU ⋯ λB j=>?_);have L:MI C a b #[] 0 0:=⟨by simp,by unfold LS;simp,λx H=>by simp at H⟩;have u:MI C a b #[B] 0 1:=by
  have:=L.pushB f.sa f.sb j (λq z=>f.fst B q j z)
  simpa using this
 by_cases F:1=b.size
 .rw[b_ (by simpa using F)]
  have:=u.all f.sa f.sb (.inr ⋯)
  exact wpS_pure (h _ st Eqv.rfl' (by simpa using this))
 .rw[c_ (by simpa using F)];by_cases l:0+1=a.size
  .rw[b_ (by simpa using l)]
   have:=u.one f.sa f.sb l λy q P z=>f.lst y q P (by rw[<-l];exact z)
   exact wpS_pure (h _ st Eqv.rfl' (by simpa using this))
  .rw[c_ (by simpa using l)];exact G1 f R u ⋯ ⋯ h
end
def AV{m k:Nat}(a:1<=m)(b:m<=k):m-1<k:=q0 (Eo a Fk) b
def AN{m k:Nat}(h:k<m):m-k=m-(k+1)+1:=(Nat.succ_pred_eq_of_pos (Nat.sub_pos_of_lt h)).symm
def NM{m k s:Nat}(h:k<m)(b:m<=s):m-(k+1)<s:=q0 (Eo (Nat.zero_lt_of_lt h) (Nat.succ_pos k)) b
def ly:Array Keyed->Array Keyed->StateT SortSt Sem (Array Keyed):=sortPriv% PySem.Builtin.mergeHi
section
variable{prog:Program}{w:World}{A:Around}{E:S5}{s:Shared}{kd:SortKind}{O:KeyOrd}{C:vo prog w A E s kd O}{a b ou:Array Keyed}{m n:Nat}{st:SortSt}
structure HI(C:vo prog w A E s kd O)(a b ou:Array Keyed)(m n:Nat):Prop where
 perm:(a.toList.take m++b.toList.take n++ou.toList.reverse).Perm (a.toList++b.toList)
 srt:LS C ou.toList.reverse
 hgh:LB C (a.toList.take m++b.toList.take n) ou.toList.reverse
def HI.size(h:HI C a b ou m n)(i:m<=a.size)(f:n<=b.size):ou.size+m+n=a.size+b.size:=by
 have:=h.perm.length_eq
 simp at this;lia
def kw{xs:Array Keyed}{i:Nat}{p:Keyed}(h:xs[i]?=J p):xs.toList.take (i+1)=xs.toList.take i++[p]:=by rw[Fj,v_,h];rfl
def iN{xs:Array Keyed}(h:LS C xs.toList)(i:Nat):LS C (xs.toList.take i):=h.sublist (Oo i _)
def kS{xs:Array Keyed}(h:LS C xs.toList){i:Nat}{p:Keyed}(l:xs[i]?=J p):∀y∈xs.toList.take (i+1),O.kle (C.key y) (C.key p):=by
 have j:=iN h (i+1);rw[kw l]at j ⊢;unfold LS at j;rw[List.pairwise_append]at j;intro y f;rcases nw.mp f with f|f
 .exact j.2.2 y f p (by simp)
 .have:y=p:=by simpa using f
  subst this;exact KeyOrd.kle_refl _
def gW(p:Keyed):(ou.push p).toList.reverse=p::ou.toList.reverse:=by simp
def HI.pushA(h:HI C a b ou (m+1) n)(F:LS C a.toList)(G:LS C b.toList){p:Keyed}(z:a[m]?=J p)(B:1<=n)(l:n<=b.size)(H:∀q,b[n-1]?=J q->O.kle (C.key q) (C.key p)):HI C a b (ou.push p) m n:=by
 have hd:=kw z;obtain⟨q,j⟩:∃q,b[n-1]?=J q:=⟨_,getElem?_pos b (n-1) (AV B l)⟩;have u:∀y∈a.toList.take m++b.toList.take n,O.kle (C.key y) (C.key p):=by
  intro y f;rcases nw.mp f with f|f
  .exact kS F z y (by rw[hd];exact vK _ f)
  .refine KeyOrd.kle_trans (kS G j y ?_) (H q j);rw[E_ B];exact f
 refine⟨?_,?_,?_⟩
 .have:=h.perm
  rw[hd]at this;rw[gW];refine List.Perm.trans ?_ this;have e1:(a.toList.take m++b.toList.take n++p::ou.toList.reverse).Perm (p::(a.toList.take m++b.toList.take n++ou.toList.reverse)):=Ji;have e2:(a.toList.take m++[p]++b.toList.take n++ou.toList.reverse).Perm (p::(a.toList.take m++b.toList.take n++ou.toList.reverse)):=by simp_all
  exact e1.trans e2.symm
 .rw[gW];unfold LS;rw[Bl];refine⟨λy f=>h.hgh p (vK _ (by rw[hd];simp)) y f,h.srt⟩
 .rw[gW];intro x i y f;rcases j_.mp f with rfl|f
  .exact u x i
  .refine h.hgh x ?_ y f;rcases nw.mp i with i|i
   .exact vK _ (by rw[hd];exact vK _ i)
   .exact pu _ i
def HI.pushB(h:HI C a b ou m (n+1))(F:LS C a.toList)(G:LS C b.toList){p:Keyed}(B:b[n]?=J p)(z:1<=m)(l:m<=a.size)(H:∀q,a[m-1]?=J q->O.kle (C.key q) (C.key p)):HI C a b (ou.push p) m n:=by
 have hd:=kw B;obtain⟨q,j⟩:∃q,a[m-1]?=J q:=⟨_,getElem?_pos a (m-1) (AV z l)⟩;have u:∀y∈a.toList.take m++b.toList.take n,O.kle (C.key y) (C.key p):=by
  intro y f;rcases nw.mp f with f|f
  .refine KeyOrd.kle_trans (kS F j y ?_) (H q j);rw[E_ z];exact f
  .exact kS G B y (by rw[hd];exact vK _ f)
 refine⟨?_,?_,?_⟩
 .have:=h.perm
  simp_all
 .rw[gW];unfold LS;rw[Bl];refine⟨λy f=>h.hgh p (pu _ (by rw[hd];simp)) y f,h.srt⟩
 .rw[gW];intro x i y f;rcases j_.mp f with rfl|f
  .exact u x i
  .refine h.hgh x ?_ y f;rcases nw.mp i with i|i
   .exact vK _ i
   .exact pu _ (by rw[hd];exact vK _ i)
def qZ{xs:Array Keyed}{m k:Nat}{p:Keyed}(f:k<m)(i:m<=xs.size)(h:xs[m-(k+1)]?=J p):ou++(xs.extract (m-(k+1)) m).reverse=(ou++(xs.extract (m-k) m).reverse).push p:=by apply Bu.mp;simp only[E7,Array.toList_reverse,B0,M_,Od];rw[JT f,JT (vu f),iO h,<-AN f];simp
def HI.moveA(h:HI C a b ou m n)(H:LS C a.toList)(M:LS C b.toList)(y:m<=a.size)(L:1<=n)(l:n<=b.size):∀k,k<=m->(∀r p q,m-k<=r->r<m->a[r]?=J p->b[n-1]?=J q->O.kle (C.key q) (C.key p)) ->
  HI C a b (ou++(a.extract (m-k) m).reverse) (m-k) n:=by
 intro k
 induction k with
 |zero =>
  intro _ _;have e:ou++(a.extract (m-0) m).reverse=ou:=by apply Bu.mp;simp
  rw[e];exact h
 |succ k G =>
  intro f B;have i:=getElem?_pos a (m-(k+1)) (NM f y);have F:=G (vu f) λr p q j=>B r p q (mh (Na (B4 k) _) j);have e:=AN f;rw[qZ f y i];rw[e]at F;have z:=F.pushA H M i L l (λq u=>B _ _ q (iv _) (NM f (iv _)) i u);rw[<-e]at z;exact z
def HI.moveB(h:HI C a b ou m n)(L:LS C a.toList)(M:LS C b.toList)(z:n<=b.size)(G:1<=m)(i:m<=a.size):∀k,k<=n->(∀r p q,n-k<=r->r<n->b[r]?=J p->a[m-1]?=J q->O.kle (C.key q) (C.key p)) ->
  HI C a b (ou++(b.extract (n-k) n).reverse) m (n-k):=by
 intro k
 induction k with
 |zero =>
  intro _ _;have e:ou++(b.extract (n-0) n).reverse=ou:=by apply Bu.mp;simp
  rw[e];exact h
 |succ k H =>
  intro f B;have j:=getElem?_pos b (n-(k+1)) (NM f z);have F:=H (vu f) λr p q l=>B r p q (mh (Na (B4 k) _) l);have e:=AN f;rw[qZ f z j];rw[e]at F;have y:=F.pushB L M j G i (λq u=>B _ _ q (iv _) (NM f (iv _)) j u);rw[<-e]at y;exact y
def lZ{xs:Array Keyed}{i:Nat}:(xs.extract 0 i).toList=xs.toList.take i:=by rw[M_,Od];simp
def HI.all(h:HI C a b ou m n)(f:LS C a.toList)(i:LS C b.toList)(j:m=0\/n=0):MR C a b (a.extract 0 m++b.extract 0 n++ou.reverse):=by
 have e:(a.extract 0 m++b.extract 0 n++ou.reverse).toList=a.toList.take m++b.toList.take n++ou.toList.reverse:=by simp_all
 unfold MR;rw[e];refine⟨h.perm,cq ?_ h.srt h.hgh⟩;rcases j with rfl|rfl
 .simpa using iN i n
 .simpa using iN f m
def HI.one(h:HI C a b ou m n)(f:zG C a b)(G:n=1):MR C a b (b.extract 0 n++a.extract 0 m++ou.reverse):=by
 subst G;have e:(b.extract 0 1++a.extract 0 m++ou.reverse).toList=b.toList.take 1++a.toList.take m++ou.toList.reverse:=by rw[E7,E7,lZ,lZ,Array.toList_reverse]
 unfold MR;rw[e];have B:=f.nb;have F:=f.na;have u:=getElem?_pos b 0 ⋯;have z:=getElem?_pos a 0 ⋯;have hd:=kw u;refine⟨(List.Perm.append_right _ Rf).trans h.perm,cq (cq (iN f.sb 1) (iN f.sa m) ?_) h.srt ?_⟩
 .intro x i y j;have l:x=b[0]'⋯:=by
   have:=i
   rw[hd]at this;simpa using this
  subst l;refine KeyOrd.kle_trans (f.fst _ _ u z) (iM f.sa z y ?_);exact JL j
 .intro x i y j;exact h.hgh x (nw.mpr (nw.mp i).symm) y j
end
abbrev HS:=Option (Array Keyed)×Nat×Nat×Array Keyed×Nat×Nat×Nat
def G3(a b i:Array Keyed)(m n g j f:Nat):StateT SortSt Sem (ForInStep HS):=do
 let x <-elem' a (m-1)
 if(m-1==0)=I then pure (ForInStep.done (J (a.extract 0 (m-1)++b.extract 0 n++(i.push x).reverse),m-1,n,i.push x,g,j,f))
 else if(decide (j<7)&&decide (f<7))=I then pure (ForInStep.done (Y,m-1,n,i.push x,g,j,f))
 else pure (ForInStep.yield (Y,m-1,n,i.push x,g,j,f))
def G4(a b f:Array Keyed)(m n g i j:Nat):StateT SortSt Sem (ForInStep HS):=do
 let x <-elem' b (n-1)
 if(n-1==1)=I then pure (ForInStep.done (J (b.extract 0 (n-1)++a.extract 0 m++(f.push x).reverse),m,n-1,f.push x,g,i,j))
 else do
  let y <-elem' a (m-1)
  let q <-gallop' I y b 0 (n-1) (n-1-1)
  match q with
  |some z =>
   if n-1-z>0 then
    if(z==1)=I then
     pure (ForInStep.done (J (b.extract 0 z++a.extract 0 m++(f.push x++(b.extract z (n-1)).reverse).reverse),m,z,f.push x++(b.extract z (n-1)).reverse,g,i,n-1-z))
    else if(z==0)=I then
     pure (ForInStep.done (J (a.extract 0 m++b.extract 0 z++(f.push x++(b.extract z (n-1)).reverse).reverse),m,z,f.push x++(b.extract z (n-1)).reverse,g,i,n-1-z))
    else G3 a b (f.push x++(b.extract z (n-1)).reverse) m z g i (n-1-z)
   else G3 a b (f.push x) m (n-1) g i (n-1-z)
  |_=>pure (ForInStep.done (J (a.extract 0 m++b.extract 0 (n-1)++(f.push x).reverse),m,n-1,f.push x,g,i,j))
def Dk(a b f:Array Keyed)(m n g j i:Nat):StateT SortSt Sem (ForInStep HS):=do
 Di g
 let x <-elem' b (n-1)
 let q <-gallop' T x a 0 m (m-1)
 match q with
 |some z =>
  if m-z>0 then
   if(z==0)=I then
    pure (ForInStep.done (J (a.extract 0 z++b.extract 0 n++(f++(a.extract z m).reverse).reverse),z,n,f++(a.extract z m).reverse,g,m-z,i))
   else G4 a b (f++(a.extract z m).reverse) z n g (m-z) i
  else G4 a b f m n g (m-z) i
 |_=>pure (ForInStep.done (J (a.extract 0 m++b.extract 0 n++f.reverse),m,n,f,g,j,i))
abbrev HB:=Option (Array Keyed)×Nat×Nat×Array Keyed×Nat×Nat
abbrev HC:=Option (Array Keyed)×Nat×Nat×Array Keyed×Nat
def PJ(a b:Array Keyed)(g:Nat)(c:HB):StateT SortSt Sem (ForInStep HB):=do
 let x <-elem' b (c.2.2.1-1)
 let y <-elem' a (c.2.1-1)
 let q <-lt' x y
 match q with
 |some q =>
  if q=I then do
   let z <-elem' a (c.2.1-1)
   if(c.2.1-1==0)=I then pure (ForInStep.done (J (a.extract 0 (c.2.1-1)++b.extract 0 c.2.2.1++(c.2.2.2.1.push z).reverse),c.2.1-1,c.2.2.1,c.2.2.2.1.push z,c.2.2.2.2.1+1,0))
   else if c.2.2.2.2.1+1>=g then pure (ForInStep.done (Y,c.2.1-1,c.2.2.1,c.2.2.2.1.push z,c.2.2.2.2.1+1,0))
   else pure (ForInStep.yield (Y,c.2.1-1,c.2.2.1,c.2.2.2.1.push z,c.2.2.2.2.1+1,0))
  else do
   let z <-elem' b (c.2.2.1-1)
   if(c.2.2.1-1==1)=I then pure (ForInStep.done (J (b.extract 0 (c.2.2.1-1)++a.extract 0 c.2.1++(c.2.2.2.1.push z).reverse),c.2.1,c.2.2.1-1,c.2.2.2.1.push z,0,c.2.2.2.2.2+1))
   else if c.2.2.2.2.2+1>=g then pure (ForInStep.done (Y,c.2.1,c.2.2.1-1,c.2.2.2.1.push z,0,c.2.2.2.2.2+1))
   else pure (ForInStep.yield (Y,c.2.1,c.2.2.1-1,c.2.2.2.1.push z,0,c.2.2.2.2.2+1))
 |_=>pure (ForInStep.done (J (a.extract 0 c.2.1++b.extract 0 c.2.2.1++c.2.2.2.1.reverse),c.2.1,c.2.2.1,c.2.2.2.1,c.2.2.2.2.1,c.2.2.2.2.2))
def PK(a b:Array Keyed)(c:HS):StateT SortSt Sem (ForInStep HS) :=
 if c.2.2.2.2.1>1 then Dk a b c.2.2.2.1 c.2.1 c.2.2.1 (c.2.2.2.2.1-1) c.2.2.2.2.2.1 c.2.2.2.2.2.2
 else Dk a b c.2.2.2.1 c.2.1 c.2.2.1 c.2.2.2.2.1 c.2.2.2.2.2.1 c.2.2.2.2.2.2
def RC(c:HS):StateT SortSt Sem (ForInStep HC) :=
 match c.1 with
 |some r=>pure (ForInStep.done (J r,c.2.1,c.2.2.1,c.2.2.2.1,c.2.2.2.2.1))
 |none=>do
  Di (c.2.2.2.2.1+1)
  pure (ForInStep.yield (Y,c.2.1,c.2.2.1,c.2.2.2.1,c.2.2.2.2.1+1))
def RD(a b:Array Keyed)(g:Nat)(c:HB):StateT SortSt Sem (ForInStep HC) :=
 match c.1 with
 |some r=>pure (ForInStep.done (J r,c.2.1,c.2.2.1,c.2.2.2.1,g))
 |none=>do
  liftM (rule "list.sort.gallop")
  let e <-forIn [:a.size+b.size] ((Y,c.2.1,c.2.2.1,c.2.2.2.1,g+1,c.2.2.2.2.1,c.2.2.2.2.2):HS) λ_ e=>PK a b e
  RC e
def RE(a b:Array Keyed)(c:HC):StateT SortSt Sem (ForInStep HC):=do
 let d <-forIn [:a.size+b.size] ((Y,c.2.1,c.2.2.1,c.2.2.2.1,0,0):HB) λ_ d=>PJ a b c.2.2.2.2 d
 RD a b c.2.2.2.2 d
def RF(a b:Array Keyed)(x:Keyed):StateT SortSt Sem (Array Keyed):=do
 let g <-get
 let r <-forIn [:a.size+b.size] ((Y,a.size-1,b.size,#[x],gallopOf g):HC) λ_ c=>RE a b c
 match r.1 with
 |some r=>pure r
 |none=>liftM (unsupported "internal:list.sort.merge-bound":Sem (Array Keyed))
def PL(a b:Array Keyed):ly a b=(do
 liftM (rule "list.sort.merge-hi")
 let x <-elem' a (a.size-1)
 if(a.size-1==0)=I then pure (a.extract 0 (a.size-1)++b.extract++#[x].reverse)
 else if(b.size==1)=I then pure (b.extract++a.extract 0 (a.size-1)++#[x].reverse)
 else RF a b x):=by
 refine congrArg (Bind.bind _) (funext λ_=>congrArg (Bind.bind _) (funext λx=>congrArg (λz=>ite _ _ (ite _ _ z)) ?_));have e:∀{α β:Type}{x y:StateT SortSt Sem α}{f h:α->StateT SortSt Sem β},x=y->(∀a,f a=h a)->(x >>= f)=(y >>= h):=λe f=>by rw[e,funext f]
 refine congrArg (Bind.bind _) (funext λg=>e (congrArg (forIn _ _) (funext λ_=>funext λc=>?_)) λ⟨r,_⟩=>by cases r<;>rfl);refine e rfl λd=>?_;obtain⟨i,j⟩:=d
 cases i with
 |some r=>rfl
 |none=>exact congrArg (Bind.bind _) (funext λ_=>e rfl λ⟨r,_⟩=>by cases r<;>rfl)
section
variable{prog:Program}{w:World}{A:Around}{E:S5}{s:Shared}{kd:SortKind}{O:KeyOrd}{C:vo prog w A E s kd O}{st:SortSt}{a b:Array Keyed}
def G5(C:vo prog w A E s kd O)(a b:Array Keyed)(N:Nat)(c:HS):Prop :=
 c.1=Y/\HI C a b c.2.2.2.1 c.2.1 c.2.2.1/\1<=c.2.1/\c.2.1<=a.size/\2<=c.2.2.1/\c.2.2.1<=b.size/\N<=c.2.2.2.1.size
def nJ(C:vo prog w A E s kd O)(a b:Array Keyed)(N:Nat)(st:SortSt)(r:ForInStep HS)(f:SortSt):Prop:=Eqv st f/\match r with
 |.done c=>(∃x,c.1=J x/\MR C a b x)\/G5 C a b N c
 |.yield c=>G5 C a b N c
def tO(f:zG C a b)(h:HI C a b ou m n)(u:1<=m)(i:m<=a.size)(G:2<=n)(j:n<=b.size)(hN:N<=ou.size)(z:∀p q,b[n-1]?=J p->a[m-1]?=J q->O.kle (C.key p) (C.key q)):wpS (model prog w) A E s (G3 a b ou m n g ca cb) (nJ C a b N st) st:=by
 refine wpS_bind (aU (AV u i) λx F=>?_);have e:=(E_ u).symm;have L:HI C a b (ou.push x) (m-1) n:=by have H:=h;rw[e]at H;exact H.pushA f.sa f.sb F (Jd G) j (λq M=>z q x M F)
 have y:(ou.push x).size=ou.size+1:=B2 ..;by_cases l:m-1=0
 .rw[b_ (by simpa using l)];exact wpS_pure ⟨Eqv.rfl',.inl ⟨_,rfl,L.all f.sa f.sb (.inl l)⟩⟩
 .rw[c_ (by simpa using l)];have B:G5 C a b N (Y,m-1,n,ou.push x,g,ca,cb):=⟨rfl,L,JP l,vu (AV u i),G,j,y▸Nat.le_succ_of_le hN⟩;split
  .exact wpS_pure ⟨Eqv.rfl',.inr B⟩
  .exact wpS_pure ⟨Eqv.rfl',B⟩
def uA(f:zG C a b)(hk:kindOf st=kd)(h:HI C a b ou m n)(L:1<=m)(j:m<=a.size)(hn:2<=n)(Z:n<=b.size)(hN:N<=ou.size)(ab:∀p q,a[m-1]?=J p->b[n-1]?=J q->O.kle (C.key p) (C.key q)):wpS (model prog w) A E s (G4 a b ou m n g ca cb) (nJ C a b N st) st:=by
 have P:=Jd hn;have B:=AV P Z;refine wpS_bind (aU B λx hx=>?_);have e:=(E_ P).symm;have h1:HI C a b (ou.push x) m (n-1):=by have h':=h;rw[e]at h';exact h'.pushB f.sa f.sb hx L j (λq i=>ab q x i hx)
 have W:(ou.push x).size=ou.size+1:=B2 ..;by_cases U:n-1=1
 .rw[b_ (by simpa using U)];exact wpS_pure ⟨Eqv.rfl',.inl ⟨_,rfl,h1.one f U⟩⟩
 .rw[c_ (by simpa using U)];refine wpS_bind (aU (AV L j) λy X=>?_);refine wpS_bind (dL (C:=C) hk f.gb (bw f.ga X) ⋯ (Eo (JK hn) Fk) ?_ λz hz am an=>?_)
  .intro p q u al i;exact ko f.sb p q (u0 _) al ⋯
  .have l:∀r p q,r<z->b[r]?=J p->a[m-1]?=J q->O.kle (C.key p) (C.key q):=λr p q hr u i=>by
    have:=am r hr
    unfold h_ at this;rw[yV,aO u]at this;rw[X]at i;cases i;exact KeyOrd.kle_of_klt this
   have M:∀r p q,z<=r->r<n-1->b[r]?=J p->a[m-1]?=J q->O.kle (C.key q) (C.key p):=λr p q G F u i=>by
    have:=an r G F
    unfold h_ at this;rw[yV,aO u]at this;rw[X]at i;cases i;exact this
   dsimp only;by_cases H:n-1-z>0
   .rw[b_ H];have ez:=JT hz;have R:=h1.moveB f.sa f.sb (vu B) L j (n-1-z) (BV ..) (λr p q G F=>M r p q (ez▸G) F);rw[ez]at R;by_cases S:z=1
    .rw[b_ (by simpa using S)];exact wpS_pure ⟨Eqv.rfl',.inl ⟨_,rfl,R.one f S⟩⟩
    .rw[c_ (by simpa using S)];by_cases Q:z=0
     .rw[b_ (by simpa using Q)];exact wpS_pure ⟨Eqv.rfl',.inl ⟨_,rfl,R.all f.sa f.sb (.inr Q)⟩⟩
     .rw[c_ (by simpa using Q)];exact tO f R L j ⋯ ⋯ (by rw[JQ];lia) (λp q u i=>l (z-1) p q (Nat.sub_one_lt Q) u i)
   .rw[c_ H];exact tO f h1 L j ⋯ (vu B) (W▸Nat.le_succ_of_le hN) (λp q u i=>l (n-1-1) p q (q0 (Eo (JK hn) Fk) (Rh (Ra H))) u i)
def tW(f:zG C a b)(hk:kindOf st=kd)(h:HI C a b ou m n)(R:1<=m)(B:m<=a.size)(P:2<=n)(j:n<=b.size)(hN:N<=ou.size):
  wpS (model prog w) A E s (Dk a b ou m n g ca cb) (nJ C a b N st) st:=by
 unfold Dk;refine wpS_bind (wpS_modify ?_);have ev:Eqv st (SortSt.mk' (kindOf st) (arrOf st) (pendingOf st) g (failedOf st)):=⟨rfl,rfl,rfl,rfl⟩;refine wpS_mono (Q:=nJ C a b N (SortSt.mk' (kindOf st) (arrOf st) (pendingOf st) g (failedOf st))) ?_ λr ab h=>⟨ev.trans h.1,h.2⟩;have G:kindOf (SortSt.mk' (kindOf st) (arrOf st) (pendingOf st) g (failedOf st))=kd:=hk;refine wpS_bind (aU (AV (Jd P) j) λx S=>?_);refine wpS_bind (dL (C:=C) G f.ga (bw f.gb S) ⋯ (Eo R Fk) ?_ λz hz X Z=>?_)
 .intro p q u W i;exact ko f.sa p q (u0 _) W ⋯
 .have l:∀r p q,r<z->a[r]?=J p->b[n-1]?=J q->O.kle (C.key p) (C.key q):=λr p q hr u i=>by
   have:=X r hr
   unfold h_ at this;rw[yV,aO u]at this;rw[S]at i;cases i;simp only[n_,if_false,Fa]at this;exact this
  have M:∀r p q,z<=r->r<m->a[r]?=J p->b[n-1]?=J q->O.kle (C.key q) (C.key p):=λr p q F y u i=>by
   have:=Z r F y
   unfold h_ at this;rw[yV,aO u]at this;rw[S]at i;cases i;simp only[n_,if_false,Om]at this;exact KeyOrd.kle_of_klt this
  dsimp only;by_cases H:m-z>0
  .rw[b_ H];have ez:=JT hz;have U:=h.moveA f.sa f.sb B (Jd P) j (m-z) (BV ..) (λr p q F y=>M r p q (ez▸F) y);rw[ez]at U;by_cases L:z=0
   .rw[b_ (by simpa using L)];exact wpS_pure ⟨Eqv.rfl',.inl ⟨_,rfl,U.all f.sa f.sb (.inl L)⟩⟩
   .rw[c_ (by simpa using L)];exact uA f G U (JP L) (mh hz B) P j (by rw[JQ];lia) (λp q u i=>l (z-1) p q (Nat.sub_one_lt L) u i)
  .rw[c_ H];exact uA f G h R B P j hN (λp q u i=>l (m-1) p q (AV R (Rh (Ra H))) u i)
def Lg(C:vo prog w A E s kd O)(a b:Array Keyed)(N:Nat)(c:HB):Prop :=
 c.1=Y/\HI C a b c.2.2.2.1 c.2.1 c.2.2.1/\1<=c.2.1/\c.2.1<=a.size/\2<=c.2.2.1/\c.2.2.1<=b.size/\N<=c.2.2.2.1.size
def PM(C:vo prog w A E s kd O)(a b:Array Keyed)(N:Nat)(c:HC):Prop :=
 c.1=Y/\HI C a b c.2.2.2.1 c.2.1 c.2.2.1/\1<=c.2.1/\c.2.1<=a.size/\2<=c.2.2.1/\c.2.2.1<=b.size/\N<=c.2.2.2.1.size
def Lh(C:vo prog w A E s kd O)(a b:Array Keyed)(N:Nat)(st:SortSt)(r:ForInStep HB)(f:SortSt):Prop:=match r with
 |.done c=>f=st/\((∃x,c.1=J x/\MR C a b x)\/Lg C a b N c)
 |.yield c=>f=st/\Lg C a b N c
def v7(C:vo prog w A E s kd O)(a b:Array Keyed)(N:Nat)(st:SortSt)(r:ForInStep HC)(f:SortSt):Prop:=match r with
 |.done c=>Eqv st f/\∃x,c.1=J x/\MR C a b x
 |.yield c=>Eqv st f/\PM C a b N c
def G6(f:zG C a b)(R:kindOf st=kd)(L:HI C a b ou' m' n')(l:1<=m')(j:m'<=a.size)(F:2<=n')(i:n'<=b.size)(hN:N<=ou'.size):
  wpS (model prog w) A E s (PJ a b g (Y,m',n',ou',ca,cb)) (Lh C a b (N+1) st) st:=by
 unfold PJ;dsimp only;have H:=Jd F;have na:=AV l j;have nb:=AV H i;refine wpS_bind (aU nb λp P=>wpS_bind (aU na λq Q=>?_));refine wpS_bind (C.ask p q st _ (bw f.gb P) (bw f.ga Q) R ?_)
 cases S:O.blt (C.key p) (C.key q) with
 |true =>
  dsimp only;refine wpS_bind (aU na λW z=>?_);rw[Q]at z;cases z;have em:=(E_ l).symm;have G:HI C a b (ou'.push q) (m'-1) n':=by have M:=L;rw[em]at M;exact M.pushA f.sa f.sb Q H i (λU u=>by rw[P]at u;cases u;exact KeyOrd.kle_of_klt S)
  have y:(ou'.push q).size=ou'.size+1:=B2 ..;by_cases B:m'-1=0
  .rw[b_ (by simpa using B)];exact wpS_pure ⟨rfl,.inl ⟨_,rfl,G.all f.sa f.sb (.inl B)⟩⟩
  .rw[c_ (by simpa using B)];split
   .exact wpS_pure ⟨rfl,.inr ⟨rfl,G,JP B,vu na,F,i,y▸Fe hN⟩⟩
   .exact wpS_pure ⟨rfl,rfl,G,JP B,vu na,F,i,y▸Fe hN⟩
 |false =>
  dsimp only;rw[c_ (by simp)];refine wpS_bind (aU nb λU u=>?_);rw[P]at u;cases u;have X:=(E_ H).symm;have G:HI C a b (ou'.push p) m' (n'-1):=by have M:=L;rw[X]at M;exact M.pushB f.sa f.sb P l j (λW z=>by rw[Q]at z;cases z;exact S)
  have y:(ou'.push p).size=ou'.size+1:=B2 ..;by_cases B:n'-1=1
  .rw[b_ (by simpa using B)];exact wpS_pure ⟨rfl,.inl ⟨_,rfl,G.one f B⟩⟩
  .rw[c_ (by simpa using B)];split
   .exact wpS_pure ⟨rfl,.inr ⟨rfl,G,l,j,⋯,vu nb,y▸Fe hN⟩⟩
   .exact wpS_pure ⟨rfl,rfl,G,l,j,⋯,vu nb,y▸Fe hN⟩
def G7(j:Eqv C7 st)(f:(∃x,c.1=J x/\MR C a b x)\/G5 C a b N c):wpS (model prog w) A E s (RC c) (v7 C a b N C7) st:=by
 obtain⟨F,B,H,z,G,y,l⟩:=c;rcases f with⟨r,i,u⟩|⟨f,i⟩
 .cases i;exact wpS_pure ⟨j,r,rfl,u⟩
 .cases f;exact wpS_bind (wpS_modify (wpS_pure ⟨j.trans ⟨rfl,rfl,rfl,rfl⟩,rfl,i⟩))
def G8(y:zG C a b)(z:kindOf st=kd)(h:G5 C a b N c):wpS (model prog w) A E s (PK a b c) (nJ C a b N st) st:=by
 obtain⟨_,B,l,f,j,i,u⟩:=h;unfold PK;split
 .exact tW y z B l f j i u
 .exact tW y z B l f j i u
def G9(u:zG C a b)(H:kindOf st=kd)(B:Eqv C7 st)(l:(∃x,c.1=J x/\MR C a b x)\/Lg C a b N c):wpS (model prog w) A E s (RD a b g c) (v7 C a b N C7) st:=by
 obtain⟨S,U,W,L,Z,R⟩:=c;rcases l with⟨r,j,F⟩|⟨l,j⟩
 .cases j;exact wpS_pure ⟨B,r,rfl,F⟩
 .cases l;refine wpS_bind (wpS_lift (wpAny_rule ⟨rfl,?_⟩));refine wpS_bind (wpS_mono (wpS_forRange (I:=λy c i=>Eqv st i/\G5 C a b N c) (Q:=λc i=>Eqv st i/\((∃x,c.1=J x/\MR C a b x)\/G5 C a b N c)) ?_ ?_ ⟨Eqv.rfl',rfl,j⟩) ?_)
  .rintro y c i _ X ⟨f,P⟩;refine wpS_mono (G8 u (f.kind.trans H) P) λr M j=>?_
   cases r with
   |done G=>exact⟨f.trans j.1,j.2⟩
   |yield G=>exact⟨f.trans j.1,j.2⟩
  .rintro c i ⟨f,z⟩;exact⟨f,.inr z⟩
  .rintro c i ⟨f,l⟩;exact G7 (B.trans f) l
def G_(l:zG C a b)(R:kindOf st=kd)(h:PM C a b N c):wpS (model prog w) A E s (RE a b c) (v7 C a b (N+1) st) st:=by
 obtain⟨L,U,S,H,X,z,M⟩:=h
 refine wpS_bind (wpS_mono (wpS_forRange (I:=λy c f=>f=st/\Lg C a b (N+y) c)
  (Q:=λc f=>f=st/\((∃x,c.1=J x/\MR C a b x)\/Lg C a b (N+1) c)) ?_ ?_ ⟨rfl,rfl,U,S,H,X,z,M⟩) ?_)
 .rintro y c f _ hy ⟨rfl,h1⟩;obtain⟨L,G,F,j,B,i,u⟩:=h1;refine wpS_mono (G6 l R G F j B i u) λr Z P=>?_
  cases r with
  |done W=>exact⟨P.1,P.2.imp_right λh=>⟨h.1,h.2.1,h.2.2.1,h.2.2.2.1,h.2.2.2.2.1,h.2.2.2.2.2.1,mh ⋯ h.2.2.2.2.2.2⟩⟩
  |yield W=>exact P
 .rintro c f ⟨rfl,h⟩;exact⟨rfl,.inr ⟨h.1,h.2.1,h.2.2.1,h.2.2.2.1,h.2.2.2.2.1,h.2.2.2.2.2.1,mh ⋯ h.2.2.2.2.2.2⟩⟩
 .rintro c f ⟨rfl,L⟩;exact G9 l R Eqv.rfl' L
def Ha(u:zG C a b)(F:kindOf st=kd)(L:HI C a b #[x0] (a.size-1) b.size)(z:1<=a.size-1)(G:2<=b.size)(h:∀x f,Eqv st f->MR C a b x->Q x f):wpS (model prog w) A E s (RF a b x0) Q st:=by
 refine wpS_bind (wpS_get ?_)
 refine wpS_bind (wpS_mono (wpS_forRange (I:=λx c f=>Eqv st f/\PM C a b (x+1) c)
  (Q:=λc f=>Eqv st f/\∃x,c.1=J x/\MR C a b x) ?_ ?_ ⟨Eqv.rfl',rfl,L,z,BV _ _,G,iv _,iv _⟩) ?_)
 .rintro x c f _ R ⟨l,j⟩;refine wpS_mono (G_ u (l.kind.trans F) j) λr H i=>?_
  cases r with
  |done B=>exact⟨l.trans i.1,i.2⟩
  |yield B=>exact⟨l.trans i.1,i.2⟩
 .rintro c f ⟨l,j⟩;exfalso
  have:=j.2.1.size j.2.2.2.1 j.2.2.2.2.2.1
  have:=j.2.2.2.2.2.2
  lia
 .rintro c f ⟨l,r,i,y⟩;obtain⟨M,P⟩:=c;cases i;exact wpS_pure (h r f l y)
def Hb(f:zG C a b)(L:kindOf st=kd)(h:∀x i,Eqv st i->MR C a b x->Q x i):wpS (model prog w) A E s (ly a b) Q st:=by
 rw[PL];refine wpS_bind (wpS_lift (wpAny_rule ⟨rfl,?_⟩));have G:=f.na;have z:=f.nb;refine wpS_bind (aU ⋯ λF j=>?_)
 have M:HI C a b #[] a.size b.size:=⟨by
   have e1:a.toList.take a.size=a.toList:=E6 (by simp);have e2:b.toList.take b.size=b.toList:=E6 (by simp)
   rw[e1,e2];simp,by unfold LS;simp,λx _ y H=>by simp at H⟩
 have B:HI C a b #[F] (a.size-1) b.size:=by
  have e:a.size=a.size-1+1:=by lia
  have R:HI C a b #[] (a.size-1+1) b.size:=by rw[<-e];exact M
  have:=R.pushA f.sa f.sb j z (iv _) (λq P=>f.lst q F (zt.mpr ⟨_,by rw[v_];exact P⟩) j)
  simpa using this
 by_cases u:a.size-1=0
 .rw[b_ (by simpa using u)];exact wpS_pure (h _ st Eqv.rfl' (B.all f.sa f.sb (.inl u)))
 .rw[c_ (by simpa using u)];by_cases l:b.size=1
  .rw[b_ (by simpa using l)];exact wpS_pure (h _ st Eqv.rfl' (B.one f l))
  .rw[c_ (by simpa using l)];exact Ha f L B ⋯ ⋯ h
end
def sT(i:Nat):mergeAt' i=(do
 let c <-get
 let(J (sa,na,pw),J (sb,nb,_)):=((pendingOf c)[i]?,(pendingOf c)[i+1]?)|unsupported "internal:list.sort.pending"
 set (setPending c (((pendingOf c).setIfInBounds i (sa,na+nb,pw)).eraseIdxIfInBounds (i+1)))
 let J k <-gallop' T (<-elem' (arrOf c) sb) (arrOf c) sa na 0|return T
 let(sa,na):=(sa+k,na-k)
 if na==0 then return I
 let J nb <-gallop' I (<-elem' (arrOf c) (sa+na-1)) (arrOf c) sb nb (nb-1)|return T
 if nb==0 then return I
 let x:=(arrOf c).extract sa sb
 let y:=(arrOf c).extract sb (sb+nb)
 let f <-if na<=nb then lJ x y else ly x y
 modify λc=>setArr c (f.toList.zipIdx.foldl (λa (p,j)=>a.setIfInBounds (sa+j) p) (arrOf c))
 return (failedOf (<-get)).isNone):=rfl
def Dl(f:Nat):∀(l:List Keyed)(q:Nat)(xs:Array Keyed)(i:Nat),((l.zipIdx q).foldl (λa (p:Keyed×Nat)=>a.setIfInBounds (f+p.2) p.1) xs)[i]? =
  if f+q<=i/\i<f+q+l.length/\i<xs.size then l[i-(f+q)]? else xs[i]?:=by
 intro l
 induction l with
 |nil=>intro q xs i;rw[c_ (by simp;lia)];rfl
 |cons p l j =>
  intro q xs i;rw[List.zipIdx_cons,JV,j];simp only[Array.size_setIfInBounds]
  grind
def zV{xs ou:Array Keyed}{off:Nat}(h:off+ou.size<=xs.size):
  (ou.toList.zipIdx.foldl (λa (p:Keyed×Nat)=>a.setIfInBounds (off+p.2) p.1) xs).toList=xs.toList.take off++(ou.toList++xs.toList.drop (off+ou.size)):=by
 apply JR;intro i;rw[v_,Dl];have j:(xs.toList.take off).length=off:=by simp;lia
 by_cases l:i<off
 .rw[c_ ⋯,vj ⋯,M5 l,v_]
 .rw[AX ⋯,j];by_cases f:i<off+ou.size
  .rw[b_ ⟨⋯,by simpa using f,⋯⟩,vj (by simp;lia)];congr 1
  .rw[c_ (by simp;lia),AX (by simp;lia),Nc,v_];congr 1;simp;lia
section
variable{prog:Program}{w:World}{A:Around}{E:S5}{s:Shared}{kd:SortKind}{O:KeyOrd}{C:vo prog w A E s kd O}{a₀:Array Keyed}{st:SortSt}
def im{xs:Array Keyed}{lo l i j:Nat}(h:tr C xs lo l)(a:lo<=i)(f:i<=j)(u:j<l){p q:Keyed}(y:xs[i]?=J p)(z:xs[j]?=J q):O.kle (C.key p) (C.key q):=by
 have:=h i j a f u
 rw[aO y,aO z]at this;exact this
def uW{xs:Array Keyed}{lo f:Nat}{p:Keyed}(j:f<=xs.size)(h:p∈(xs.extract lo f).toList):∃i,lo<=i/\i<f/\xs[i]?=J p:=by
 obtain⟨q,a⟩:=zt.mp h;rw[v_,JH]at a
 split at a
 .exact⟨lo+q,⋯,⋯,a⟩
 .cases a
def Hc{xs:Array Keyed}{i j k:Nat}(l:i<=j)(u:j<=k)(y:k<=xs.size):xs.toList=xs.toList.take i++((xs.extract i j).toList++(xs.extract j k).toList++xs.toList.drop k):=by
 have e1:(xs.extract i j).toList=(xs.toList.drop i).take (j-i):=by simp
 have e2:(xs.extract j k).toList=(xs.toList.drop j).take (k-j):=by simp
 rw[e1,e2];have f:(xs.toList.drop j).take (k-j)++xs.toList.drop k=xs.toList.drop j:=by
  have:=BQ (k-j) (xs.toList.drop j)
  simp_all
 have a:(xs.toList.drop i).take (j-i)++xs.toList.drop j=xs.toList.drop i:=by
  have:=BQ (j-i) (xs.toList.drop i)
  rw[List.drop_drop]at this;rw[Em l]at this;exact this
 rw[BU,f,a,BQ]
def sQ{n1 pw:Nat}{Q:Bool->SortSt->Prop}(h0:cK C a₀)(hB:SB kd a₀ st)(h1:1<=n1)(h2:n1<a₀.size)(hp:pendingOf st=#[(0,n1,pw),(n1,a₀.size-n1,0)])(H:tr C (arrOf st) 0 n1)(F:tr C (arrOf st) n1 a₀.size)(h:∀an,SB kd a₀ an->(pendingOf an).size=1->tr C (arrOf an) 0 a₀.size->Q I an):wpS (model prog w) A E s (mergeAt' 0) Q st:=by
 have ap:=hB.size;have hg:=hB.good h0;have ax:=vu h2;rw[sT];refine wpS_bind (wpS_get ?_);rw[hp];have e0:(#[(0,n1,pw),(n1,a₀.size-n1,0)]:Array (Nat×Nat×Nat))[0]?=J (0,n1,pw):=rfl;have e1:(#[(0,n1,pw),(n1,a₀.size-n1,0)]:Array (Nat×Nat×Nat))[0+1]?=J (n1,a₀.size-n1,0):=rfl;rw[e0,e1];dsimp only;refine wpS_bind ?_;have be:∀(c:SortSt)(Q':PUnit->SortSt->Prop),Q' ⟨⟩ c->wpS (model prog w) A E s (set c:StateT SortSt Sem PUnit) Q' st:=λc Q' hq=>by
  unfold wpS;rw[StateT.run_set];exact il ⟨rfl,hq⟩
 refine be _ _ ?_;obtain⟨L,G⟩:∃c,c=setPending st (((#[(0,n1,pw),(n1,a₀.size-n1,0)]:Array (Nat×Nat×Nat)).setIfInBounds 0 (0,n1+(a₀.size-n1),pw)).eraseIdxIfInBounds (0+1)):=⟨_,rfl⟩;rw[<-G];have B:SB kd a₀ L:=by rw[G];exact⟨hB.perm,hB.kind,hB.failed⟩
 have a0:(pendingOf L).size=1:=by rw[G];simp[pendingOf]
 have a3:arrOf L=arrOf st:=by rw[G]
 clear G;have Z:tr C (arrOf st) 0 n1->tr C (arrOf st) n1 a₀.size->(∀i j,i<n1->n1<=j->j<a₀.size->O.kle (kk C (arrOf st) i) (kk C (arrOf st) j))->tr C (arrOf L) 0 a₀.size:=by
  intro g1 g2 g3 i j _ a2 hj;rw[a3];by_cases c1:j<n1
  .exact g1 i j (u0 _) a2 c1
  .by_cases c2:i<n1
   .exact g3 i j c2 ⋯ hj
   .exact g2 i j ⋯ a2 hj
 refine wpS_bind (aU ⋯ λb0 am=>?_);refine wpS_bind (dL (C:=C) B.kind hg (bw hg am) ⋯ ⋯ (by rw[yV];exact H) λk hk bm b2=>?_);have X:∀r p,r<k->(arrOf st)[r]?=J p->O.kle (C.key p) (C.key b0):=λr p hr f=>by
  have:=bm r hr
  unfold h_ at this;rw[yV,aO f]at this;simp only[n_,if_false,Fa]at this;exact this
 have a6:∀r p,k<=r->r<n1->(arrOf st)[r]?=J p->O.kle (C.key b0) (C.key p):=λr p P U f=>by
  have:=b2 r P U
  unfold h_ at this;rw[yV,aO f]at this;simp only[n_,if_false,Om]at this;exact KeyOrd.kle_of_klt this
 dsimp only;rw[yV];have R:∀i,i<a₀.size->∃p,(arrOf st)[i]?=J p:=λi u=>⟨_,getElem?_pos _ i ⋯⟩;by_cases z1:n1-k=0
 .rw[b_ (by simpa using z1)];refine wpS_pure (h L B a0 (Z H F λi j u a9 S=>?_));obtain⟨p,f⟩:=R i ⋯;obtain⟨q,z⟩:=R j S;rw[aO f,aO z];exact KeyOrd.kle_trans (X i p (q0 u (Q_.1 z1)) f) (im F (iv _) a9 S am z)
 .rw[c_ (by simpa using z1)];have ez:k+(n1-k)-1=n1-1:=by rw[Em hk]
  rw[ez];refine wpS_bind (aU (ap▸JO (BV ..) h2) λal as=>?_);refine wpS_bind (dL (C:=C) B.kind hg (bw hg as) (Nk ((Em ax).trans ap.symm)) (Eo (Nat.sub_pos_of_lt h2) Fk) (by rw[Em ax];exact F) λm hm a8 a5=>?_);have a1:∀r p,n1<=r->r<n1+m->(arrOf st)[r]?=J p->O.kle (C.key p) (C.key al):=λr p P U f=>by
   have:=a8 (r-n1) (Nat.sub_lt_left_of_lt_add P U)
   unfold h_ at this;rw[Em P,aO f]at this;exact KeyOrd.kle_of_klt this
  have ab:∀r p,n1+m<=r->r<a₀.size->(arrOf st)[r]?=J p->O.kle (C.key al) (C.key p):=λr p P U f=>by
   have a4:=Nat.le_of_add_right_le P
   have:=a5 (r-n1) (Re P) (Nat.sub_lt_sub_right a4 U)
   unfold h_ at this;rw[Em a4,aO f]at this;exact this
  dsimp only;by_cases z2:m=0
  .rw[b_ (by simpa using z2)];refine wpS_pure (h L B a0 (Z H F λi j u a9 S=>?_));obtain⟨p,f⟩:=R i ⋯;obtain⟨q,z⟩:=R j S;rw[aO f,aO z];exact KeyOrd.kle_trans (im H (u0 _) (JK u) (Eo h1 Fk) f as) (ab j q ⋯ S z)
  .rw[c_ (by simpa using z2)];have mx:=Fg (ap.symm▸ax:n1<=(arrOf st).size);have mg:n1+m<=(arrOf st).size:=ap.symm▸Nat.add_le_of_le_sub' ax hm;have my:=Fg mg;have sx:((arrOf st).extract k n1).size=n1-k:=by rw[Array.size_extract,mx]
   have sy:((arrOf st).extract n1 (n1+m)).size=m:=by rw[Array.size_extract,my,Q6]
   have gx:∀r,r<n1-k->((arrOf st).extract k n1)[r]?=(arrOf st)[k+r]?:=λr hr=>by rw[JH,mx,b_ hr]
   have gy:∀r,r<m->((arrOf st).extract n1 (n1+m))[r]?=(arrOf st)[n1+r]?:=λr hr=>by rw[JH,my,Q6,b_ hr]
   have ay:∀p,p∈((arrOf st).extract k n1).toList->∃i,k<=i/\i<n1/\(arrOf st)[i]?=J p:=λp f=>uW ⋯ f;have W:∀p,p∈((arrOf st).extract n1 (n1+m)).toList->∃i,n1<=i/\i<n1+m/\(arrOf st)[i]?=J p:=λp f=>uW mg f;have bi:zG C ((arrOf st).extract k n1) ((arrOf st).extract n1 (n1+m)):=by
    refine⟨λp f=>?_,λp f=>?_,mI ⋯ λi j a b c=>H i j (u0 _) b c,mI ⋯ λi j a b c=>F i j a b ⋯,⋯,⋯,?_,?_⟩
    .obtain⟨i,_,_,u⟩:=ay p f;exact bw hg u
    .obtain⟨i,_,_,u⟩:=W p f;exact bw hg u
    .intro p q f z;rw[gy 0 ⋯]at f;rw[gx 0 ⋯]at z;have e:(arrOf st)[n1+0]?=J b0:=am;rw[e]at f;cases f;exact a6 (k+0) q ⋯ ⋯ z
    .intro x q hx z;obtain⟨i,i1,i2,u⟩:=W x hx;rw[sx,gx _ ⋯]at z;rw[<-Nat.add_sub_assoc (JP z1),ez,as]at z;cases z;exact a1 i x i1 i2 u
   have fin:∀M l,Eqv L l->MR C ((arrOf st).extract k n1) ((arrOf st).extract n1 (n1+m)) M ->
     wpS (model prog w) A E s (do
      modify λc=>setArr c (M.toList.zipIdx.foldl (λa (p:Keyed×Nat)=>a.setIfInBounds (k+p.2) p.1) (arrOf c))
      return (failedOf (<-get)).isNone) Q l:=by
    intro M l ev mr;refine wpS_bind (wpS_modify ?_);refine wpS_bind (wpS_get (wpS_pure ?_));have ea:arrOf l=arrOf st:=ev.arr.trans a3;have so:M.size=n1-k+m:=by
     have:=mr.1.length_eq
     rw[wh,zv,wh,wh,sx,sy]at this;exact this
    have eo:k+M.size=n1+m:=by rw[so,<-Nat.add_assoc,Em hk]
    have hl:=zV (xs:=arrOf l) (ou:=M) (off:=k) (by rw[ea,eo];exact mg);rw[eo,ea]at hl;have b1:=Hc (xs:=arrOf st) (i:=k) (j:=n1) (k:=n1+m) hk (Jk ..) mg;have GQ:(failedOf (setArr l (M.toList.zipIdx.foldl (λa (p:Keyed×Nat)=>a.setIfInBounds (k+p.2) p.1) (arrOf l)))).isNone=I:=by show(failedOf l).isNone=I;rw[ev.failed,B.failed];rfl
    rw[GQ];have bq:LS C (M.toList.zipIdx.foldl (λa (p:Keyed×Nat)=>a.setIfInBounds (k+p.2) p.1) (arrOf l)).toList:=by
     rw[ea,hl];have mo:∀p,p∈M.toList->(∃i,k<=i/\i<n1/\(arrOf st)[i]?=J p)\/(∃i,n1<=i/\i<n1+m/\(arrOf st)[i]?=J p):=λp f =>
      (nw.mp (mr.1.mem_iff.mp f)).imp (ay p) (W p)
     have mt:∀p,p∈(arrOf st).toList.take k->∃i,i<k/\(arrOf st)[i]?=J p:=λp f=>by
      obtain⟨i,u⟩:=zt.mp f;by_cases c:i<k
      .rw[M5 c,v_]at u;exact⟨i,c,u⟩
      .rw[Br (by simp;lia)]at u;cases u
     have md:∀p,p∈(arrOf st).toList.drop (n1+m)->∃i,n1+m<=i/\i<a₀.size/\(arrOf st)[i]?=J p:=λp f=>by
      obtain⟨i,u⟩:=zt.mp f;rw[Nc,v_]at u
      have:=(Jb.mp u).1
      exact⟨n1+m+i,⋯,⋯,u⟩
     refine cq ?_ (cq mr.2 ?_ ?_) ?_
     .have:=mI (C:=C) (xs:=arrOf st) (lo:=0) (hi:=k) ⋯ λi j a b c=>H i j a b ⋯
      rw[lZ]at this;exact this
     .have:=mI (C:=C) (xs:=arrOf st) (lo:=n1+m) (hi:=(arrOf st).size) (iv _) λi j a b c=>F i j ⋯ b ⋯
      rw[hX]at this;exact this
     .intro x hx y hy;obtain⟨j,j1,j2,hj⟩:=md y hy;rcases mo x hx with⟨i,i1,i2,u⟩|⟨i,i1,i2,u⟩
      .exact KeyOrd.kle_trans (im H (u0 _) (JK i2) (Eo h1 Fk) u as) (ab j y j1 j2 hj)
      .exact im F i1 ⋯ j2 u hj
     .intro x hx y hy;obtain⟨i,i1,u⟩:=mt x hx;rcases nw.mp hy with hy|hy
      .rcases mo y hy with⟨j,j1,j2,hj⟩|⟨j,j1,j2,hj⟩
       .exact im H (u0 _) ⋯ j2 u hj
       .exact KeyOrd.kle_trans (X i x i1 u) (im F (iv _) j1 ⋯ am hj)
      .obtain⟨j,j1,j2,hj⟩:=md y hy;exact KeyOrd.kle_trans (X i x i1 u) (im F (iv _) ⋯ j2 am hj)
    have a7:(M.toList.zipIdx.foldl (λa (p:Keyed×Nat)=>a.setIfInBounds (k+p.2) p.1) (arrOf l)).Perm (arrOf st):=by rw[M4,ea,hl];refine List.Perm.trans ?_ (List.Perm.of_eq b1.symm);exact List.Perm.append_left _ (List.Perm.append_right _ mr.1)
    refine h _ ⟨a7.trans hB.perm,ev.kind.trans B.kind,ev.failed.trans B.failed⟩ ?_ ?_
    .show (pendingOf l).size=1;rw[ev.pend];exact a0
    .have:=ko bq
     have e2:(M.toList.zipIdx.foldl (λa (p:Keyed×Nat)=>a.setIfInBounds (k+p.2) p.1) (arrOf l)).size=a₀.size:=(a7.trans hB.perm).size_eq;rw[e2]at this;exact this
   by_cases bj:n1-k<=m
   .rw[b_ bj];refine wpS_bind (G2 bi B.kind λM l ev mr=>?_);exact fin M l ev mr
   .rw[c_ bj];refine wpS_bind (Hb bi B.kind λM l ev mr=>?_);exact fin M l ev mr
end
def qI(a:2<=n)(h:n<64):minRun' n n 0=n:=by
 obtain⟨f,hf⟩:∃f,n=f+1:=⟨n-1,⋯⟩
 have:minRun' (f+1) n 0=n+0:=by rw[minRun'_succ,b_ h]
 rw[<-hf]at this;exact this
def xM(a:2<=n)(h:n<=66):1<=minRun' n n 0/\minRun' n n 0<=n/\n<=2*minRun' n n 0:=by
 by_cases c:n<64
 .rw[qI a c];lia
 .have:n=64\/n=65\/n=66:=by lia
  rcases this with e|e | e<;>subst e
  .have:minRun' 64 64 0=32:=by decide
   rw[this];lia
  .have:minRun' 65 65 0=33:=by decide
   rw[this];lia
  .have:minRun' 66 66 0=33:=by decide
   rw[this];lia
section
variable{prog:Program}{w:World}{A:Around}{E:S5}{s:Shared}{kd:SortKind}{O:KeyOrd}{C:vo prog w A E s kd O}{a₀:Array Keyed}{st:SortSt}
def One(C:vo prog w A E s kd O)(a₀:Array Keyed)(f a:Nat)(st:SortSt):Prop:=SB kd a₀ st/\pendingOf st=#[(0,a,0)]/\f<=a/\a<=a₀.size/\tr C (arrOf st) 0 a
def Li(C:vo prog w A E s kd O)(a₀:Array Keyed)(a:Nat)(st:SortSt):Prop :=
 SB kd a₀ st/\1<=a/\a<a₀.size/\(∃f,pendingOf st=#[(0,a,f),(a,a₀.size-a,0)])/\tr C (arrOf st) 0 a/\tr C (arrOf st) a a₀.size
def su{xs ys:Array Keyed}{p lo a:Nat}(h:cL p xs ys)(y:a<=p)(g:tr C xs lo a):tr C ys lo a:=by intro i j f l u;rw[eI (h i ⋯),eI (h j ⋯)];exact g i j f l u
def rF(h0:cK C a₀)(hB:SB kd a₀ st)(ax:pendingOf st=#[])(h2:2<=a₀.size)(an:a₀.size<=66)(h:∀i,(arrOf i).Perm a₀->failedOf i=Y->tr C (arrOf i) 0 a₀.size->Q () i):wpS (model prog w) A E s sortRuns' Q st:=by
 obtain⟨m1,m2,m3⟩:=xM h2 an;rw[sortRuns'_eq];refine wpS_bind (wpS_get ?_);dsimp only;rw[hB.size];generalize minRun' a₀.size a₀.size 0=mr at m1 m2 m3 ⊢
 refine wpS_bind (wpS_mono (wpS_forRange
  (I:=λx c i=>(x=0/\c=(Y,0)/\SB kd a₀ i/\pendingOf i=#[])\/(x=1/\∃f,c=(Y,f)/\One C a₀ mr f i)\/(2<=x/\c=(Y,a₀.size)/\∃f,Li C a₀ f i))
  (Q:=λc i=>c=(Y,a₀.size)/\(One C a₀ mr a₀.size i\/∃f,Li C a₀ f i)) ?_ ?_ (.inl ⟨rfl,rfl,hB,ax⟩)) ?_)
 .rintro x c i _ hx (⟨rfl,rfl,u,j⟩|⟨rfl,f,rfl,u,j,a0,as,U⟩|⟨a6,rfl,f,S⟩)
  .rw[c_ ⋯];simp only[Nat.sub_zero,yV];refine wpS_bind (uc (p:=0) h0 ⋯ ⋯ u λm G z _ F a3 a2 L=>?_);rw[yV]at L;dsimp only;by_cases P:m<mr
   .rw[b_ P];refine wpS_bind (wpS_lift (wpAny_rule ⟨rfl,?_⟩));refine wpS_bind (tq (p:=0) h0 ⋯ ⋯ z (by rw[yV];exact L) λB H _ M R=>?_);simp only[B3,n_,if_false];refine wpS_bind (wpS_get ?_);have S:(pendingOf B).back?=Y:=by rw[M,F,j];rfl
    rw[S];dsimp only;refine wpS_bind (wpS_modify (wpS_pure (.inr (.inl ⟨trivial,_,rfl,⟨H.perm,H.kind,H.failed⟩,?_,⋯,⋯,?_⟩))))
    .show (pendingOf B).push _=_;rw[M,F,j];rfl
    .rw[yV]at R;exact R
   .rw[c_ P];refine wpS_bind (wpS_get ?_);have S:(pendingOf G).back?=Y:=by rw[F,j];rfl
    rw[S];dsimp only;refine wpS_bind (wpS_modify (wpS_pure (.inr (.inl ⟨trivial,_,rfl,⟨z.perm,z.kind,z.failed⟩,?_,⋯,⋯,L⟩))));show(pendingOf G).push _=_;rw[F,j];rfl
  .dsimp only;by_cases W:f>=a₀.size
   .rw[b_ W];have e:f=a₀.size:=by lia
    subst e;exact wpS_pure ⟨rfl,.inl ⟨u,j,a0,as,U⟩⟩
   .rw[c_ W];have a4:a₀.size-f<=mr:=by lia
    refine wpS_bind (uc (p:=f) h0 ⋯ ⋯ u λm G z al F a3 a2 L=>?_);dsimp only;by_cases P:m<mr
    .rw[b_ P];refine wpS_bind (wpS_lift (wpAny_rule ⟨rfl,?_⟩));have em:min (a₀.size-f) mr=a₀.size-f:=by lia
     rw[em];refine wpS_bind (tq (p:=f) h0 ⋯ ⋯ z L λB H am M R=>?_);simp only[B3,n_,if_false];refine wpS_bind (wpS_get ?_);have ab:pendingOf B=#[(0,f,0)]:=by rw[M,F,j]
     have S:(pendingOf B).back?=J (0,f,0):=by rw[ab];rfl
     rw[S];dsimp only;refine wpS_bind (wpS_mono (wpS_forRange (I:=λ_ c l=>c=(Y,())/\l=B) (Q:=λc l=>c=(Y,())/\l=B) ?_ (λ_ _ hh=>hh) ⟨rfl,rfl⟩) ?_)
     .rintro y c l _ _ ⟨rfl,rfl⟩;refine wpS_bind (wpS_get ?_);rw[ab];exact wpS_pure ⟨rfl,rfl⟩
     .rintro c l ⟨rfl,rfl⟩;dsimp only;refine wpS_bind (wpS_modify (wpS_bind (wpS_modify (wpS_pure (.inr (.inr ⟨⋯,?_,f,⟨H.perm,H.kind,H.failed⟩,⋯,⋯,⟨power' a₀.size (2*0+f) (2*0+f+f+(a₀.size-f)) a₀.size,?_⟩,(su (al.trans am) (iv _) U),(by have e:f+(a₀.size-f)=a₀.size:=⋯;rw[e]at R;exact R)⟩))))))
      .have e:f+(a₀.size-f)=a₀.size:=by lia
       rw[e]
      .show ((pendingOf l).modify _ _).push _=_;rw[ab];simp
    .rw[c_ P];have em:m=a₀.size-f:=by lia
     subst em;refine wpS_bind (wpS_get ?_);have X:pendingOf G=#[(0,f,0)]:=by rw[F,j]
     have S:(pendingOf G).back?=J (0,f,0):=by rw[X];rfl
     rw[S];dsimp only;refine wpS_bind (wpS_mono (wpS_forRange (I:=λ_ c l=>c=(Y,())/\l=G) (Q:=λc l=>c=(Y,())/\l=G) ?_ (λ_ _ hh=>hh) ⟨rfl,rfl⟩) ?_)
     .rintro y c l _ _ ⟨rfl,rfl⟩;refine wpS_bind (wpS_get ?_);rw[X];exact wpS_pure ⟨rfl,rfl⟩
     .rintro c l ⟨rfl,rfl⟩;dsimp only;refine wpS_bind (wpS_modify (wpS_bind (wpS_modify (wpS_pure (.inr (.inr ⟨⋯,?_,f,⟨z.perm,z.kind,z.failed⟩,⋯,⋯,⟨power' a₀.size (2*0+f) (2*0+f+f+(a₀.size-f)) a₀.size,?_⟩,(su al (iv _) U),(by have e:f+(a₀.size-f)=a₀.size:=⋯;rw[e]at L;exact L)⟩))))))
      .have e:f+(a₀.size-f)=a₀.size:=by lia
       rw[e]
      .show ((pendingOf l).modify _ _).push _=_;rw[X];simp
  .dsimp only;rw[b_ (iv _)];exact wpS_pure ⟨rfl,.inr ⟨f,S⟩⟩
 .rintro c i (⟨hx,_⟩|⟨hx,_⟩|⟨_,hc,S⟩)
  .lia
  .lia
  .exact⟨hc,.inr S⟩
 .rintro c i ⟨rfl,hc⟩;dsimp only;rcases hc with⟨u,j,_,_,U⟩|⟨f,u,a1,n12,⟨pw,j⟩,ap,ay⟩
  .refine wpS_bind (wpS_mono (wpS_forRange (I:=λ_ c a=>a=i/\c=(Y,())) (Q:=λc a=>a=i/\c=(Y,())) ?_ (λ_ _ hh=>hh) ⟨rfl,rfl⟩) ?_)
   .rintro x c a _ _ ⟨rfl,rfl⟩;refine wpS_bind (wpS_get ?_);rw[b_ (by rw[j];exact iv 1)];exact wpS_pure ⟨rfl,rfl⟩
   .rintro c a ⟨rfl,rfl⟩;exact wpS_pure (h _ u.perm u.failed U)
  .refine wpS_bind (wpS_mono (wpS_forRange (I:=λx c a=>c=(Y,())/\((x=0/\a=i)\/(1<=x/\SB kd a₀ a/\(pendingOf a).size=1/\tr C (arrOf a) 0 a₀.size)))
    (Q:=λc a=>c=(Y,())/\SB kd a₀ a/\tr C (arrOf a) 0 a₀.size) ?_ ?_ ⟨rfl,.inl ⟨rfl,rfl⟩⟩) ?_)
   .rintro x c a _ _ ⟨rfl,Z⟩;rcases Z with⟨rfl,rfl⟩|⟨a5,b1,b2,b3⟩
    .refine wpS_bind (wpS_get ?_);rw[c_ (by rw[j];simp)];rw[j];refine wpS_bind (sQ (n1:=f) (pw:=pw) h0 u a1 n12 j ap ay λB c1 c2 c3=>?_);simp only[B3,n_,if_false];exact wpS_pure ⟨rfl,.inr ⟨⋯,c1,c2,c3⟩⟩
    .refine wpS_bind (wpS_get ?_);rw[b_ (by rw[b2];exact iv 1)];exact wpS_pure ⟨rfl,b1,b3⟩
   .rintro c a ⟨rfl,⟨hx,_⟩|⟨_,b1,_,b3⟩⟩
    .lia
    .exact⟨rfl,b1,b3⟩
   .rintro c a ⟨rfl,b1,b3⟩;exact wpS_pure (h _ b1.perm b1.failed b3)
end
end SortT
namespace SortT
open PyProof.Rows SetT PySem.W
def cg:SS->SS->Bool
 |[],[]=>T
 |[],_::_=>I
 |_::_,[]=>T
 |a::x,b::y=>if a=b then cg x y else decide (a<b)
def k9:∀x,cg x x=T
 |[]=>rfl
 |a::x=>by unfold cg;rw[b_ rfl];exact k9 x
def nC:∀x y z,cg x y=I->cg y z=I->cg x z=I
 |[],_::_,_::_,_,_=>rfl
 |a::x,b::y,c::z,i,f=>by
  unfold cg at i f ⊢;by_cases e1:a=b
  .rw[b_ e1]at i;by_cases e2:b=c
   .rw[b_ e2]at f;rw[b_ (e1.trans e2)];exact nC x y z i f
   .rw[c_ e2]at f;rw[c_ (λq=>e2 (e1.symm.trans q)),e1];exact f
  .grind
def qX:∀x y z,cg x z=I->cg x y=I\/cg y z=I
 |[],[],_::_,_=>.inr rfl
 |[],_::_,_,_=>.inl rfl
 |_::_,[],_::_,_=>.inr rfl
 |a::x,b::y,c::z,h=>by
  unfold cg at h ⊢;by_cases e1:a=b
  .rw[b_ e1];by_cases e2:b=c
   .rw[b_ e2];rw[b_ (e1.trans e2)]at h;exact qX x y z h
   .rw[c_ (λq=>e2 (e1.symm.trans q)),e1]at h;rw[c_ e2];exact .inr h
  .grind
def jb:∀x y,cg x y=T->cg y x=T->x=y
 |[],[],_,_=>rfl
 |a::x,b::y,i,f=>by
  unfold cg at i f;by_cases e:a=b
  .rw[b_ e]at i;rw[b_ e.symm]at f;rw[e,jb x y i f]
  .rw[c_ e]at i;rw[c_ (λq=>e q.symm)]at f
   grind
def Dm:KeyOrd:=⟨SS,cg,k9,nC,qX,jb⟩
def Dn(l:SU):Prop:=l.Pairwise λx y=>cg y x=T
section
variable{prog:Program}{w:World}{A:Around}{E:S5}{s:Shared}
def tt(prog:Program)(w:World)(h:Heap)(v:Value):SS:=Classical.epsilon λk=>∃a,v=.ref a/\TK prog w h k a
def gR(t:TK prog w h k a):tt prog w h (.ref a)=k:=by
 have:=Classical.epsilon_spec (p:=λk=>∃b,Value.ref a=.ref b/\TK prog w h k b) ⟨k,a,rfl,t⟩
 obtain⟨b,e,f⟩:=this;cases e;exact IsTupleKey.inj f t
def Hd:∀(xs ys:SH)(j f:SS)(i:Nat),ItemsAre (intKind prog w) j xs->ItemsAre (intKind prog w) f ys->fin=decide (xs.length<ys.length)->Q (cg j f) s ->
  KatLex prog w A b fin Q (xs.zip ys) i s:=by
 intro xs
 induction xs with
 |nil =>
  intro ys j f i F H hf a;cases F
  cases H with
  |nil=>rw[hf];exact a
  |cons O M=>rw[hf];exact a
 |cons x xs P =>
  intro ys j f i F H hf a
  cases F with
  |@cons u _ z _ O C =>
   cases H with
   |nil=>rw[hf];exact a
   |@cons l y B G M L =>
    obtain⟨R,rfl⟩:=Value.isInt_shape (k:=u) (v:=x) O;obtain⟨S,rfl⟩:=Value.isInt_shape (k:=l) (v:=y) M;refine kat_cons (wpAny_eqBool_int ?_);unfold cg at a;by_cases e:u=l
    .rw[b_ e]at a
     have:(u==l)=I:=by simpa using e
     rw[this];exact kat_yes (P G z B (i+1) C L (by rw[hf];simp) a)
    .rw[c_ e]at a
     have:(u==l)=T:=by simpa using e
     rw[this];refine kat_no ?_
     cases U:(b&&i==0) with
     |true=>exact oneLt_int a
     |false=>exact kat_one _ _ (wpAny_lt_int a)
def Lj(prog:Program)(w:World)(A:Around)(E:S5)(s:Shared)(b:Bool):vo prog w A E s (tuples' b) Dm where
 key:=λp=>tt prog w s.heap p.1
 dflt:=([]:SS)
 good:=λp=>∃a k,p.1=.ref a/\TK prog w s.heap k a
 ask:=λx y st Q M S P U=>by
  obtain⟨Z,x2⟩:=x;obtain⟨y1,X⟩:=y;obtain⟨O,C,ex,F⟩:=M;obtain⟨H,B,G,ty⟩:=S;simp only at ex G;subst ex;subst G;have L:Q (J (cg C B)) st:=by
   have W:=gR F;have R:=gR ty;have e:Dm.blt (tt prog w s.heap (.ref O)) (tt prog w s.heap (.ref H))=cg C B:=by rw[W,R];rfl
   rw[<-e];exact U
  obtain⟨ox,ix,nx,z,_,f,u⟩:=F;obtain⟨oy,iy,ny,i,_,j,l⟩:=ty;rw[lt'_eq];refine wpS_bind (wpS_get ?_);rw[P];refine wpS_bind (wpS_lift (wpAny_attempt (kat_lt z f i j (Hd _ _ _ _ _ u l (by simp) ⟨rfl,?_⟩))));exact wpS_pure L
def qR{B:SH}{G:SU}{Q:SortKind->Shared->Prop}(S:BF prog w s.heap B.toArray G)(M:∀k∈G,k≠[])(h1:0<B.length)(h:Q (tuples' I) s):
  wpAny (model prog w) A (keyKind' B.toArray) Q E s:=by
 have F:B.length=G.length:=by have:=S.1;simpa using this
 have key:∀(z:SH)(y:SU),z.length=y.length->(∀(i:Nat)(v:Value)(k:SS),z[i]?=J v->y[i]?=J k->∃a,v=.ref a/\TK prog w s.heap k a)->(∀k∈y,k≠[]) ->
   ∃fs:SH,fs.length=z.length/\KatTups s.heap z fs/\∀v∈fs,∃i t,v=.int i t:=by
  intro z
  induction z with
  |nil=>intro y _ _ _;exact⟨[],rfl,KatTups.nil,λv hv=>by cases hv⟩
  |cons u z ih =>
   intro y W j X
   cases y with
   |nil=>simp at W
   |cons k y =>
    obtain⟨a,rfl,o,items,n,ho,hc,hd,hi⟩:=j 0 u k rfl rfl;obtain⟨fs,U,O,P⟩:=ih y (by simpa using W) (λi v L hv f=>j (i+1) v L (by simpa using hv) (by simpa using f)) (λL f=>X L (nt _ f))
    cases k with
    |nil=>exact absurd rfl (X [] mu)
    |cons Z kr =>
     have C:=hi;generalize H:items.toList=l at C
     cases C with
     |@cons _ v0 _ vr h0 hr =>
      obtain⟨R,rfl⟩:=Value.isInt_shape h0;have hg:items[0]?=J (.int Z R):=by rw[<-v_,H];rfl
      refine⟨.int Z R::fs,by simp[U],KatTups.cons ho hc hd hg O,λv hv=>?_⟩;rcases j_.mp hv with rfl|hv
      .exact⟨_,_,rfl⟩
      .exact P v hv
 obtain⟨fs,U,O,P⟩:=key B G F (λi v k hv f=>S.2 i v k (by simpa using hv) f) M;refine kat_kind (T:=.type "int") O ⋯ (λv hv=>?_) (by decide) ?_
 .obtain⟨i,t,rfl⟩:=P v hv;exact .now
 .exact h
def wD(ho:s.heap.get? a=J (seqObj "list" vs.toArray n))(G:BF prog w s.heap vs.toArray z)(as:∀k∈z,k≠[])(a4:vs.length<=66)(h:∀(O:SH) (R:SU),BF prog w s.heap O.toArray R->O.Perm vs->R.Perm z->Dn R->P (.done (.ret .none)) { s with heap:=sortedHeap s.heap a vs O.toArray}):
  wpAny (model prog w) A (Builtin.«list.sort» ⟨[.ref a],[]⟩) P E s:=by
 rw[list_sort_plain];have B:vs.length<=sizeLine:=by rw[sizeLine_eq];lia
 refine d_ (listItems_at ho rfl ?_);refine d_ (listUpdate_at ho rfl ?_ (by rw[q_];exact B) (u0 _));obtain⟨e1,U⟩:∃e1,(s.heap.update a (Obj.mapSeq λ_=>(#[]:Array Value))).get? a=J (seqObj "list" #[] e1):=⟨_,get?_update_seq ho λ_=>#[]⟩;refine d_ (seqEpoch_at U rfl ?_);refine d_ (wpAny_newTuple ?_ (by show vs.length<=_;exact B));refine d_ (wpAny_newList ?_ (u0 _));refine wpAny_holding ?_;have H:(((s.heap.update a (Obj.mapSeq λ_=>(#[]:Array Value))).push (seqObj "tuple" vs.toArray 0)).push (seqObj "list" #[] 0)).get? a=J (seqObj "list" #[] e1) :=
  n6 _ (n6 _ U)
 have al:∀k b,TK prog w s.heap k b->TK prog w (((s.heap.update a (Obj.mapSeq λ_=>(#[]:Array Value))).push (seqObj "tuple" vs.toArray 0)).push (seqObj "list" #[] 0)) k b:=by
  rintro k b ⟨o,items,m,hb,hc,r⟩;have W:b≠a:=by rintro rfl;rw[ho]at hb;cases hb;have a0:Value.type "list"=Value.type "tuple":=hc;exact absurd a0 (by decide)
  exact⟨o,items,m,n6 _ (n6 _ ((E8 _ _ _ _ W).trans hb)),hc,r⟩
 show wpAny (model prog w) A _ P E { s with heap:=((s.heap.update a (Obj.mapSeq λ_=>(#[]:Array Value))).push (seqObj "tuple" vs.toArray 0)).push (seqObj "list" #[] 0)};have X:BF prog w (((s.heap.update a (Obj.mapSeq λ_=>(#[]:Array Value))).push (seqObj "tuple" vs.toArray 0)).push (seqObj "list" #[] 0)) vs.toArray z :=
  ⟨G.1,λi v k hv l=>let⟨b,e,t⟩:=G.2 i v k hv l;⟨b,e,al k b t⟩⟩
 have am:vs.toArray.size=vs.length:=by simp
 dsimp only;by_cases h2:vs.toArray.size<2
 .rw[b_ h2,b_ h2];refine d_ (il ?_);rw[StateT.run_pure];refine d_ (il ?_);dsimp only;refine d_ (seqEpoch_at H rfl ?_);have hz:((vs.toArray.zip vs.toArray).map (·.2))=vs.toArray:=by
   apply Bu.mp;simp only[Oq,Array.toList_zip,List.toList_toArray];exact Ng (iv _)
  refine d_ (listUpdate_at H rfl ?_ (u0 _) (by show((vs.toArray.zip vs.toArray).map (·.2)).size<=_;rw[hz,am];lia));simp only[bne_self_eq_false,n_,if_false];refine il ?_
  have:=h vs z G (List.Perm.refl _) (List.Perm.refl _) (by
   have hl:z.length<2:=by have:=G.1;lia
   unfold Dn
   match z,hl with
   |[],_=>simp
   |[x],_=>simp)
  have e:(arrOf (SortSt.mk' general' (vs.toArray.zip vs.toArray) #[] 7 Y)).map (·.2)=vs.toArray:=hz;rw[e];exact this
 .rw[c_ h2,c_ h2];refine d_ (qR (s:={ s with heap:=_}) X as ⋯ ?_);have ay:(pairsOf vs).size=vs.length:=pairsOf_size vs
  refine d_ (wpAny_mono (rF (C:=Lj prog w A E { s with heap:=((s.heap.update a (Obj.mapSeq λ_=>(#[]:Array Value))).push (seqObj "tuple" vs.toArray 0)).push (seqObj "list" #[] 0)} I)
   (a₀:=pairsOf vs) (st:=SortSt.mk' (tuples' I) (vs.toArray.zip vs.toArray) #[] 7 Y)
   (Q:=λ_ f=>(arrOf f).Perm (pairsOf vs)/\failedOf f=Y/\tr (Lj prog w A E { s with heap:=((s.heap.update a (Obj.mapSeq λ_=>(#[]:Array Value))).push (seqObj "tuple" vs.toArray 0)).push (seqObj "list" #[] 0)} I) (arrOf f) 0 (pairsOf vs).size)
   ?_ ⟨Array.Perm.refl _,rfl,rfl⟩ rfl ⋯ ⋯ λf a1 a2 a3=>⟨a1,a2,a3⟩) ?_ λ_ _ e=>e)
  .intro p S;rw[pairsOf_toList]at S;obtain⟨q1,q2⟩:=mem_zip_self S;obtain⟨i,y⟩:=zt.mp q2
   obtain⟨k,l⟩:∃k,z[i]?=J k:=⟨_,AY (by
    have h3:=(r_.mp y).1
    have:=G.1;lia)⟩
   obtain⟨b,e,t⟩:=X.2 i p.1 k (by simpa using y) l;exact⟨b,k,e,t⟩
  .rintro⟨⟨⟩,f⟩ s' ⟨rfl,S,hf,hs⟩;dsimp only;refine d_ (seqEpoch_at H rfl ?_);have hz:((arrOf f).map (·.2)).size=vs.length:=by rw[Oz,S.size_eq,ay]
   refine d_ (listUpdate_at H rfl ?_ (u0 _) (by show((arrOf f).map (·.2)).size<=_;rw[hz];lia));rw[hf];simp only[bne_self_eq_false,n_,if_false];refine il ?_;have hl:(arrOf f).toList.Perm (vs.zip vs):=by rw[<-pairsOf_toList];exact M4.mp S
   have F:∀p,p∈(arrOf f).toList->p.1=p.2/\p.1∈vs:=λp ap=>mem_zip_self (hl.mem_iff.mp ap);have hv:∀v,v∈vs->∃k b,v=.ref b/\TK prog w s.heap k b/\k∈z:=λv hv=>by
    obtain⟨i,y⟩:=zt.mp hv
    obtain⟨k,l⟩:∃k,z[i]?=J k:=⟨_,AY (by
     have h3:=(r_.mp y).1
     have:=G.1;lia)⟩
    obtain⟨b,e,t⟩:=G.2 i v k (by simpa using y) l;exact⟨k,b,e,t,zt.mpr ⟨i,l⟩⟩
   have Z:vs.map (tt prog w s.heap)=z:=by
    apply JR;intro i;rw[wl]
    cases y:vs[i]? with
    |none =>
     have:=List.getElem?_eq_none_iff.mp y
     rw[Br (by have:=G.1;lia)];rfl
    |some v =>
     obtain⟨k,l⟩:∃k,z[i]?=J k:=⟨_,AY (by
      have h3:=(r_.mp y).1
      have:=G.1;lia)⟩
     obtain⟨b,e,t⟩:=G.2 i v k (by simpa using y) l;subst e;rw[l];show J (tt prog w s.heap (.ref b))=J k;rw[gR t]
   have L:∀v,v∈vs->tt prog w (((s.heap.update a (Obj.mapSeq λ_=>(#[]:Array Value))).push (seqObj "tuple" vs.toArray 0)).push (seqObj "list" #[] 0)) v=tt prog w s.heap v:=λv u=>by
    obtain⟨k,b,rfl,t,_⟩:=hv v u;rw[gR t,gR (al k b t)]
   have M:=h ((arrOf f).toList.map (·.2)) ((arrOf f).toList.map λp=>tt prog w s.heap p.1) ?_ ?_ ?_ ?_
   .have e:((arrOf f).toList.map (·.2)).toArray=(arrOf f).map (·.2):=by apply Bu.mp;simp
    rw[e]at M;exact M
   .refine⟨by simp,λi v k u l=>?_⟩;rw[M8,wl]at u;rw[wl]at l
    cases y:(arrOf f).toList[i]? with
    |none=>rw[y]at u;cases u
    |some p =>
     rw[y]at u l;cases u;cases l;obtain⟨q1,q2⟩:=F p (AC y);obtain⟨k,b,e,t,_⟩:=hv p.1 q2;refine⟨b,by show p.2=_;rw[<-q1];exact e,?_⟩;show TK prog w s.heap (tt prog w s.heap p.1) b;rw[e,gR t];exact t
   .have q:=hl.map (·.2);rw[Ng (iv _)]at q;exact q
   .have q:=hl.map λp=>tt prog w s.heap p.1;have e2:(vs.zip vs).map (λp=>tt prog w s.heap p.1)=z:=by
     rw[<-Z]
     have:(vs.zip vs).map (λp=>tt prog w s.heap p.1)=((vs.zip vs).map Prod.fst).map (tt prog w s.heap):=by rw[xg];rfl
     rw[this,List.map_fst_zip (iv _)]
    rw[e2]at q;exact q
   .unfold Dn;rw[A5,Jc];intro i j y hj ax;have an:i<(arrOf f).size:=by simpa using y
    have ab:j<(arrOf f).size:=by simpa using hj
    have q:=hs i j (u0 _) (vu ax) (by rw[<-S.size_eq];exact ab);rw[aO (getElem?_pos _ i an),aO (getElem?_pos _ j ab)]at q;have m1:=(F (arrOf f)[i] (by simp)).2;have m2:=(F (arrOf f)[j] (by simp)).2;have q':cg (tt prog w (((s.heap.update a (Obj.mapSeq λ_=>(#[]:Array Value))).push (seqObj "tuple" vs.toArray 0)).push (seqObj "list" #[] 0)) (arrOf f)[j].1)
     (tt prog w (((s.heap.update a (Obj.mapSeq λ_=>(#[]:Array Value))).push (seqObj "tuple" vs.toArray 0)).push (seqObj "list" #[] 0)) (arrOf f)[i].1)=T:=q
    rw[L _ m1,L _ m2]at q';simpa using q'
def dq(j:h.get? a=J (seqObj "list" vs.toArray n))(f:Array Value):∃c,(sortedHeap h a vs f).get? a=J (seqObj "list" f c):=by obtain⟨e1,i⟩:∃e1,(h.update a (Obj.mapSeq λ_=>(#[]:Array Value))).get? a=J (seqObj "list" #[] e1):=⟨_,get?_update_seq j λ_=>#[]⟩;exact⟨_,get?_update_seq (n6 _ (n6 _ i)) λ_=>f⟩
def c8(i:b≠a)(j:h.get? b=J o)(f:Array Value):(sortedHeap h a vs f).get? b=J o:=by unfold sortedHeap;rw[E8 _ _ _ _ i];exact n6 _ (n6 _ ((E8 _ _ _ _ i).trans j))
structure Told(prog:Program)(w:World)(R:Value->Prop)(H0 h h':Heap)(l:Addr)(ks:SU)(out:SH)(ks':SU):Prop where
 ext:zx h h'
 fresh:h.get? l=Y
 size:h.objs.size<=l
 at':∃c,h'.get? l=J (seqObj "list" out.toArray c)
 lie:BF prog w H0 out.toArray ks'
 perm:ks'.Perm ks
 ris:Dn ks'
 mem:∀v∈out,R v
def pE(hx:zx H0 s.heap)(am:∀k∈ks,k≠[])(ab:ks.length<=66)(hc:wpAny (model prog w) A.in1 (collect v) (λj s1=>∃H C f,s1={ s with heap:=H,toks:=C}/\zx s.heap H/\s.heap.objs.size<H.objs.size/\s.toks<=C/\BF prog w H0 (List.toArray j) f/\f.Perm ks/\∀v∈j,R v) E s)(h:∀H C l y F,Told prog w R H0 s.heap H l ks y F->s.toks<=C->Q (.ref l) { s with heap:=H,toks:=C}):
  wpAny (model prog w) A (call (.builtin "sorted") [v]) Q E s:=by
 refine Calls.call_function_entry kind_sorted plain_sorted entry_sorted (args_sorted1 _) ?_;refine d_ (il ?_);refine d_ (wpAny_mono hc (λj s1 Z=>?_) λ_ _ e=>e);obtain⟨B,C,f,rfl,L,M,ap,a,p1,hR⟩:=Z;have W:j.length=f.length:=by have:=a.1;simpa using this
 have U:j.length<=66:=by rw[W,p1.length_eq];exact ab
 refine d_ (wpAny_newList ?_ (by rw[sizeLine_eq];lia));have G:(B.push (seqObj "list" j.toArray 0)).get? B.objs.size=J (seqObj "list" j.toArray 0):=yM _ rfl;have up:∀b o,B.get? b=J o->(B.push (seqObj "list" j.toArray 0)).get? b=J o:=λb o e=>n6 _ e;have S:BF prog w (B.push (seqObj "list" j.toArray 0)) j.toArray f:=⟨a.1,λi u k X O=>let⟨b,e,t⟩:=a.2 i u k X O;⟨b,e,jO (λc o ho=>up c o (L c o (hx c o ho))) t⟩⟩
 refine d_ (wpAny_holding (wpAny_call_entry slot_list_sort ⟨_,G,rfl⟩ entry_list_sort
  (wD G S (λk O=>am k (p1.mem_iff.mp O)) U λy F l2 pv p2 r2=>⟨_,rfl,?_⟩) (args_list_sort _)))
 refine il ⟨_,rfl,?_⟩;have z:s.heap.get? B.objs.size=Y:=by
  cases e:s.heap.get? B.objs.size with
  |none=>rfl
  |some o=>exact absurd (nj (L _ _ e)) (At _)
 refine h _ C B.objs.size y F ⟨λb o e=>?_,z,vu M,dq G _,⟨l2.1,λi u k X O=>?_⟩,p2.trans p1,r2,λv hv=>hR v (pv.mem_iff.mp hv)⟩ ap
 .have hb:=sv (nj (L b o e));exact c8 hb (up b o (L b o e)) _
 .obtain⟨b,e,t⟩:=l2.2 i u k X O;have al:y[i]?=J u:=by simpa using X
  have P:=pv.mem_iff.mp (AC al);obtain⟨q,Z⟩:=zt.mp P;obtain⟨k1,an⟩:∃k1,f[q]?=J k1:=⟨_,AY (by have:=(r_.mp Z).1;lia)⟩;obtain⟨b1,e1,t1⟩:=a.2 q u k1 (by simpa using Z) an;rw[e]at e1;cases e1;have t2:=jO (λc o ho=>up c o (L c o (hx c o ho))) t1
  have:=IsTupleKey.inj t t2
  subst this;exact⟨b,e,t1⟩
def vz(H:A.handled=Y)(y:di prog w (PB H0 R) s.heap S (aW w) F)(G:zx H0 s.heap)(B:∀k∈F,k≠[])(u:F.length<=66)(h:∀j i l C f,Told prog w (λv=>∃a,v=.ref a/\R a) H0 s.heap j l F C f->s.toks<=i->Q (.ref l) { s with heap:=j,toks:=i}):
  wpAny (model prog w) A (call (.builtin "sorted") [.ref S]) Q E s :=
 pE G B u (sR (by simpa using H) y G λj i L f a z b c e d=>⟨j,i,f,rfl,a,z,b,c,d,e⟩) h
def sV{l:Addr}{f:SH}{a:SU}{Q:S5}(H:s.heap.IsList l f.toArray)(B:BF prog w s.heap f.toArray a)(u:∀k∈a,k≠[])(i:a.length<=66)(h:∀G C l y z,Told prog w (·∈f) s.heap s.heap G l a y z->s.toks<=C->Q (.ref l) { s with heap:=G,toks:=C}):
  wpAny (model prog w) A (call (.builtin "sorted") [.ref l]) Q E s:=by
 have F:f.length=a.length:=by have:=B.1;simpa using this
 refine pE (λb o e=>e) u i (collect_list H ⟨_,s.toks,a,rfl,λb o e=>?_,by rw[Ot,size_push'];exact Jg _,iv _,B,List.Perm.refl _,λv hv=>hv⟩ (by rw[sizeLine_eq];lia)) h;have j:=nj e;rw[E8 _ _ _ _ (sv j)];exact n6 _ e
end
end SortT
namespace SortT
open PyProof.Rows PySem.W
def PN:KeyOrd:=⟨Int,λa b=>decide (a<b),λa=>by simp,λa b c i f=>by simp only[decide_eq_true_eq]at *;lia,λa b c h=>by simp only[decide_eq_true_eq]at *;lia,λa b i f=>by simp only[decide_eq_false_iff_not]at *;lia⟩
section
variable{prog:Program}{w:World}{A:Around}{E:S5}{s:Shared}{rk:Value->Int}{vs:SH}
def kc:∀{l:SH}{x y:Value},(l.map rk).Nodup->x∈l->y∈l->rk x=rk y->x=y
 |[],_,_,_,h,_,_=>by cases h
 |a::l,x,y,nd,u,j,e=>by
  rw[mO,Ff]at nd;rcases j_.mp u with i|i
  .rcases j_.mp j with f|f
   .exact i.trans f.symm
   .exact absurd (k6.mpr ⟨y,f,e.symm.trans (congrArg rk i)⟩) nd.1
  .rcases j_.mp j with f|f
   .exact absurd (k6.mpr ⟨x,i,e.trans (congrArg rk f)⟩) nd.1
   .exact kc nd.2 i f e
end
end SortT
namespace MM
open PySem.Spec PyProof.Rows L2 SetT SortT
def io:SM->Option (SS)
 |[]=>J []
 |.int i::r=>(io r).map (i::·)
 |_=>Y
def NN:PV->Option (SS)
 |.tup xs=>io xs
 |_=>Y
def g6:SM->Option (SU)
 |[]=>J []
 |x::r=>(match NN x,g6 r with
  |some k,J a=>J (k::a)
  |_,_=>Y)
def kP(k:SS):PV:=.tup (k.map .int)
def cT(l:SU):SU:=l.mergeSort λx y=>!cg y x
def fM(l:SU):(cT l).Perm l:=List.mergeSort_perm _ _
def ja(l:SU):Dn (cT l):=by
 have:=Q7 (le:=λx y=>!cg y x) (λa b c i f=>by
   simp only[Fa]at i f ⊢
   exact KeyOrd.kle_trans (O:=Dm) i f) (λa b=>by
   cases h:cg b a with
   |false=>simp
   |true =>
    have:cg a b=T:=KeyOrd.klt_asymm (O:=Dm) h
    simp[this])
 unfold Dn cT
 simp_all
def nL(i:Dn l)(f:Dn m)(p:l.Perm m):l=m :=
 List.Perm.eq_of_pairwise (λa b _ _ x y=>jb a b y x) i f p
def qD:∀{xs:SM}{k:SS},io xs=J k->xs=k.map .int
 |[],k,h=>by cases h;rfl
 |x::r,k,h=>by
  cases x with
  |int i =>
   unfold io at h
   cases a:io r with
   |none=>rw[a]at h;cases h
   |some f =>
    rw[a]at h;cases h;rw[qD a];rfl
  |_=>cases h
def He(h:NN x=J k):x=kP k:=by
 cases x with
 |tup xs=>unfold kP;rw[qD (show io xs=J k from h)]
 |_=>cases h
def oR:∀{xs:SM}{f:SU},g6 xs=J f->xs=f.map kP
 |[],f,h=>by cases h;rfl
 |x::r,f,h=>by
  unfold g6 at h
  cases a:NN x with
  |none=>rw[a]at h;cases h
  |some k =>
   cases i:g6 r with
   |none=>rw[a,i]at h;cases h
   |some j =>
    rw[a,i]at h;cases h;rw[He a,oR i];rfl
def Do(K:h8)(H:Hp)(ys:List V)(f:SU):Prop :=
 ys.length=f.length/\∀(i:Nat)(y:V)(k:SS),ys[i]?=J y->f[i]?=J k->∃a,y=.ref a/\SqT K H a (k.map V.int)
def AO{K:h8}{U:SX}{H:Hp}:∀{k:SS}{ys:List V},RPs K U H (k.map PV.int) ys->ys=k.map V.int
 |[],ys,h=>by cases h;rfl
 |i::k,ys,h=>by
  cases h with
  |cons r t =>
   cases r;rw[AO t];rfl
def oX{K:h8}{U:SX}{H:Hp}:∀{a:SU}{ys:List V},RPs K U H (a.map kP) ys->Do K H ys a
 |[],ys,h=>by cases h;exact⟨rfl,λi y k e=>by simp at e⟩
 |k::a,ys,h=>by
  cases h with
  |cons r t =>
   obtain⟨l,g⟩:=oX t;refine⟨by simp[l],λi y u e1 e2=>?_⟩
   cases i with
   |zero =>
    simp at e1 e2;subst e1;subst e2
    cases r with
    |tup f j =>
     rw[AO j]at f;exact⟨_,rfl,f⟩
   |succ i=>exact g i y u (by simpa using e1) (by simpa using e2)
def ot{K:h8}{U:SX}{H:Hp}:∀{f:SU}{ys:List V},Do K H ys f->RPs K U H (f.map kP) ys
 |[],ys,h=>by
  have:=E5.mp (by have:=h.1;simpa using this)
  subst this;exact .nil
 |k::f,ys,h=>by
  cases ys with
  |nil=>have:=h.1;simp at this
  |cons y ys =>
   obtain⟨a,rfl,u⟩:=h.2 0 y k rfl rfl;refine .cons (.tup u (RPs.ints k)) (ot ⟨by have:=h.1;simpa using this,λi l j e1 e2=>h.2 (i+1) l j (by simpa using e1) (by simpa using e2)⟩)
def m4:∀{k:SS}{a:SH},aD (k.map V.int) a->ItemsAre (intKind prog w) k a
 |[],_,h=>by cases h;exact .nil
 |i::k,_,h=>by
  cases h with
  |cons r t =>
   obtain⟨f,rfl⟩:=r;exact .cons (intKind_is _ _ _ _) (m4 t)
section
variable{X:Cx}{Kh:List (Addr × Obj)}{Z:L2.St}{H:Hp}{s:Shared}
def nP(i:Inv X Kh Z H s)(h:SqT X.K H a (k.map V.int)):TK X.prog X.w s.heap k a:=by obtain⟨f,j,⟨o,u,l,n,hd⟩,_⟩:=i.tuple h;exact⟨o,f.toArray,n,u,l,hd,by simpa using m4 j⟩
def um(f:Inv X Kh Z H s)(h:Do X.K H ys ks)(l:aD ys its):BF X.prog X.w s.heap its.toArray ks:=by
 refine⟨by simp[<-l.length,h.1],λi v k hv y=>?_⟩;have B:i<ys.length:=by rw[h.1];exact(r_.mp y).1
 obtain⟨a,e,z⟩:=h.2 i ys[i] k (by simp) y;obtain⟨u,C,j⟩:=l.get (show ys[i]?=J ys[i] by simp)
 have:v=u:=by simp_all
 subst this;rw[e]at j;exact⟨a,j,nP f z⟩
end
def EJ(prog:Program)(w:World)(S:Addr)(i:List (SS×Addr))(h:Heap):Prop :=
 ∃o a f t,h.get? S=J o/\o.ExactSet/\o.data=.set a f t/\t.dummies=#[]/\(t.mask=7\/t.mask=31\/t.mask=127)/\t.plain=I/\t.led=aW w /\
  WF t.mask t.place (a.map (·.1))/\kU t a.size/\a.toList=i.map λp=>(TH prog w p.1,Value.ref p.2)
def Hf(f:di prog w P h S (aW w) ks):
  ∃j,EJ prog w S j h/\(j.map (·.1)).Perm ks/\∀p∈j,TK prog w h p.1 p.2/\P p.2:=by
 obtain⟨o,L,O,t,F,f,R,G,W⟩:=f;have key:∀(l:List (Int×Value))(u:SU),l.length=u.length->(∀(i:Nat)(e:Int×Value)(k:SS),l[i]?=J e->u[i]?=J k->∃a,e.2=.ref a/\TK prog w h k a/\e.1=TH prog w k/\P a) ->
   ∃j:List (SS×Addr),l=j.map (λp=>(TH prog w p.1,Value.ref p.2))/\j.map (·.1)=u/\∀p∈j,TK prog w h p.1 p.2/\P p.2:=by
  intro l
  induction l with
  |nil =>
   intro u z _
   have:=E5.mp (by simpa using z.symm)
   subst this;exact⟨[],rfl,rfl,λp y=>by cases y⟩
  |cons e l U =>
   intro u z g
   cases u with
   |nil=>simp at z
   |cons k u =>
    obtain⟨a,e1,e2,e3,e4⟩:=g 0 e k rfl rfl;obtain⟨j,M,E,B⟩:=U u (by simpa using z) λi X Q H C=>g (i+1) X Q (by simpa using H) (by simpa using C);refine⟨(k,a)::j,?_,by simp[E],λp y=>?_⟩
    .congr 1;obtain⟨Z,x2⟩:=e;simp only at e1 e3;rw[e1,e3]
    .rcases j_.mp y with rfl|y
     .exact⟨e2,e4⟩
     .exact B p y
 obtain⟨j,M,E,B⟩:=key L.toList F (by exact f.ents.1) λi e k H C=>f.ents.2 i e k (by rw[<-v_];exact H) C;exact⟨j,⟨o,L,O,t,f.get,f.ex,f.data,f.dm,f.mask,f.plain,f.led',f.wf,R,M⟩,by rw[E];exact G,B⟩
def Dp(p:EJ prog w S f h)(O:∀q∈f,TK prog w h q.1 q.2)(B:(f.map (·.1)).Nodup):
  di prog w (PB h λa=>∃k,(k,a)∈f) h S (aW w) (f.map (·.1)):=by
 obtain⟨o,U,H,t,G,Q,P,Z,M,L,W,F,R,j⟩:=p;refine⟨o,U,H,t,f.map (·.1),⟨G,Q,P,Z,M,L,W,F,?_,λi e k l u=>?_⟩,R,List.Perm.refl _,B⟩
 .rw[<-wh,j];simp
 .rw[<-v_,j,wl]at l;rw[wl]at u
  cases y:f[i]? with
  |none=>rw[y]at l;cases l
  |some q =>
   rw[y]at l u;cases l;cases u;have E:=AC y;have C:=O q E;exact⟨q.2,rfl,C,rfl,let⟨X,_,_,z,_⟩:=C;⟨X,z⟩,q.1,E⟩
def vZ(p:EJ prog w S al h1)(k:∀o,h1.get? S=J o->h2.get? S=J o):EJ prog w S al h2:=by obtain⟨o,f,i,t,a,r⟩:=p;exact⟨o,f,i,t,k o a,r⟩
section
variable{X:Cx}{N W G:SQ}{k:Nat}
def yf(hh:X.calm=I)(hr:Room k X.A):bK X (.type "set") (λxs H Q=>∃l ys y,xs=[.ref l]/\SqL X.K H l ys/\Do X.K H ys y/\(qb y).length<=66 /\
  ∀S j,H S=Y->(j.map (·.1)).Perm (qb y)->(∀p∈j,SqT X.K H p.2 (p.1.map V.int))->Q (.ref S) (ls H S (.ext (EJ X.prog X.w S j)))):=by
 intro Kh s Z H xs us Q f r ⟨l,ys,y,e,hq,E,C,q⟩;subst e;obtain⟨u,rfl,rx⟩:=c6 r;cases rx;obtain⟨F,R,pl,hz⟩:=f.list hq;have lie:=um f E R;refine pV (f.ok.hd hh) (by have:=hr.units;lia) pl.isList lie C λh' tk O x am=>?_;obtain⟨j,sp,pm,L⟩:=Hf O;have P:=f.hok.fresh (iv s.heap.objs.size);obtain⟨o,es,ep,t,ho,ab⟩:=id sp;refine⟨.ref s.heap.objs.size,_,f.laid (o:=.ext (EJ X.prog X.w s.heap.objs.size j)) x (iv _) ⟨sp,⟨o,ho⟩,λh1 h2 a b=>vZ a b⟩,rfl,q _ j P pm λp hp=>?_⟩;obtain⟨t1,⟨_,hm⟩⟩:=L p hp;obtain⟨i,hi⟩:=zt.mp hm;have z:F[i]?=J (.ref p.2):=by simpa using hi
 have M:=(r_.mp z).1;have B:i<ys.length:=by rw[R.length];exact M
 have U:i<y.length:=by rw[<-E.1];exact B
 obtain⟨a,e,s1⟩:=E.2 i ys[i] y[i] (by simp) (by simp);obtain⟨u,eu,ru⟩:=R.get (show ys[i]?=J ys[i] by simp);rw[z]at eu;cases eu;rw[e]at ru;have ea:p.2=a:=by cases ru;rfl
 have t2:=jO x (nP f s1);rw[<-ea]at t2
 have:=IsTupleKey.inj t1 t2
 rw[this,ea];exact s1
def tF{Kh:SK}{s:Shared}{Z:L2.St}{H:Hp}{Q:VK}{R:Value->Prop}{h':Heap}{tk:Nat}{l:Addr}{S F:SU}{j:SH}(E:Inv X Kh Z H s)(f:Told X.prog X.w R s.heap s.heap h' l S j F)(hR:∀v,R v->∃(a:Addr)(k:SS),v=.ref a/\SqT X.K H a (k.map V.int))(hz:S.length<=66)(q:∀l ys,H l=Y->Do X.K H ys (cT S)->Q (.ref l) (ls H l (.lst ys))):EP X Kh Z Q (.ref l) { s with heap:=h',toks:=tk}:=by
 have O:=f.size;have M:=nL f.ris (ja S) (f.perm.trans (fM S).symm);obtain⟨c,hc⟩:=f.at';have z:j.length=F.length:=by have:=f.lie.1;simpa using this
 have B:∀v∈j,∃a,v=.ref a:=λv hv=>let⟨a,_,e,_⟩:=hR v (f.mem v hv);⟨a,e⟩;obtain⟨ys,U,C⟩:∃ys:List V,aD ys j/\∀y∈ys,∃a,y=.ref a/\Value.ref a∈j:=by
  clear z f hR M hc
  induction j with
  |nil=>exact⟨[],.nil,λy C=>by cases C⟩
  |cons v j ih =>
   obtain⟨a,rfl⟩:=B v mu;obtain⟨ys,r,g⟩:=ih (λu hu=>B u (nt _ hu));refine⟨.ref a::ys,.cons rfl r,λy C=>?_⟩;rcases j_.mp C with rfl|C
   .exact⟨a,rfl,mu⟩
   .obtain⟨b,e,m⟩:=g y C;exact⟨b,e,nt _ m⟩
 have L:Do X.K H ys F:=by
  refine⟨by rw[U.length,z],λi y k P hk=>?_⟩;obtain⟨u,eu,ru⟩:=U.get P;obtain⟨a,e,m⟩:=C y (AC P);subst e;cases ru;obtain⟨b,k2,e2,s1⟩:=hR _ (f.mem _ m);cases e2;obtain⟨b2,e3,t⟩:=f.lie.2 i (.ref a) k (by simpa using eu) hk;cases e3
  have:=IsTupleKey.inj t (nP E s1)
  subst this;exact⟨a,rfl,s1⟩
 have ab:=E.hok.fresh O;refine⟨.ref l,_,E.laid (o:=.lst ys) f.ext O (⟨?_,j,c,U,hc⟩),rfl,q l ys ab (by rw[<-M];exact L)⟩;rw[U.length,z,f.perm.length_eq,sizeLine_eq];lia
def rO(hh:X.calm=I):bK X (.builtin "sorted") (λxs H Q=>∃S i,xs=[.ref S]/\H S=J (.ext (EJ X.prog X.w S i))/\(∀p∈i,SqT X.K H p.2 (p.1.map V.int))/\(i.map (·.1)).Nodup/\(∀p∈i,p.1≠[])/\i.length<=66 /\
  ∀l ys,H l=Y->Do X.K H ys (cT (i.map (·.1)))->Q (.ref l) (ls H l (.lst ys))):=by
 intro Kh s Z H xs us Q f r ⟨S,i,e,hS,j,C,z,E,q⟩;subst e;obtain⟨u,rfl,M⟩:=c6 r;cases M;obtain⟨O,_,_⟩:=(f.hok S _ hS);have B:=Dp O (λp y=>nP f (j p y)) C;refine vz (f.ok.hd hh) B (λb o e=>e) (λk P=>?_) (by simpa using E) λh' tk l R ab F U=>?_
 .obtain⟨p,y,rfl⟩:=k6.mp P;exact z p y
 .refine tF f F (λv ⟨a,e,k,L⟩=>⟨a,k,e,j (k,a) L⟩) (by simpa using E) q
def qN:bK X (.builtin "sorted") (λxs H Q=>∃l ys j,xs=[.ref l]/\SqL X.K H l ys/\Do X.K H ys j/\(∀k∈j,k≠[])/\j.length<=66 /\
  ∀B y,H B=Y->Do X.K H y (cT j)->Q (.ref B) (ls H B (.lst y))):=by
 intro Kh s Z H xs us Q f r ⟨l,ys,j,e,hq,C,F,O,q⟩;subst e;obtain⟨u,rfl,rx⟩:=c6 r;cases rx;obtain⟨ab,L,pl,ap⟩:=f.list hq;refine sV pl.isList (um f C L) F O λh' tk B al an U am=>?_;refine tF f U (λv hv=>?_) O q;obtain⟨i,R⟩:=zt.mp hv;have E:=(r_.mp R).1;have z:i<ys.length:=by rw[L.length];exact E
 have S:i<j.length:=by rw[<-C.1];exact z
 obtain⟨a,e,s1⟩:=C.2 i ys[i] j[i] (by simp) (by simp);obtain⟨u,P,M⟩:=L.get (show ys[i]?=J ys[i] by simp);rw[R]at P;cases P;rw[e]at M;exact⟨a,_,M,s1⟩
def b7(h:MH):PV->Option (SM)
 |.frl xs=>J xs
 |.loc n=>(match h[n]? with
  |some (.lst xs)=>J xs
  |_=>Y)
 |_=>Y
def kH{U:SX}{H:Hp}{h:MH}{x:PV}{y:V}{xs:SM}{K:h8}{mg:AE}(u:RH K mg U H h)(r:RP K U H x y)(e:b7 h x=J xs):∃a f,y=.ref a/\SqL K H a f/\RPs K U H xs f:=by
 cases r with
 |frl s r=>cases e;exact⟨_,_,rfl,s.sq,r⟩
 |@loc n a z =>
  obtain⟨o,B,j⟩:=u.obj z;unfold b7 at e;dsimp only at e;rw[B]at e
  cases o with
  |lst f =>
   cases e;obtain⟨ys,l,i⟩:=j;exact⟨a,ys,rfl,SqL.of l,i⟩
  |_=>cases e
 |_=>cases e
def Su(m:Mx (SM)):Mx PV:=λZ h=>(m Z h).bind λi f=>match i with
 |[x]=>(match (b7 f x).bind g6 with
  |some a=>if(∀k∈a,k≠[])/\(qb a).length<=66 then .ok (.loc f.length) (f++[.lst ((cT (qb a)).map kP)])else .bad
  |none=>.bad)
 |_=>.bad
def jW(l:SU):(qb l).Nodup:=by
 have key:∀(m:SU)(a:SU),a.Nodup->(m.foldl SetT.d9 a).Nodup:=by
  intro m
  induction m with
  |nil=>intro a h;exact h
  |cons k m f =>
   intro a h;refine f _ ?_;unfold SetT.d9;split
   .exact h
   .rename_i j
    rw[A4];refine⟨h,by simp,λx i y u=>?_⟩
    have:y=k:=by simpa using u
    subst this;rintro rfl;exact j i
 exact key l [] Ni
def vX(p:l.Perm m):cT l=cT m:=nL (ja l) (ja m) ((fM l).trans (p.trans (fM m).symm))
def sJ(g:Good X N W G k){a:Expr}{m:Mx (SM)}{i j:Nat}{p F M u:Pos}(hi:G[i]?=J "sorted")(hm:X.mg "sorted"=Y)(hj:G[j]?=J "set")(L:X.mg "set"=Y)(ha:MA X [a] m)(hs:starEach [a] X.env=[(T,eval a X.env)]:=by rfl)(he:starEach [.Call (.Name "set" F) [a] [] u] X.env=[(T,eval (.Call (.Name "set" F) [a] [] u) X.env)]:=by rfl):
  ME X (.Call (.Name "sorted" p) [.Call (.Name "set" F) [a] [] u] [] M) (Su m):=by
 have d:=g.dbg _ (pu _ (az hi));have d':=g.dbg _ (pu _ (az hj));refine PE.imp (dD (rO g.calm) (g.gl _ (az hi)) hm PyProof.Rows.Boot.«sorted» (bY (fN (yf g.calm g.room) (g.gl _ (az hj)) L PyProof.Rows.Boot.«set» ha d'.2.2 d'.1 hs rfl) dZ he) d.2.2 d.1 he rfl) λZ H Q ⟨U,ab,h,rs,rh,q⟩=>?_;refine⟨U,ab,h,rs,rh,Ful.bind q λU1 H1 x x' h1 ex l1 B rx f=>?_⟩
 cases rx with
 |nil=>exact f.elim
 |@cons y y' _ _ r1 t1 =>
  cases t1 with
  |cons _ _=>exact f.elim
  |nil =>
   dsimp only at f
   cases hl:b7 h1 y with
   |none=>rw[hl]at f;exact f.elim
   |some xs =>
    rw[hl]at f
    cases P:g6 xs with
    |none=>simp only[Ar,P]at f;exact f.elim
    |some C =>
     simp only[Ar,P]at f;by_cases z:(∀k∈C,k≠[])/\(qb C).length<=66
     .rw[b_ z]at f;obtain⟨la,zs,rfl,an,E⟩:=kH B r1 hl;rw[oR P]at E;refine⟨la,zs,C,rfl,an,oX E,z.2,λS al hS pm R=>?_⟩;obtain⟨as,l2⟩:=B.loose hS (.ext (EJ X.prog X.w S al));refine⟨S,al,rfl,bL,λp O=>l2.sqt (R p O),pm.nodup_iff.mpr (jW C),λp O=>?_,?_,λl ys ap tk=>?_⟩
      .have:p.1∈qb C:=pm.mem_iff.mp (k6.mpr ⟨p,O,rfl⟩)
       exact z.1 p.1 ((n4 _ _).mp this)
      .have:=pm.length_eq
       rw[oh]at this;rw[this];exact z.2
      .rw[vX pm]at tk;obtain⟨am,l3⟩:=as.new ap (o:=.lst ((cT (qb C)).map kP)) (ho:=.lst ys) ⟨_,rfl,ot tk⟩;exact f _ _ _ (l2.trans l3) am (.loc (by rw[<-B.len];simp))
     .rw[c_ z]at f;exact f.elim
end
end MM
namespace SeqT
section
variable{prog:Program}{w:World}{A:Around}{E:S5}{s:Shared}
end
section
variable{prog:Program}{w:World}{A:Around}{E:S5}{s:Shared}{z TI TO i1 i2 l1 l2:Addr}{t1 t2:Bool}{k1 k2:Nat}{xs ys:Array Value}
end
section
variable{prog:Program}{w:World}{A:Around}{E:S5}{s:Shared}
end
end SeqT
namespace MM
open PySem.Spec PyProof.Rows L2 SeqT
section
variable{X:Cx}{Kh:List (Addr × Obj)}{Z:L2.St}{H:Hp}{s:Shared}
end
section
variable{X:Cx}{N W G:SQ}{k:Nat}
end
end MM
namespace MM
open PySem.Spec PyProof.Rows L2 SetT SortT
def eJ:SM->Option (SS)
 |[]=>J []
 |.int i::r=>(eJ r).map (i::·)
 |_=>Y
def bF(l:SS):SS:=l.mergeSort λa b=>decide (a<=b)
def bo(l:SS):(bF l).Perm l:=List.mergeSort_perm _ _
def hJ(l:SS):(bF l).Pairwise (·<=·):=by
 have:=Q7 (le:=λa b:Int=>decide (a<=b)) (λa b c i f=>by
   simp only[decide_eq_true_eq]at i f ⊢;lia) (λa b=>by
   lia)
 unfold bF
 simp_all
def kY{l m:SS}(i:l.Pairwise (·<=·))(f:m.Pairwise (·<=·))(p:l.Perm m):l=m :=
 List.Perm.eq_of_pairwise (λa b _ _ x y=>by lia) i f p
def kI:∀{xs:SM}{k:SS},eJ xs=J k->xs=k.map .int
 |[],k,h=>by cases h;rfl
 |x::r,k,h=>by
  cases x with
  |int i =>
   unfold eJ at h
   cases a:eJ r with
   |none=>rw[a]at h;cases h
   |some f =>
    rw[a]at h;cases h;rw[kI a];rfl
  |_=>cases h
def n7(xs:SM)(h:MH):S4:=match xs with
 |[x]=>(match b7 h x with
  |some ys=>(match eJ ys with
   |some ns=>if ns.length<64 then .ok (.loc h.length) (h++[.lst ((bF ns).map .int)])else .bad
   |none=>(match g6 ys with
    |some a=>if(∀k∈a,k≠[])/\a.length<=66 then .ok (.loc h.length) (h++[.lst ((cT a).map kP)])else .bad
    |none=>.bad))
  |none=>.bad)
 |_=>.bad
def lS:∀{ns:SS}{a:SH},aD (ns.map V.int) a->IntsAre a ns
 |[],_,h=>by cases h;exact .nil
 |i::k,_,h=>by
  cases h with
  |cons r t =>
   obtain⟨f,rfl⟩:=r;exact .cons i f (lS t)
def lT:∀{ns:SS}{a:SH},IntsAre a ns->aD (ns.map V.int) a
 |_,_,.nil=>.nil
 |_,_,.cons n t h=>.cons ⟨t,rfl⟩ (lT h)
section
variable{X:Cx}{N W G:SQ}{k:Nat}
def rQ:bK X (.builtin "sorted") (λxs H Q=>∃l ns,xs=[.ref l]/\SqL X.K H l (ns.map V.int)/\ns.length<64/\∀B,H B=Y->Q (.ref B) (ls H B (.lst ((bF ns).map V.int)))):=by
 intro Kh s Z H xs us Q f r ⟨l,ns,e,hq,hz,q⟩;subst e;obtain⟨u,rfl,L⟩:=c6 r;cases L;obtain⟨a,F,P,U⟩:=f.list hq;have y:=F.length;rw[oh]at y;refine sorted_ints P.isList (lS F) ⋯ λj M h1 R S=>?_;have e:=kY S (hJ ns) (R.trans (bo ns).symm);subst e;have z:((s.heap.push (seqObj "list" #[] 0)).update s.heap.objs.size (Obj.mapSeq (·++a.toArray))).objs.size=s.heap.objs.size+1:=by rw[Ot,size_push']
 have C:(((s.heap.push (seqObj "list" #[] 0)).update s.heap.objs.size (Obj.mapSeq (·++a.toArray))).push (seqObj "list" a.toArray 0)).get? (s.heap.objs.size+1)=J (seqObj "list" a.toArray 0):=by rw[<-z];exact yM _ rfl
 obtain⟨c,O⟩:=dq C j;refine⟨.ref (s.heap.objs.size+1),_,f.laid (o:=.lst ((bF ns).map V.int)) (t':=s.toks) (λb o E=>?_) (B4 _) (⟨?_,j.toList,c,lT h1,?_⟩),rfl,q _ (f.hok.fresh (B4 _))⟩
 .have i:=nj E;refine c8 (sv (Fb i)) ?_ _;refine n6 _ ?_;rw[E8 _ _ _ _ (sv i)];exact n6 _ E
 .rw[oh,(bo ns).length_eq,sizeLine_eq];lia
 .unfold sortedAll;rw[O]
def xc:ck X (.builtin "sorted") n7:=by
 intro R s Z H xs O Q B r ⟨U,h,ps,u,rp,q⟩
 cases rp with
 |nil=>exact q.elim
 |@cons x y _ _ S t1 =>
  cases t1 with
  |cons _ _=>exact q.elim
  |nil =>
   unfold n7 at q;dsimp only at q
   cases F:b7 h x with
   |none=>rw[F]at q;exact q.elim
   |some P =>
    rw[F]at q;dsimp only at q;obtain⟨M,ys,rfl,i,a⟩:=kH u S F
    cases L:eJ P with
    |some ns =>
     rw[L]at q;dsimp only at q;by_cases z:ns.length<64
     .rw[b_ z]at q;rw[kI L]at a;rw[AO a]at i;refine rQ R s Z H _ O Q B r ⟨M,ns,rfl,i,z,λl j=>?_⟩;obtain⟨f,l3⟩:=u.new j (o:=.lst ((bF ns).map .int)) ⟨_,rfl,RPs.ints _⟩;exact q _ _ _ l3 f (.loc (by rw[<-u.len];simp))
     .rw[c_ z]at q;exact q.elim
    |none =>
     rw[L]at q
     cases E:g6 P with
     |none=>rw[E]at q;exact q.elim
     |some C =>
      rw[E]at q;dsimp only at q;by_cases z:(∀k∈C,k≠[])/\C.length<=66
      .rw[b_ z]at q;rw[oR E]at a;refine qN R s Z H _ O Q B r ⟨M,ys,C,rfl,i,oX a,z.1,z.2,λl ab j tk=>?_⟩;obtain⟨f,l3⟩:=u.new j (o:=.lst ((cT C).map kP)) ⟨_,rfl,ot tk⟩;exact q _ _ _ l3 f (.loc (by rw[<-u.len];simp))
      .rw[c_ z]at q;exact q.elim
end
def Dq:Av X b (λ_ _=>.bad):=λj s Z H D f ⟨U,a,h,i,l,q⟩=>q.elim
end MM
namespace MM
open PySem.Spec PyProof.Rows L2
def nU(a:Nat->k4->MH->Prop):∀(xs:SM)(j:Nat)(Z:k4)(h:MH),a j Z h->(∀j Z h,a j Z h->it.ok h) ->
  (∀m Z h x,a (j+m) Z h->xs[m]?=J x->∃u B f i,g x Z h=.nx u B/\b u B=.nx f i/\a (j+m+1) f i) ->
  ∃f i,vO it g b xs Z h=.nx f i/\a (j+xs.length) f i
 |[],j,Z,h,l,hok,_=>⟨Z,h,CP (hok _ _ _ l),l⟩
 |x::r,j,Z,h,l,hok,st=>by
  obtain⟨u,B,H,F,e1,e2,G⟩:=st 0 Z h x l rfl;obtain⟨C,L,e3,E⟩:=nU a r (j+1) H F G hok λm f i y q z=>by
   have:=st (m+1) f i y (by rw[show j+(m+1)=j+1+m by lia];exact q) (by simpa using z)
   rw[show j+(m+1)+1=j+1+m+1 by lia]at this;exact this
  refine⟨C,L,?_,by rw[AU,show j+(r.length+1)=j+1+r.length by lia];exact E⟩;rw[yB (hok _ _ _ l) e1,e2];exact e3
end MM
namespace MM
open PySem.Spec PyProof.Rows L2 SetT SortT
section
variable{h:MH}{i:Int}{xs:SM}{n:Nat}
def nI(e:h[n]?=J (.lst xs))(a:xs.length<1000):bn n [v] h=.ok .non (h.set n (.lst (xs++[v]))):=by
 have z:1000<=sizeLine:=by decide
 simp only[bn,e];rw[b_ ⋯]
def uC(em:m Z h=.ok (.loc n) h1)(e:h1[n]?=J (.lst xs)):x_ f m ma Z h=(ma Z h1).bind λj a=>(f n j a).ne:=by simp_all
end
def fv:∀(k:SS),PyData.canLayAll0 (k.map .int)=I/\PyData.depthAll (k.map .int)<=1
 |[]=>⟨rfl,by simp[PyData.depthAll]⟩
 |i::k=>by
  obtain⟨a,b⟩:=fv k;constructor
  .simp[PyData.canLayAll0,PyData.canLay0,a]
  .simp only[mO,PyData.depthAll,PyData.depth];lia
end MM
namespace MM
open PySem.Spec PyProof.Rows L2
def lN(h:MH):PV->Option Bool
 |.non=>J T
 |.bl b=>J b
 |.int i=>J (i != 0)
 |.str _=>Y
 |.tup xs=>J (!xs.isEmpty)
 |.frl xs=>J (!xs.isEmpty)
 |.loc n=>match h[n]? with
  |some (.lst xs)=>J (!xs.isEmpty)
  |_=>Y
def RG(m:Mx PV):Mx Bool:=λZ h=>(m Z h).bind λv a=>match lN a v with
 |some b=>.ok b a
 |none=>.bad
section
variable{X:Cx}{N W G:SQ}{k:Nat}
def j4{K:h8}{U:SX}{H:Hp}{xs:SM}{ys:List V}(r:RPs K U H xs ys):(!xs.isEmpty)=!ys.isEmpty:=by cases r<;>rfl
def Hg{e:Expr}{m:Mx PV}(h:ME X e m)(R:∀l,isTrue e X.env l=(do let v <-l;standAt e.pos;holding [v] (truthy v)):=by intro _;rfl):MT X e (RG m):=by
 refine PT.imp (zk h R) λZ H Q ⟨U,B,h,P,O,q⟩=>⟨U,B,h,P,O,Ful.bind q λy u x x' h1 _ l1 f F j=>?_⟩
 cases F with
 |non=>exact⟨T,rfl,j y u _ (Le.refl _ _) f rfl⟩
 |bl b=>exact⟨b,rfl,j y u _ (Le.refl _ _) f rfl⟩
 |int i=>exact⟨_,rfl,j y u _ (Le.refl _ _) f rfl⟩
 |str i=>exact j.elim
 |@tup xs a ys s r=>exact⟨_,.inr (.inl ⟨ys,s,rfl⟩),by rw[<-j4 r];exact j y u _ (Le.refl _ _) f rfl⟩
 |@frl xs a ys s r=>exact⟨_,.inl ⟨ys,s.sq,rfl⟩,by rw[<-j4 r];exact j y u _ (Le.refl _ _) f rfl⟩
 |@loc n a e =>
  obtain⟨o,C,L⟩:=f.obj e
  cases o with
  |lst xs =>
   obtain⟨ys,M,E⟩:=L;simp only[lN,C]at j;exact⟨_,.inl ⟨ys,.inl (.inl M),rfl⟩,by rw[<-j4 E];exact j y u _ (Le.refl _ _) f rfl⟩
  |dic S=>simp only[lN,C]at j;exact j.elim
  |exc z=>simp only[lN,C]at j;exact j.elim
inductive zK(K:h8)(mg:AE)(cs:SQ):SX->SQ->Prop where
 |nil:zK K mg cs [] []
 |cons{D:Addr}{sup:SQ}{Ds:SX}{sups:SQ}(h:om K mg (.ref D) cs sup)(t:zK K mg cs Ds sups):zK K mg cs (D::Ds) (sup++sups)
def Sv(a:SX):TA:=λZ H Q=>Q (a.map V.ref) H
def Lk(X:Cx)(j:SQ)(i:S3)(a:SQ):Prop:=∃f,zK X.K X.mg j f a/\PA X i (Sv f)/\f.length=i.length
def Dr:Lk X cs [] []:=⟨[],.nil,PA.imp dZ λZ H Q q=>q,rfl⟩
def Ak(g:Good X N W G k){c:Str}{l f a:SQ}{j:Nat}{q:Pos}{i:S3}(u:G[j]?=J c)(C:∃D,X.mg c=J (.ref D)/\om X.K X.mg (.ref D) l f)(t:Lk X l i a)(E:starEach (.Name c q::i) X.env=(T,eval (.Name c q) X.env)::starEach i X.env:=by rfl):Lk X l (.Name c q::i) (f++a):=by
 obtain⟨D,y,M⟩:=C;obtain⟨B,L,z,F⟩:=t;have d:=g.dbg c (pu _ (az u));exact⟨D::B,.cons M L,PA.imp (bY (tz (v:=.ref D) (g.gl c (az u)) y rfl d.1) z E) λZ H Q q=>q,congrArg (·+1) F⟩
def sY{K:h8}{mg:AE}{u:SQ}{f:SX}{a:SQ}(h:zK K mg u f a){t:String}(l:t∈["NoneType","bool","int","str","tuple","list","dict"]):PySem.W.kitAny K (.type t) (f.map Value.ref)=J T:=by
 induction h with
 |nil=>rfl
 |cons j _ i=>rw[mO];unfold PySem.W.kitAny;rw[j.ty t l];exact i
def vY{K:h8}{mg:AE}{l:SQ}{j:SX}{a:SQ}(h:zK K mg l j a){x:Str}(y:x∈l){C:Addr}(u:mg x=J (.ref C)):PySem.W.kitAny K (.ref C) (j.map Value.ref)=J (a.contains x):=by
 induction h with
 |nil=>rfl
 |@cons D i j a E _ F =>
  rw[mO];unfold PySem.W.kitAny;obtain⟨H,f,_,_,B⟩:=E.ex x y;rw[u]at f;cases f;rw[B]
  cases z:i.contains x with
  |true =>
   have:(i++a).contains x=I:=by rw[List.contains_iff_mem]at z ⊢;exact vK _ z
   rw[this]
  |false =>
   simp_all
def xx{f:SX}:∀{a:SH},aD (f.map V.ref) a->a=f.map Value.ref:=by
 induction f with
 |nil=>intro a r;cases r;rfl
 |cons D f i =>
  intro a r
  cases r with
  |cons j l=>rw[i l];cases j;rfl
def zJ(g:Good X N W G k){a:Expr}{m:Mx PV}{l:S3}{y j:SQ}{i:Nat}{p L pt:Pos}{kt}(hi:G[i]?=J "isinstance")(hm:X.mg "isinstance"=Y)(IC:Lk X y l j){c0:Str}{al:SQ}(ax:∃D,X.mg c0=J (.ref D)/\om X.K X.mg (.ref D) y al)(hl:l.length<=100)(ha:ME X a m)(he:starEach [a,.Tuple l kt pt] X.env=(T,eval a X.env)::starEach [.Tuple l kt pt] X.env:=by rfl)(as:starEach [.Tuple l kt pt] X.env=[(T,eval (.Tuple l kt pt) X.env)]:=by rfl)(a6:(backTo L (starEach [.Tuple l kt pt] X.env)).any (·.1)=T:=by rfl):
  ME X (.Call (.Name "isinstance" p) [a,.Tuple l kt pt] [] L) (Cs (b8 y j) m):=by
 obtain⟨Ds,u,a8,O⟩:=IC;obtain⟨D0,_,ap⟩:=ax;have d1:=g.dbg _ (pu _ (az hi));have E:bK X (.builtin "isinstance") (λxs H Q=>∃P S,xs=[P,.ref S]/\SqT X.K H S (Ds.map V.ref)/\uJ X (b8 y j) P H Q):=by
  intro Kh s Z H xs us Q f r ⟨P,S,e,a4,U,h,x,F,rx,q⟩;subst e
  cases r with
  |cons r1 t1=>cases t1 with
   |cons r2 t2 =>
    cases t2;cases r2;obtain⟨be,rv,ht,_⟩:=f.tuple a4;have ei:=xx rv;subst ei;obtain⟨⟨oc,od,a9,bi⟩,ho,a5,nn,a0⟩:=ht;subst a5;subst a0;have plain:∀t,Bb h x=J t->b8 y j x h=.ok (.bl T) h->wpAny (model X.prog X.w) X.A (call (.builtin "isinstance") [_,_]) (EP X Kh Z Q) X.xe s:=λt et ef=>by
     rw[ef]at q;obtain⟨a1,am,Hq,Za,hz⟩:=oq f F rx r1 et;exact PySem.W.kia_tup Za f.kIn hz ho (sY u a1) am λtk=>⟨.bl _,H,f.tok _,rfl,q U H _ (Le.refl _ _) F (.bl _)⟩
    cases x with
    |non=>exact plain _ rfl rfl
    |bl b=>exact plain _ rfl rfl
    |int i=>exact plain _ rfl rfl
    |str i=>exact plain _ rfl rfl
    |tup i=>exact plain _ rfl rfl
    |frl i=>exact plain _ rfl rfl
    |loc n =>
     cases B:h[n]? with
     |none=>simp only[b8,B]at q;exact q.elim
     |some o =>
      cases o with
      |lst xs=>exact plain "list" (by simp[Bb,B]) (by simp[b8,B])
      |dic xs=>exact plain "dict" (by simp[Bb,B]) (by simp[b8,B])
      |exc ex =>
       simp only[b8,B]at q;by_cases hc:y.contains ex.cls=I
       .rw[b_ hc]at q
        cases rx with
        |@loc n a e =>
         cases r1;obtain⟨o',M,ro⟩:=F.obj e;rw[B]at M;cases M;obtain⟨_,C,ab,hH⟩:=ro;have hx:ex.cls∈y:=by simpa using hc
         obtain⟨C',R,EQ,ay,_⟩:=ap.ex ex.cls hx;rw[ab]at R;cases R;obtain⟨hz,_,_⟩:=(show ObjOk X.prog X.w H s.heap a (.ext (iC a C))from f.hok a _ hH);exact PySem.W.kia_tup (qM EQ ay) f.kIn hz ho (vY u hx ab) (λz=>nomatch z) λtk=>⟨.bl _,H,f.tok _,rfl,q U H _ (Le.refl _ _) F (.bl _)⟩
       .rw[c_ hc]at q;exact q.elim
 refine PE.imp (dD E (g.gl _ (az hi)) hm PyProof.Rows.Boot.«isinstance» (bY ha (bY (xH a8) dZ as) he) d1.2.2 d1.1 he a6) λZ H Q ⟨U,a2,h,rs,F,q⟩=>?_;refine⟨U,a2,h,rs,F,Ful.bind q λU1 H1 x P h1 _ l1 a3 rx q1=>?_⟩;refine⟨by rw[oh,O];exact mh hl (by decide),λS an=>?_⟩;obtain⟨a7,l2⟩:=a3.tup an (Ds.map V.ref);exact⟨P,S,rfl,SqT.of bL,U1,h1,x,a7,rx.le l2,(Ful.le l2 q1).zero⟩
end
end MM
namespace MM
open PySem.Spec PyProof.Rows L2 PySem.W
section
variable{X:Cx}
end
end MM
namespace MM
open PySem.Spec PyProof.Rows L2
section
variable{X:Cx}{o e:Expr}{es:S3}{name:Str}{apos cpos:Pos}{id:String}{f:Str->SM->MH->S4}{m:Mx PV}{ma:Mx (SM)}
end
end MM
namespace L2
open PySem.Spec PyProof.Rows
section
variable{X:Cx}{e st:Expr}{te:TE}{hi:Option Expr}{th ts:TO}{pos p2:Pos}
end
end L2
namespace MM
open PySem.Spec PyProof.Rows L2
section
variable{X:Cx}{pos p2:Pos}
end
def Dt(h:MH):PV->Option (SM)
 |.frl xs=>J xs
 |.loc n=>(match h[n]? with
  |some (.lst xs)=>J xs
  |_=>Y)
 |_=>Y
section
variable{X:Cx}{k:Nat}
def RI{U:SX}{H:Hp}{h:MH}{x:PV}{f:V}{xs:SM}(l:RH X.K X.mg U H h)(i:RP X.K U H x f)(e:Dt h x=J xs):∃a ys,f=.ref a/\SqL X.K H a ys/\RPs X.K U H xs ys:=by
 cases i with
 |frl s r=>cases e;exact⟨_,_,rfl,s.sq,r⟩
 |@loc n a u =>
  obtain⟨o,z,j⟩:=l.obj u;simp only[Dt,z]at e
  cases o with
  |lst ys =>
   cases e;obtain⟨y,C,B⟩:=j;exact⟨a,y,rfl,SqL.of C,B⟩
  |_=>cases e
 |_=>cases e
end
end MM
namespace MM
open PySem.Spec PyProof.Rows L2 SetT SortT
def wx(ns:SS):Nat:=(firstMet (λi=>ns.getD i 0) ns.length).length
def Du(ns:SS):wx ns<=ns.length:=firstMet_length_le _ _
def Hh(prog:Program)(w:World)(S:Addr)(n:Nat)(h:Heap):Prop:=∃f,h.SetOf (intKind prog w) S f n
def vL{prog:Program}{w:World}{S:Addr}{n:Nat}{i a:Heap}(p:Hh prog w S n i)(k:∀o,i.get? S=J o->a.get? S=J o):Hh prog w S n a:=by obtain⟨f,o,l,u,t,j,r⟩:=p;exact⟨f,o,l,u,t,k o j,r⟩
section
variable{X:Cx}{N W G:SQ}{k:Nat}
def yv(R:X.calm=I):bK X (.type "set") (λxs H Q=>∃l ns,xs=[.ref l]/\SqL X.K H l (ns.map V.int)/\ns.length<=1000/\∀S,H S=Y->Q (.ref S) (ls H S (.ext (Hh X.prog X.w S (wx ns))))):=by
 intro Kh s Z H xs us Q i r ⟨l,ns,e,hq,hl,q⟩;subst e;obtain⟨u,rfl,M⟩:=c6 r;cases M;obtain⟨j,L,O,hz⟩:=i.list hq;have z:j.length=ns.length:=by have:=L.length;rw[oh]at this;exact this.symm
 have U:=vH L;have C:=i.hok.fresh (iv s.heap.objs.size);refine call_set_list (i.ok.hd R) O.isList U (by rw[q_];unfold scanBound;ext) λh' tk y x=>?_;have B:j.toArray.size=ns.length:=by rw[q_,z]
 rw[B]at y;have E:Hh X.prog X.w s.heap.objs.size (wx ns) h':=⟨_,y⟩;obtain⟨f,o,es,ep,t,P,F⟩:=id E;exact⟨.ref s.heap.objs.size,_,i.laid (o:=.ext (Hh X.prog X.w s.heap.objs.size (wx ns))) (λb o e=>x b o (nj e) e) (iv _) ⟨E,⟨o,P⟩,λh1 h2 a b=>vL a b⟩,rfl,q _ C⟩
def yc:bK X (.builtin "len") (λxs H Q=>∃S n,xs=[.ref S]/\H S=J (.ext (Hh X.prog X.w S n))/\n<=1000/\Q (.int n) H):=by intro Kh s Z H xs R Q a r ⟨S,n,e,E,U,q⟩;subst e;obtain⟨u,rfl,l⟩:=c6 r;cases l;obtain⟨y,_,_⟩:=(a.hok S _ E);obtain⟨f,o,P,F,t,j,B,z,p4,O,L,C,i⟩:=y;refine call_len_set j B z C (by ext) ?_;rw[i];exact⟨.int n,H,a.kept λb M q=>q,⟨_,rfl⟩,q⟩
def Sw(m:Mx (SM)):Mx PV:=λZ h=>(m Z h).bind λxs a=>match xs with
 |[x]=>(match (b7 a x).bind eJ with
  |some ns=>if ns.length<=1000 then .ok (.int (wx ns)) a else .bad
  |none=>.bad)
 |_=>.bad
def xY(g:Good X N W G k){a:Expr}{m:Mx (SM)}{p E L l:Pos}(i j:Nat)(hm:X.mg "len"=Y)(F:X.mg "set"=Y)(ha:MA X [a] m)(hi:G[i]?=J "len":=by rfl)(hj:G[j]?=J "set":=by rfl)(hs:starEach [a] X.env=[(T,eval a X.env)]:=by rfl)(he:starEach [.Call (.Name "set" E) [a] [] l] X.env=[(T,eval (.Call (.Name "set" E) [a] [] l) X.env)]:=by rfl):
  ME X (.Call (.Name "len" p) [.Call (.Name "set" E) [a] [] l] [] L) (Sw m):=by
 have d:=g.dbg _ (pu _ (az hi));have d':=g.dbg _ (pu _ (az hj));refine PE.imp (dD yc (g.gl _ (az hi)) hm PyProof.Rows.Boot.«len» (bY (fN (yv g.calm) (g.gl _ (az hj)) F PyProof.Rows.Boot.«set» ha d'.2.2 d'.1 hs rfl) dZ he) d.2.2 d.1 he rfl) λZ H Q ⟨U,O,h,rs,rh,q⟩=>?_;refine⟨U,O,h,rs,rh,Ful.bind q λU1 H1 x x' h1 ex l1 B rx f=>?_⟩
 cases rx with
 |nil=>exact f.elim
 |@cons y y' _ _ r1 t1 =>
  cases t1 with
  |cons _ _=>exact f.elim
  |nil =>
   dsimp only at f
   cases P:b7 h1 y with
   |none=>rw[P]at f;exact f.elim
   |some xs =>
    rw[P]at f
    cases M:eJ xs with
    |none=>simp only[Ar,M]at f;exact f.elim
    |some ns =>
     simp only[Ar,M]at f;by_cases z:ns.length<=1000
     .rw[b_ z]at f;obtain⟨la,zs,rfl,C,u⟩:=kH B r1 P;rw[kI M]at u;rw[AO u]at C;refine⟨la,ns,rfl,C,z,λS hS=>?_⟩;obtain⟨R,l2⟩:=B.loose hS (.ext (Hh X.prog X.w S (wx ns)));exact⟨S,wx ns,rfl,bL,mh (Du ns) z,f U1 _ _ l2 R (.int _)⟩
     .rw[c_ z]at f;exact f.elim
end
end MM
namespace L2
open PySem.Spec PyProof.Rows
section
variable{X:Cx}{a:Expr}{ta:TE}{pos:Pos}
end
end L2
namespace MM
open PySem.Spec PyProof.Rows L2
section
variable{X:Cx}{pos:Pos}
end
def qt(n:Nat)(a:SM)(h:MH):S4:=match a,h[n]? with
 |[.int 0],J (.lst (y::r))=>.ok y (h.set n (.lst r))
 |_,_=>.bad
section
variable{X:Cx}
def Dv:FS X "list.pop" (GC X qt):=by
 intro S s Z H x vs v R Q l M W ⟨U,h,n,a,ps,e,E,B,rp,q⟩;subst e;obtain⟨o,eo,O⟩:=B.obj E;unfold qt at q;rw[eo]at q
 split at q
 .rename_i y r e
  injection e with e
  subst e
  cases rp with
  |cons G L =>
   cases L;cases G;obtain⟨ys,P,F⟩:=O
   cases F with
   |@cons _ i _ f j u =>
    obtain⟨z,C⟩:=B.put E (o:=.lst r) (ho:=.lst f) ⟨_,rfl,u⟩;exact zS S s Z H _ _ v R Q l M W ⟨a,i::f,0,0,i,rfl,rfl,P,by decide,by decide,by simp[seqIndex?],rfl,q U _ i C z (j.le C)⟩
 .exact q.elim
end
section
variable{X:Cx}{k:Nat}
def jp(xs:SM)(h:MH):S4:=match xs with
 |[.non]=>.ok (.str "None") h
 |[.bl b]=>.ok (.str (if b then "True" else "False")) h
 |[.int i]=>if i.natAbs.log2<1920 then .ok (.str (toString i)) h else .bad
 |[.str x]=>if(reprText x).length<=sizeLine then .ok (.str (reprText x)) h else .bad
 |[.loc n]=>(match h[n]? with
  |some (.dic [])=>.ok (.str "{}") h
  |_=>AL [.loc n] h)
 |xs=>AL xs h
def jq{N W G:SQ}(g:Good X N W G k):ck X (.builtin "repr") jp:=by
 intro B s Z H xs us Q f r ⟨U,h,ps,j,rp,q⟩
 cases rp with
 |nil=>exact q.elim
 |@cons x y _ _ C t1 =>
  cases t1 with
  |cons a b=>exact iT g B s Z H _ us Q f r ⟨U,h,_,j,.cons C (.cons a b),by cases C<;>exact q⟩
  |nil =>
   cases r with
   |cons l tu =>
    cases tu
    cases C with
    |non=>cases l;exact P.repr_of_none ⟨.str "None",H,f.tok _,⟨_,rfl⟩,q U H _ (Le.refl _ _) j (.str _)⟩
    |bl b=>cases l;exact P.repr_of_bool ⟨.str _,H,f.tok _,⟨_,rfl⟩,q U H _ (Le.refl _ _) j (.str _)⟩
    |int i =>
     obtain⟨t,rfl⟩:=l;unfold jp at q;dsimp only at q;by_cases z:i.natAbs.log2<1920
     .rw[b_ z]at q;exact P.repr_of_int z ⟨.str _,H,f.tok _,⟨_,rfl⟩,q U H _ (Le.refl _ _) j (.str _)⟩
     .rw[c_ z]at q;exact q.elim
    |str x =>
     obtain⟨t,rfl⟩:=l;unfold jp at q;dsimp only at q;by_cases z:(reprText x).length<=sizeLine
     .rw[b_ z]at q;exact P.repr_of_str ⟨.str _,H,f.tok _,⟨_,rfl⟩,q U H _ (Le.refl _ _) j (.str _)⟩ z
     .rw[c_ z]at q;exact q.elim
    |tup L E=>exact iT g B s Z H _ _ Q f (.cons l .nil) ⟨U,h,_,j,.cons (.tup L E) .nil,q⟩
    |frl L E=>exact iT g B s Z H _ _ Q f (.cons l .nil) ⟨U,h,_,j,.cons (.frl L E) .nil,q⟩
    |@loc n a F =>
     obtain⟨o,eo,ro⟩:=j.obj F;unfold jp at q;dsimp only at q;rw[eo]at q
     cases o with
     |lst zs=>exact iT g B s Z H _ _ Q f (.cons l .nil) ⟨U,h,_,j,.cons (.loc F) .nil,q⟩
     |exc zs=>exact iT g B s Z H _ _ Q f (.cons l .nil) ⟨U,h,_,j,.cons (.loc F) .nil,q⟩
     |dic ab =>
      obtain⟨e1,e2⟩:=ro;subst e1;cases l;obtain⟨_,O,vs,kv,dd⟩:ObjOk X.prog X.w H s.heap a (.dK []):=f.hok a _ e2;cases kv;obtain⟨ob,S,ep,h1,h2,h3,_,R,_⟩:=dd;have e0:S.toList=[]:=by
       cases h5:S.toList with
       |nil=>rfl
       |cons a b=>rw[h5]at R;cases R
      have M:Reads s.heap (.ref a) (.dict []) (a::[]++[]):=.dict h1 h2.1 h3 (by rw[e0];exact .nil) (by rw[e0];exact .nil);refine repr_of_reads' M rfl (λ_=>by simpa using λz=>by rw[z]at O;simp at O) g.room.gd (by have:=g.room.un;simp[PyData.depth,PyData.depthKv];lia) (λ_ _ e=>e) (λh' u tk hk=>⟨.str "{}",H,f.kept hk,⟨u,rfl⟩,q U H _ (Le.refl _ _) j (.str _)⟩) (by rw[sizeLine_eq];decide)
def v1(x y:PV)(h:MH):S4:=match x,y with
 |.str a,.str b=>.ok (.bl (a.cps.toList != b.cps.toList)) h
 |_,_=>vw x y h
def yg(G:Room k X.A):yP X (compareOp .NotEq) v1:=by
 intro L s Z H F E u v Q i f j ⟨U,h,x,y,C,B,l,q⟩;by_cases z:∃a b,x=.str a/\y=.str b
 .obtain⟨a,b,rfl,rfl⟩:=z;cases B;cases l;obtain⟨t,rfl⟩:=f;obtain⟨M,rfl⟩:=j;exact P.ne_str ⟨.bl _,H,i,rfl,q U H _ (Le.refl _ _) C (.bl _)⟩
 .refine nG G L s Z H F E u v Q i f j ⟨U,h,x,y,C,B,l,?_⟩
  have:v1 x y h=vw x y h:=by
   unfold v1;split
   .exact absurd ⟨_,_,rfl,rfl⟩ z
   .rfl
  rwa [this]at q
end
end MM
namespace HT
open PyProof.Rows
section
open PySem.SeqAt
open PySem.AutoSeq1 (wpAny_loadPart')
open PySem.MeetsSeq PySem.MeetsSeq2 PySem.MeetsSeq3
end
section
variable{prog:Program}{w:World}{A:Around}{E:S5}{s:Shared}
end
end HT
namespace L2
open PySem.Spec PyProof.Rows
section
variable{X:Cx}{e st:Expr}{te:TE}{ts:TO}{pos p2:Pos}
end
end L2
namespace MM
open PySem.Spec PyProof.Rows L2
section
variable{X:Cx}{k:Nat}{pos:Pos}
end
end MM
namespace L2
open PySem.Spec PyProof.Rows
section
variable{X:Cx}{a b c d:Expr}{ta tb tc td:TE}{r r' r2:R2}{op op' op2:CmpOp}{pos:Pos}
end
end L2
namespace MM
open PySem.Spec PyProof.Rows L2
section
variable{X:Cx}{a b c d:Expr}{ma mb mc md:Mx PV}{f g' g2:PV->PV->MH->S4}{op op' op2:CmpOp}{pos:Pos}{k:Nat}
def br:Expr->Bool
 |.Starred _ _=>T
 |_=>I
def aK(h:br e=I):starEach (e::es) env=(T,eval e env)::starEach es env:=by cases e<;>first | rfl | cases h
def Hi(i:ME X e m)(j:MA X es ms)(l:br e=I:=by rfl):MA X (e::es) (ae m ms):=aB i j (aK l)
structure kx(X:Cx)(e:Expr)(m:Mx PV):Prop where
 h:ME X e m
structure z_(X:Cx)(es:S3)(ms:Mx (SM)):Prop where
 h:MA X es ms
structure zl(X:Cx)(st:Stmt)(m:l_):Prop where
 h:MS X st m
structure oI(X:Cx)(st:S9)(m:l_):Prop where
 h:Av X st m
section
variable{e:Expr}{es:S3}{m ma mb:Mx PV}{ms:Mx (SM)}{st:Stmt}{rest:S9}{u v:l_}{f:PV->PV->MH->S4}{N W G:SQ}{x:Str}
def jT:z_ X [] e_:=⟨aS⟩
def fe(i:kx X e m)(j:z_ X es ms)(l:br e=I:=by rfl):z_ X (e::es) (ae m ms):=⟨Hi i.h j.h l⟩
def vF(h:ME X e m):kx X e m:=⟨h⟩
def Ll(h:z_ X es ms):kx X (.List es pos) (dC ms):=⟨xG h.h⟩
def Sx(h:z_ X es ms):kx X (.Tuple es j pos) (Cv ms):=⟨Gb h.h⟩
def Aw(h:MS X st u):zl X st u:=⟨h⟩
def Bc(g:Good X N W G k)(i:Nat){j:Pos}(z:kx X e m)(l:N[i]?=J x:=by rfl)(B:W[i]?=J x:=by rfl)(y:swapsWith e (J (.Name x j)) pos.line X.env=pure T:=by rfl):
  zl X (.Assign [.Name x j] e pos) (bf i m):=⟨nK g i l B z.h y⟩
def BW(i:kx X e m):zl X (.Return (J e) pos) (bO m):=⟨Gc i.h⟩
def A3(h:zl X st u):oI X [st] u:=⟨Cw h.h⟩
def v2(j:zl X st u)(i:oI X rest v):oI X (st::rest) (aL u v):=⟨yK j.h i.h⟩
end
end
section
variable{α β:Type}
def bP(f:α->Int)(x:α):List α->List α
 |[]=>[x]
 |y::r=>if f x<=f y then x::y::r else y::bP f x r
def aN(f:α->Int)(l:List α):List α:=l.foldr (bP f) []
def jt(f:α->Int)(x:α):∀l,(bP f x l).Perm (x::l)
 |[]=>.refl _
 |y::r=>by
  unfold bP;split
  .exact .refl _
  .exact ((jt f x r).cons y).trans (.swap x y r)
def cI(f:α->Int):∀l,(aN f l).Perm l
 |[]=>.refl _
 |x::l=>(jt f x (aN f l)).trans ((cI f l).cons x)
def pF(f:α->Int)(x:α):∀l:List α,l.Pairwise (λa b=>f a<=f b)->(bP f x l).Pairwise (λa b=>f a<=f b)
 |[],_=>by simp[bP]
 |y::r,h=>by
  have j:=Bl.mp h;unfold bP;split
  .rename_i z
   refine Bl.mpr ⟨λa i=>?_,h⟩;rcases j_.mp i with q|q
   .rw[q];exact z
   .exact Int.le_trans z (j.1 a q)
  .rename_i z
   refine Bl.mpr ⟨λa i=>?_,pF f x r j.2⟩;rcases j_.mp ((jt f x r).mem_iff.mp i)with rfl|i
   .lia
   .exact j.1 a i
def jY(f:α->Int):∀l:List α,(aN f l).Pairwise (λa b=>f a<=f b)
 |[]=>.nil
 |x::l=>pF f x _ (jY f l)
def pA(g:β->α)(f:α->Int)(x:β):∀l:List β,bP f (g x) (l.map g)=(bP (λb=>f (g b)) x l).map g
 |[]=>rfl
 |y::r=>by
  rw[mO];unfold bP;split
  .rfl
  .rw[pA g f x r];rfl
def iA(g:β->α)(f:α->Int):∀l:List β,aN f (l.map g)=(aN (λb=>f (g b)) l).map g
 |[]=>rfl
 |x::l=>by
  show bP f (g x) (aN f (l.map g))=(bP _ x (aN _ l)).map g;rw[iA g f l,pA]
def lb{f g:α->Int}{x:α}:∀{l:List α},f x=g x->(∀a∈l,f a=g a)->bP f x l=bP g x l
 |[],_,_=>rfl
 |y::r,i,h=>by
  unfold bP;rw[i,h y mu,lb i λa j=>h a (nt _ j)]
def iH{f g:α->Int}:∀{l:List α},(∀a∈l,f a=g a)->aN f l=aN g l
 |[],_=>rfl
 |x::l,h=>by
  have e:=iH (f:=f) (g:=g) (l:=l) λa i=>h a (nt _ i);show bP f x (aN f l)=bP g x (aN g l);rw[e];exact lb (h x mu) λa i=>h a (nt _ ((cI g l).mem_iff.mp i))
def pH{f:α->Int}:∀{l:List α}{x y:α},(l.map f).Nodup->x∈l->y∈l->f x=f y->x=y
 |[],_,_,_,h,_,_=>by cases h
 |a::l,x,y,nd,z,u,e=>by
  rw[mO,Ff]at nd;rcases j_.mp z with j|j
  .rcases j_.mp u with i|i
   .exact j.trans i.symm
   .exact absurd (k6.mpr ⟨y,i,e.symm.trans (congrArg f j)⟩) nd.1
  .rcases j_.mp u with i|i
   .exact absurd (k6.mpr ⟨x,j,e.trans (congrArg f i)⟩) nd.1
   .exact pH nd.2 j i e
def vA{f:α->Int}{l m:List α}(p:m.Perm l)(nd:(l.map f).Nodup)(h:m.Pairwise λa b=>f a<=f b):m=aN f l :=
 List.Perm.eq_of_pairwise (λa b i j x y=>pH nd (p.mem_iff.mp i) ((cI f l).mem_iff.mp j) ⋯) h (jY f l) (p.trans (cI f l).symm)
end
inductive T3(K:h8)(U:SX)(H:Hp):SM->List V->SH->List (PV×V×Value)->Prop
 |nil:T3 K U H [] [] [] []
 |cons{x:PV}{y:V}{u:Value}{xs:SM}{ys:List V}{us:SH}{ts:List (PV×V×Value)}(r:RP K U H x y)(v:aR y u)(t:T3 K U H xs ys us ts):T3 K U H (x::xs) (y::ys) (u::us) ((x,y,u)::ts)
section
variable{K:h8}{U:SX}{H:Hp}
def T3.ex:∀{xs:SM}{ys:List V}{f:SH},RPs K U H xs ys->aD ys f->∃a,T3 K U H xs ys f a
 |_,_,_,.nil,.nil=>⟨[],.nil⟩
 |_,_,_,.cons r i,.cons v j=>let⟨a,t⟩:=T3.ex i j;⟨_,.cons r v t⟩
def T3.maps:∀{xs:SM}{ys:List V}{i:SH}{a:List (PV×V×Value)},T3 K U H xs ys i a->xs=a.map (·.1)/\i=a.map (·.2.2)/\∀t∈a,RP K U H t.1 t.2.1/\aR t.2.1 t.2.2
 |_,_,_,_,.nil=>⟨rfl,rfl,λt h=>by cases h⟩
 |_,_,_,_,.cons r v t=>by
  obtain⟨e1,e2,h⟩:=t.maps;refine⟨by rw[e1];rfl,by rw[e2];rfl,λq f=>?_⟩;rcases j_.mp f with rfl|f
  .exact⟨r,v⟩
  .exact h q f
def yt:∀{ts:List (PV×V×Value)},(∀t∈ts,RP K U H t.1 t.2.1/\aR t.2.1 t.2.2)->RPs K U H (ts.map (·.1)) (ts.map (·.2.1))/\aD (ts.map (·.2.1)) (ts.map (·.2.2))
 |[],_=>⟨.nil,.nil⟩
 |t::ts,h=>by
  obtain⟨a,b⟩:=yt (ts:=ts) λq f=>h q (nt _ f);obtain⟨c,d⟩:=h t mu;exact⟨.cons c a,.cons d b⟩
end
section
variable{X:Cx}
end
end MM
namespace SortT
open PySem.SeqAt PySem.MeetsSeq PySem.MeetsSeq2 PySem.MeetsSeq3 PySem.SeqRoads2 PyProof.Rows PySem.W
abbrev LO(z:TL×Array (S0))(xs:Array Value)(n:Nat):Obj:=⟨.type "list",z.1,.seq xs n,z.2⟩
def Dw(a:Addr)(z:TL×Array (S0))(xs:Array Value)(n k:Nat):∀i:Nat,xs.size-i=k->i<=xs.size->Meets (Builtin.«list.__eq__.loop» ⟨[.ref a,.ref a,rawInt i,rawInt 0],[]⟩)
  (λA R s=>s.heap.get? a=J (LO z xs n)/\R (.ok (.ret (.bool T))) s):=by
 induction k with
 |zero =>
  intro i l C prog w A R s h;obtain⟨u,g,d,B,os⟩:=s;obtain⟨f,h⟩:=h;have j:xs[((i:Nat):Int).toNat]?=Y:=by simp;lia
  wp_walk using AutoSeq1.wpAny_loadPart' f
  rw[j]
  wp_walk using AutoSeq1.wpAny_loadPart' f
  show R (.ok (.ret (.bool (decide (xs.size<xs.size))))) _;rw[decide_eq_false (At _)];exact h
 |succ k y =>
  intro i l C prog w A R s h;obtain⟨u,g,d,B,os⟩:=s;obtain⟨f,h⟩:=h;have j:xs[((i:Nat):Int).toNat]?=J (xs[i]'⋯):=by simp
  wp_walk using AutoSeq1.wpAny_loadPart' f
  rw[j]
  wp_walk using AutoSeq1.wpAny_loadPart' f
  exact⟨plainId_quiet plain_eq_loop _,codeAny_builtin entry_eq_loop (by
   rw[Around.under_plainId plain_eq_loop _]
   exact y (i+1) ⋯ ⋯ prog w A R _ ⟨f,h⟩)⟩
def Hj(a b:Addr)(z E:TL×Array (S0))(xs ys:Array Value)(n m:Nat)(i j:Int)(t u:Tok)(F:xs[0]?=J (.int i t))(G:ys[0]?=J (.int j u))(ne:i≠j):Meets (Builtin.«list.__eq__.loop» ⟨[.ref a,.ref b,rawInt (0:Nat),rawInt 0],[]⟩)
  (λA R s=>s.heap.get? a=J (LO z xs n)/\s.heap.get? b=J (LO E ys m)/\R (.ok (.ret (.bool (decide (i<j))))) s):=by
 intro prog w A R s h;obtain⟨H,g,d,L,os⟩:=s;obtain⟨y,B,h⟩:=h;have C:xs[(((0:Nat):Nat):Int).toNat]?=J (.int i t):=F;have l:ys[(((0:Nat):Nat):Int).toNat]?=J (.int j u):=G;have f:(i==j)=T:=by simpa using ne
 wp_walk using AutoSeq1.wpAny_loadPart' y,AutoSeq1.wpAny_loadPart' B
 rw[C,l];refine d_ (wpAny_eqBool_int ?_);rw[f]
 wp_walk using AutoSeq1.wpAny_loadPart' y,AutoSeq1.wpAny_loadPart' B
 rw[C,l];refine d_ (wpAny_lt_int ?_);exact il h
def nF(j:A.units<cLine)(f:s.heap.get? a=J (LO z xs n))(i:s.heap.get? b=J (LO z' ys m))(q:Meets (Builtin.«list.__eq__.loop» ⟨[.ref a,.ref b,rawInt (0:Nat),rawInt 0],[]⟩)
  (λA R s=>s.heap.get? a=J (LO z xs n)/\s.heap.get? b=J (LO z' ys m)/\R (.ok (.ret (.bool r))) s)){Q:Bool->Shared->Prop}(h:Q r s):wpAny (model prog w) A (oneLt' I (.ref a) (.ref b)) Q E s:=by
 rw[oneLt'_eq];dsimp only;rw[b_ rfl];refine d_ (wpAny_cRoomFor j ?_);refine d_ (wpAny_callSpecialIfBound?_slot (T:="list") ⟨_,f,rfl⟩ PySem.F.slot_list_lt ?_);refine call_meets PySem.F.slot_list_lt ⟨_,f,rfl⟩ PySem.F.entry_list_lt (PySem.F.args_list_lt_2 _ _) (S:=λA R s=>s.heap.get? a=J (LO z xs n)/\s.heap.get? b=J (LO z' ys m)/\R (.ok (.ret (.bool r))) s) ?_ ⟨f,i,?_⟩
 .intro prog w A R s h;obtain⟨l,g,d,u,os⟩:=s;obtain⟨f,i,h⟩:=h;refine d_ (il ?_);refine d_ (wpAny_isInstance (T:="list") (b:=I) ⟨_,i,rfl⟩ sub_list_self ?_)
  wp_walk
  exact⟨plainId_quiet plain_eq_loop _,codeAny_builtin entry_eq_loop (by
   rw[Around.under_plainId plain_eq_loop _]
   exact q prog w A R _ ⟨f,i,h⟩)⟩
 .show wpAny _ _ (truthOfDropped (.bool r)) _ _ _
  wp_walk
  exact h
def oV(h:Heap)(a:Value->Int)(v:Value):Prop:=∃b z xs m t,v=.ref b/\h.get? b=J (LO z xs m)/\xs[0]?=J (.int (a v) t)
def Lm(prog:Program)(w:World)(A:Around)(E:S5)(s:Shared)(M:A.units<cLine){F:SH}{a:Value->Int}(P:∀v∈F,oV s.heap a v)(nd:(F.map a).Nodup):vo prog w A E s oneType' PN where
 key:=λp=>a p.1
 dflt:=(0:Int)
 good:=λp=>p.1∈F
 ask:=λx y st Q O S C hq=>by
  obtain⟨l,x2⟩:=x;obtain⟨u,y2⟩:=y;obtain⟨Z,U,W,nx,tx,ex,f,L⟩:=P l O;obtain⟨ay,zy,iy,ny,ty,X,B,H⟩:=P u S;rw[lt'_eq];refine wpS_bind (wpS_get ?_);rw[C];have G:Q (J (decide (a l<a u))) st:=hq;refine wpS_bind (wpS_lift (wpAny_attempt ?_));show wpAny _ _ (keyLt' oneType' l u) _ _ _;rw[keyLt'_oneType];by_cases z:a l=a u
  .have e:=kc nd O S z;subst e;rw[decide_eq_false (Int.lt_irrefl _)]at G;rw[ex];exact nF M f f (λprog w A R s h=>Dw Z U W nx _ 0 rfl (u0 _) prog w A R s ⟨h.1,h.2.2⟩) ⟨rfl,wpS_pure G⟩
  .generalize a l=i at *;generalize a u=j at *;rw[ex,X];exact nF M f B (Hj _ _ _ _ _ _ _ _ _ _ _ _ L H z) ⟨rfl,wpS_pure G⟩
section
variable{prog:Program}{w:World}{A:Around}{E:S5}{s:Shared}{rk:Value->Int}{vs:SH}
def pW{Q:SortKind->Shared->Prop}(a:∀v∈vs,oV s.heap rk v)(f:2<=vs.length)(h:Q oneType' s):wpAny (model prog w) A (keyKind' vs.toArray) Q E s :=
 kas_kind (T:=.type "list") f (λv hv=>by
  obtain⟨b,z,xs,m,t,rfl,g,_⟩:=a v hv
  exact λA Q E i kp q=>wpAny_typeOf (T:="list") ⟨_,kp b _ g,rfl⟩ q) (by decide) (by decide) h
def vd(hu:A.units<cLine)(X:s.heap.get? a=J (seqObj "list" vs.toArray n))(al:Value.ref a∉vs)(hk:∀v∈vs,oV s.heap rk v)(nd:(vs.map rk).Nodup)(ap:vs.length<=66)(h:∀H:SH,H.Perm vs->(H.map rk).Pairwise (·<=·)->P (.done (.ret .none)) { s with heap:=sortedHeap s.heap a vs H.toArray}):
  wpAny (model prog w) A (Builtin.«list.sort» ⟨[.ref a],[]⟩) P E s:=by
 rw[list_sort_plain];have ha:a<s.heap.objs.size:=nj X;have u:vs.length<=sizeLine:=by rw[sizeLine_eq];lia
 refine d_ (listItems_at X rfl ?_);refine d_ (listUpdate_at X rfl ?_ (by rw[q_];exact u) (u0 _));obtain⟨e1,M⟩:∃e1,(s.heap.update a (Obj.mapSeq λ_=>(#[]:Array Value))).get? a=J (seqObj "list" #[] e1):=⟨_,get?_update_seq X λ_=>#[]⟩;refine d_ (seqEpoch_at M rfl ?_);refine d_ (wpAny_newTuple ?_ (by show vs.length<=_;exact u));refine d_ (wpAny_newList ?_ (u0 _));refine wpAny_holding ?_;have y:(((s.heap.update a (Obj.mapSeq λ_=>(#[]:Array Value))).push (seqObj "tuple" vs.toArray 0)).push (seqObj "list" #[] 0)).get? a=J (seqObj "list" #[] e1) :=
  n6 _ (n6 _ M)
 show wpAny (model prog w) A _ P E { s with heap:=((s.heap.update a (Obj.mapSeq λ_=>(#[]:Array Value))).push (seqObj "tuple" vs.toArray 0)).push (seqObj "list" #[] 0)};have G:∀v∈vs,oV (((s.heap.update a (Obj.mapSeq λ_=>(#[]:Array Value))).push (seqObj "tuple" vs.toArray 0)).push (seqObj "list" #[] 0)) rk v:=λv hv=>by
  obtain⟨b,z,xs,m,t,e,g,f⟩:=hk v hv;have O:b≠a:=λz=>al (z▸e▸hv);exact⟨b,z,xs,m,t,e,n6 _ (n6 _ ((E8 _ _ _ _ O).trans g)),f⟩
 have R:vs.toArray.size=vs.length:=by simp
 dsimp only;by_cases U:vs.toArray.size<2
 .rw[b_ U,b_ U];refine d_ (il ?_);rw[StateT.run_pure];refine d_ (il ?_);dsimp only;refine d_ (seqEpoch_at y rfl ?_);have W:((vs.toArray.zip vs.toArray).map (·.2))=vs.toArray:=by
   apply Bu.mp;simp only[Oq,Array.toList_zip,List.toList_toArray];exact Ng (iv _)
  refine d_ (listUpdate_at y rfl ?_ (u0 _) (by show((vs.toArray.zip vs.toArray).map (·.2)).size<=_;rw[W,R];lia));simp only[bne_self_eq_false,n_,if_false];refine il ?_
  have:=h vs (List.Perm.refl _) (by
   match vs,R▸U with
   |[],_=>simp
   |[x],_=>simp)
  have e:(arrOf (SortSt.mk' general' (vs.toArray.zip vs.toArray) #[] 7 Y)).map (·.2)=vs.toArray:=W;rw[e];exact this
 .rw[c_ U,c_ U];refine d_ (pW (s:={ s with heap:=_}) G ⋯ ?_);have an:(pairsOf vs).size=vs.length:=pairsOf_size vs
  refine d_ (wpAny_mono (rF (C:=Lm prog w A E { s with heap:=((s.heap.update a (Obj.mapSeq λ_=>(#[]:Array Value))).push (seqObj "tuple" vs.toArray 0)).push (seqObj "list" #[] 0)} hu G nd)
   (a₀:=pairsOf vs) (st:=SortSt.mk' (oneType') (vs.toArray.zip vs.toArray) #[] 7 Y)
   (Q:=λ_ l=>(arrOf l).Perm (pairsOf vs)/\failedOf l=Y/\tr (Lm prog w A E { s with heap:=((s.heap.update a (Obj.mapSeq λ_=>(#[]:Array Value))).push (seqObj "tuple" vs.toArray 0)).push (seqObj "list" #[] 0)} hu G nd) (arrOf l) 0 (pairsOf vs).size)
   ?_ ⟨Array.Perm.refl _,rfl,rfl⟩ rfl ⋯ ⋯ λl a1 a2 a3=>⟨a1,a2,a3⟩) ?_ λ_ _ e=>e)
  .intro p L;rw[pairsOf_toList]at L;obtain⟨q1,q2⟩:=mem_zip_self L;exact q2
  .rintro⟨⟨⟩,l⟩ s' ⟨rfl,L,hf,hs⟩;dsimp only;refine d_ (seqEpoch_at y rfl ?_);have W:((arrOf l).map (·.2)).size=vs.length:=by rw[Oz,L.size_eq,an]
   refine d_ (listUpdate_at y rfl ?_ (u0 _) (by show((arrOf l).map (·.2)).size<=_;rw[W];lia));rw[hf];simp only[bne_self_eq_false,n_,if_false];refine il ?_;have hl:(arrOf l).toList.Perm (vs.zip vs):=by rw[<-pairsOf_toList];exact M4.mp L
   have F:∀p,p∈(arrOf l).toList->p.1=p.2/\p.1∈vs:=λp ab=>mem_zip_self (hl.mem_iff.mp ab);have B:=h ((arrOf l).toList.map (·.2)) ?_ ?_
   .have e:((arrOf l).toList.map (·.2)).toArray=(arrOf l).map (·.2):=by apply Bu.mp;simp
    rw[e]at B;exact B
   .have q:=hl.map (·.2);rw[Ng (iv _)]at q;exact q
   .rw[xg,A5,Jc];intro i j hi hj am;have Z:i<(arrOf l).size:=by simpa using hi
    have S:j<(arrOf l).size:=by simpa using hj
    have q:=hs i j (u0 _) (vu am) (by rw[<-L.size_eq];exact S);rw[aO (getElem?_pos _ i Z),aO (getElem?_pos _ j S)]at q;have m1:=(F (arrOf l)[i] (by simp)).1;have m2:=(F (arrOf l)[j] (by simp)).1;have q':decide (rk (arrOf l)[j].1<rk (arrOf l)[i].1)=T:=q;rw[m1,m2]at q';simp only[decide_eq_false_iff_not]at q';simp only[Function.comp,Array.getElem_toList];lia
def rK{l:Addr}{Q:S5}(R:A.units+64<cLine)(O:s.heap.IsList l vs.toArray)(G:∀v∈vs,oV s.heap rk v)(nd:(vs.map rk).Nodup)(B:vs.length<=66)(h:∀(F:Heap) (l:Addr) (a:SH),(∀b L,s.heap.get? b=J L->F.get? b=J L)->s.heap.objs.size<=l->(∃c,F.get? l=J (seqObj "list" a.toArray c))->a.Perm vs->(a.map rk).Pairwise (·<=·)->Q (.ref l) { s with heap:=F}):
  wpAny (model prog w) A (call (.builtin "sorted") [.ref l]) Q E s:=by
 have i:vs.length<=sizeLine:=by rw[sizeLine_eq];lia
 refine Calls.call_function_entry kind_sorted plain_sorted entry_sorted (args_sorted1 _) ?_;refine d_ (il (d_ (collect_list O ?_ i)));refine d_ (wpAny_newList ?_ i);dsimp only;generalize e1:(s.heap.push (seqObj "list" #[] 0)).update s.heap.objs.size (Obj.mapSeq (·++vs.toArray))=j;have C:∀b o,s.heap.get? b=J o->j.get? b=J o:=λb o z=>by
  rw[<-e1,E8 _ _ _ _ (sv (nj z))];exact n6 _ z
 have y:s.heap.objs.size<=j.objs.size:=by rw[<-e1,Ot,size_push'];exact B4 _
 have u:(j.push (seqObj "list" vs.toArray 0)).get? j.objs.size=J (seqObj "list" vs.toArray 0):=yM _ rfl;have H:∀b o,j.get? b=J o->(j.push (seqObj "list" vs.toArray 0)).get? b=J o:=λb o e=>n6 _ e
 refine d_ (wpAny_holding (wpAny_call_entry slot_list_sort ⟨_,u,rfl⟩ entry_list_sort
  (vd (s:={ s with heap:=j.push (seqObj "list" vs.toArray 0)}) ?hu u (λz=>?na) (λv hv=>let⟨b,z,xs,m,t,e,g,f⟩:=G v hv;⟨b,z,xs,m,t,e,H b _ (C b _ g),f⟩) nd B λa P M=>⟨_,rfl,?_⟩) (args_list_sort _)))
 .show A.units+1+1<cLine;lia
 .obtain⟨b,_,xs,m,t,e,g,f⟩:=G _ z;cases e;exact At _ (q0 (nj g) y)
 refine il ⟨_,rfl,h _ j.objs.size a (λb o e=>?_) y (dq u _) P M⟩;exact c8 (sv (nj (C b o e))) (H b o (C b o e)) _
end
end SortT
namespace MM
open PySem.Spec PyProof.Rows L2
section
variable{X:Cx}{N W G:SQ}{k:Nat}{a b:Expr}{p p' pos pos':Pos}
def Ln(l:TA):TE:=λZ H Q=>l Z H λu f=>∃i j:Int,u=[.int i,.int j]/\∀p,f p=Y->Q (.ref p) (ls f p (.rng i j))
def wG(F:Gl X "range")(C:X.mg "range"=Y)(O:PA X [a,b] ta)(Q:starEach [a,b] X.env=[(T,eval a X.env),(T,eval b X.env)]:=by rfl)(l:starEach [b] X.env=[(T,eval b X.env)]:=by rfl):PE X (.Call (.Name "range" p) [a,b] [] pos) (Ln ta):=by
 intro P s Z H R f h;refine Call_ (kh f F C boot_range (PyProof.Rows.callWith_type1 (k_ (O pos P s Z H _ f h) λus M ⟨S,U,z,B,E⟩=>?_) (Q.trans (by rw[l])) (by rw[l];rfl)));obtain⟨i,j,e,q⟩:=E;subst e
 cases B with
 |cons r y =>
  cases y with
  |cons L y =>
   cases y;obtain⟨t,rfl⟩:=r;obtain⟨u,rfl⟩:=L;refine call_range_2 ⟨.ref M.heap.objs.size,_,z.laid (λb o e=>n6 _ e) (iv _) ?_,rfl,q _ (z.hok.fresh (iv _))⟩;exact⟨_,_,_,yM _ rfl⟩
def qe(hh:X.calm=I):bK X (.type "list") (λxs H Q=>∃r i j,xs=[.ref r]/\H r=J (.rng i j) /\ -(2^62)<=i/\i<2^62 /\ -(2^62)<=j/\j<2^62/\(j-i).toNat<=sizeLine/\∀l,H l=Y->Q (.ref l) (ls H l (.lst ((List.range (j-i).toNat).map λn=>V.int (i+(n:Nat)))))):=by
 intro Kh s Z H xs us Q f r ⟨L,i,j,e,M,F,P,h1,R,B,q⟩;subst e
 cases r with
 |cons C E =>
  cases E;cases C;obtain⟨t,u,v,S⟩:=(f.hok L _ M);refine call_list_range (f.ok.hd hh) S (small_one F P h1 R) (by rw[rangeSize_one];split<;>ext) B λh' tk y O kp e z=>?_;have U:=mT _ i _ (by exact z.1) λi v hv=>by
   obtain⟨t,e⟩:=z.2 i v (by rw[<-v_];exact hv)
   grind
  refine⟨.ref s.heap.objs.size,_,f.laid (o:=.lst _) kp (iv _) (⟨by simpa using B,y.toList,O,U,by simpa using e⟩),rfl,q _ (f.hok.fresh (iv _))⟩
def PP(m:Mx (SM)):Mx PV:=λZ h=>(m Z h).bind λl f=>match l with
 |[.int i,.int j]=>if(-(2^62)<=i/\i<2^62) /\ -(2^62)<=j/\j<2^62/\(j-i).toNat<=sizeLine then .ok (.loc f.length) (f++[.lst (bM i (j-i).toNat)])else .bad
 |_=>.bad
def xI(g:Good X N W G k){m:Mx (SM)}{i j:Nat}(S:G[i]?=J "list")(hm:X.mg "list"=Y)(hj:G[j]?=J "range")(E:X.mg "range"=Y)(ha:MA X [a,b] m)(hs:starEach [a,b] X.env=[(T,eval a X.env),(T,eval b X.env)]:=by rfl)(M:starEach [b] X.env=[(T,eval b X.env)]:=by rfl)(P:starEach [.Call (.Name "range" p') [a,b] [] pos'] X.env=[(T,eval (.Call (.Name "range" p') [a,b] [] pos') X.env)]:=by rfl):ME X (.Call (.Name "list" p) [.Call (.Name "range" p') [a,b] [] pos'] [] pos) (PP m):=by
 have d:=g.dbg _ (pu _ (az S));refine PE.imp (fN (qe g.calm) (g.gl _ (az S)) hm PyProof.Rows.Boot.«list» (bY (wG (g.gl _ (az hj)) E ha hs M) dZ P) d.2.2 d.1 P rfl) λZ H Q ⟨U,F,h,rs,rh,q⟩=>?_;refine⟨U,F,h,rs,rh,Ful.bind q λU1 H1 x x' h1 _ l1 B rx f=>?_⟩;rcases rx with _|⟨C,_|⟨R,_|_⟩⟩
 .exact f.elim
 .cases C<;>exact f.elim
 .cases C with
  |int u =>
   cases R with
   |int y =>
    dsimp only at f;by_cases z:(-(2^62)<=u/\u<2^62) /\ -(2^62)<=y/\y<2^62/\(y-u).toNat<=sizeLine
    .rw[b_ z]at f;refine⟨u,y,rfl,λr hr=>?_⟩;obtain⟨O,l2⟩:=B.loose hr (.rng u y);refine⟨r,u,y,rfl,bL,z.1.1,z.1.2,z.2.1,z.2.2.1,z.2.2.2,λl hl=>?_⟩;obtain⟨L,l3⟩:=O.new hl (o:=.lst (bM u (y-u).toNat)) ⟨_,rfl,pM _⟩;exact f _ _ _ (l2.trans l3) L (.loc (by rw[<-B.len];simp))
    .rw[c_ z]at f;exact f.elim
   |_=>exact f.elim
  |_=>exact f.elim
 .cases C<;>(first | exact f.elim | (cases R<;>exact f.elim))
end
def jP(h:MH)(x:PV):S1:=match Dt h x with
 |some (.int k::_)=>J k
 |_=>Y
def tw(h:MH)(x:PV):Int:=(jP h x).getD 0
def EK(h:Heap)(v:Value):Int:=match v with
 |.ref b=>(match h.get? b with
  |some o=>(match o.data with
   |.seq xs _=>(match (xs[0]?:S0) with
    |some (.int k _)=>k
    |_=>0)
   |_=>0)
  |none=>0)
 |_=>0
def vI(xs:SM)(h:MH):S4:=match xs with
 |[x]=>(match Dt h x with
  |some ys=>if(∀y∈ys,(jP h y).isSome=I)/\(ys.map (tw h)).Nodup/\ys.length<=66 then .ok (.loc h.length) (h++[.lst (aN (tw h) ys)])else .bad
  |none=>.bad)
 |_=>.bad
section
variable{X:Cx}
def yY{k:Nat}(hr:Room k X.A):ck X (.builtin "sorted") vI:=by
 intro Kh s Z H xs us Q B r ⟨U,h,ps,M,rp,q⟩
 cases rp with
 |nil=>exact q.elim
 |@cons x y _ _ r1 O =>
  cases O with
  |cons _ _=>exact q.elim
  |nil =>
   unfold vI at q
   cases P:Dt h x with
   |none=>simp only[P]at q;exact q.elim
   |some ys =>
    simp only[P]at q;by_cases z:(∀y∈ys,(jP h y).isSome=I)/\(ys.map (tw h)).Nodup/\ys.length<=66
    .rw[b_ z]at q;obtain⟨a,zs,rfl,S,ab⟩:=RI M r1 P;obtain⟨u,rfl,rx⟩:=c6 r;cases rx;obtain⟨j,rv,pl,_⟩:=B.list S;obtain⟨C,t3⟩:=T3.ex ab rv;obtain⟨e1,e2,hm⟩:=t3.maps;have key:∀t∈C,SortT.oV s.heap (EK s.heap) t.2.2/\tw h t.1=EK s.heap t.2.2:=λt f=>by
      obtain⟨rp,rl⟩:=hm t f;have E:=z.1 t.1 (by rw[e1];exact k6.mpr ⟨t,f,rfl⟩);obtain⟨O,t2,t3⟩:=t;dsimp only at rp rl E ⊢;unfold jP at E
      cases e3:Dt h O with
      |none=>rw[e3]at E;cases E
      |some ps =>
       obtain⟨b,vs,rfl,sq,am⟩:=RI M rp e3;cases rl
       cases am with
       |nil=>rw[e3]at E;cases E
       |@cons p0 v0 _ _ r0 rr =>
        cases r0 with
        |int i =>
         obtain⟨ap,W,L,_⟩:=B.list sq;obtain⟨o2,g2,e2,n2,d2⟩:=L.isList
         cases W with
         |cons w0 wr =>
          obtain⟨tk,rfl⟩:=w0;have e:EK s.heap (.ref b)=i:=by simp[EK,g2,d2]
          have e':tw h O=i:=by simp[tw,jP,e3]
          obtain⟨⟨_,d3,_,l3⟩,n3,g3,rfl,_,rfl⟩:=L;exact⟨⟨b,(d3,l3),_,_,tk,rfl,g3,by rw[e];rfl⟩,e'.trans e.symm⟩
        |_=>rw[e3]at E;cases E
     have ek:ys.map (tw h)=j.map (EK s.heap):=by rw[e1,e2,xg,xg];exact E9 λt f=>(key t f).2
     have hl:j.length=ys.length:=by rw[e1,e2];simp
     refine SortT.rK (vs:=j) (rk:=EK s.heap) hr.units pl.isList (λv hv=>?_) (ek▸z.2.1) (by rw[hl];exact z.2.2) λh' l F kp G ⟨c,an⟩ pv ri=>?_
     .rw[e2]at hv;obtain⟨t,f,rfl⟩:=k6.mp hv;exact(key t f).1
     .have eo:F=aN (EK s.heap) j:=vA pv (ek▸z.2.1) (A5.mp ri);have et:aN (λt:PV×V×Value=>tw h t.1) C=aN (λt=>EK s.heap t.2.2) C:=iH λt f=>(key t f).2;obtain⟨R,rb⟩:=yt (K:=X.K) (U:=U) (H:=H) (ts:=aN (λt:PV×V×Value=>tw h t.1) C) λt f=>hm t ((cI _ _).mem_iff.mp f);have s1:aN (tw h) ys=(aN (λt:PV×V×Value=>tw h t.1) C).map (·.1):=by rw[e1,iA]
      have s2:F=(aN (λt:PV×V×Value=>tw h t.1) C).map (·.2.2):=by rw[eo,et,e2,iA]
      rw[<-s1]at R;rw[<-s2]at rb;have lz:((aN (λt:PV×V×Value=>tw h t.1) C).map (·.2.1)).length<=sizeLine:=by rw[<-R.length,(cI (tw h) ys).length_eq,sizeLine_eq];have:=z.2.2;lia
      refine⟨.ref l,_,B.laid (o:=.lst ((aN (λt:PV×V×Value=>tw h t.1) C).map (·.2.1))) (t':=s.toks) kp G (show ObjOk X.prog X.w _ _ _ (.lst _) from⟨lz,F,c,rb,an⟩),rfl,?_⟩;obtain⟨al,l3⟩:=M.new (B.hok.fresh G) (o:=.lst (aN (tw h) ys)) (ho:=.lst ((aN (λt:PV×V×Value=>tw h t.1) C).map (·.2.1))) ⟨_,rfl,R⟩;exact q _ _ _ l3 al (.loc (by rw[<-M.len];simp))
    .rw[c_ z]at q;exact q.elim
end
end MM
namespace PU
open MM
def ys{α:Type}{a b:α}(h:a=b):a=b:=h
inductive D where
 |non | bl (b:Bool) | int (i:Int) | str (x:Str) | tup (xs:List D) | lst (xs:List D) | dic | exc (c:Str) | pen
abbrev _root_.SW:=List D
abbrev _root_.S7:=Option D
abbrev f_:=Int×Int×Int
abbrev ar:=List (S7)
def aY(h:MH)(p:Nat)(s:f_):Prop:=h[p]?=J (.lst [.int s.1,.int s.2.1,.int s.2.2])
inductive PQ(P:SM->Prop)(v:PV):Prop
 |mk(xs:SM)(e:v=.tup xs)(r:P xs):PQ P v
inductive RJ(h:MH)(O:SV)(P:SM->Prop)(v:PV):Prop
 |mk(n:Nat)(xs:SM)(e:v=.loc n)(no:n∉O)(g:h[n]?=J (.lst xs))(r:P xs):RJ h O P v
inductive PX(h:MH)(O:SV)(o:MO)(v:PV):Prop
 |mk(n:Nat)(e:v=.loc n)(no:n∉O)(g:h[n]?=J o):PX h O o v
inductive PY(P:PV->Prop)(Q:SM->Prop)(vs:SM):Prop
 |mk(x:PV)(r:SM)(e:vs=x::r)(a:P x)(b:Q r):PY P Q vs
mutual
def Rp(p:Nat)(h:MH)(O:SV):D->PV->Prop
 |.non,v=>v=.non
 |.bl b,v=>v=.bl b
 |.int i,v=>v=.int i
 |.str x,v=>v=.str x
 |.tup a,v=>PQ (Rps p h O a) v
 |.lst a,v=>RJ h O (Rps p h O a) v
 |.dic,v=>PX h O (.dic []) v
 |.exc c,v=>PX h O (.exc ⟨c,[]⟩) v
 |.pen,v=>v=.loc p
def Rps(p:Nat)(h:MH)(O:SV):SW->SM->Prop
 |[],a=>a=[]
 |d::f,a=>PY (Rp p h O d) (Rps p h O f) a
end
def aF{h:MH}{n:Nat}{o:MO}(e:h[n]?=J o):n<h.length:=(r_.mp e).1
structure Mv(O:SV)(h:MH)(O':SV)(h':MH):Prop where
 keep:∀n:Nat,n<h.length->n∉O->h'[n]?=h[n]?
 new:∀o∈O',o∈O\/h.length<=o
def Mv.get{O i:SV}{h a:MH}(s:Mv O h i a){n:Nat}{o:MO}(e:h[n]?=J o)(f:n∉O):n∉i/\a[n]?=J o:=by
 have j:=aF e;refine⟨λz=>?_,(s.keep n j f).trans e⟩;rcases s.new n z with q|q
 .exact f q
 .lia
section
variable{p:Nat}{O O':SV}{h h':MH}
def Rp.mv(s:Mv O h O' h')(r:Rp p h O d v):Rp p h' O' d v:=by
 refine D.rec (motive_2:=λl=>∀u,Rps p h O l u->Rps p h' O' l u)
  (λ_ r=>r) (λ_ _ r=>r) (λ_ _ r=>r) (λ_ _ r=>r) (λl i _ r=>?_) (λl i _ r=>?_) (λ_ r=>?_) (λ_ _ r=>?_) (λ_ r=>r) (λ_ r=>r) (λ_ _ i j _ r=>?_) d v r
 .obtain⟨xs,e,r⟩:=r;exact⟨xs,e,i _ r⟩
 .obtain⟨n,xs,e,f,g,r⟩:=r;exact⟨n,xs,e,(s.get g f).1,(s.get g f).2,i _ r⟩
 .obtain⟨n,e,f,g⟩:=r;exact⟨n,e,(s.get g f).1,(s.get g f).2⟩
 .obtain⟨n,e,f,g⟩:=r;exact⟨n,e,(s.get g f).1,(s.get g f).2⟩
 .obtain⟨x,t,e,a,b⟩:=r;exact⟨x,t,e,i _ a,j _ b⟩
def Rps.mv(s:Mv O h O' h')(r:Rps p h O f vs):Rps p h' O' f vs:=by
 induction f generalizing vs with
 |nil=>exact r
 |cons d f i=>obtain⟨x,t,e,a,b⟩:=r;exact⟨x,t,e,a.mv s,i b⟩
def Rps.length(r:Rps p h O f vs):vs.length=f.length:=by
 induction f generalizing vs with
 |nil=>rw[show vs=[]from r];rfl
 |cons d f i=>obtain⟨x,t,e,a,b⟩:=r;rw[e,AU,AU,i b]
def Rps.get{f:SW}{j:SM}{i:Nat}{d:D}(r:Rps p h O f j)(g:f[i]?=J d):∃v,j[i]?=J v/\Rp p h O d v:=by
 induction f generalizing j i with
 |nil=>cases g
 |cons d f l =>
  obtain⟨x,t,e,a,b⟩:=r;subst e
  cases i with
  |zero=>cases g;exact⟨x,rfl,a⟩
  |succ i=>have z:=@l t i b g;exact z
def Rps.app(r:Rps p h O f vs)(s:Rps p h O es ws):Rps p h O (f++es) (vs++ws):=by
 induction f generalizing vs with
 |nil=>rw[show vs=[]from r];exact s
 |cons d f i=>obtain⟨x,t,e,a,b⟩:=r;subst e;exact⟨x,t++_,rfl,a,i b⟩
def Rps.take(n:Nat)(r:Rps p h O f vs):Rps p h O (f.take n) (vs.take n):=by
 induction f generalizing vs n with
 |nil=>rw[show vs=[]from r];cases n<;>rfl
 |cons d f i =>
  obtain⟨x,t,e,a,b⟩:=r;subst e
  cases n with
  |zero=>rfl
  |succ n=>exact⟨x,t.take n,rfl,a,i n b⟩
def Rps.drop(n:Nat)(r:Rps p h O f vs):Rps p h O (f.drop n) (vs.drop n):=by
 induction f generalizing vs n with
 |nil=>rw[show vs=[]from r];cases n<;>rfl
 |cons d f i =>
  cases n with
  |zero=>exact r
  |succ n=>obtain⟨x,t,e,a,b⟩:=r;subst e;exact i n b
end
inductive RK(p:Nat)(h:MH)(L:Nat)(O:SV)(d:D)(v:PV):Prop
 |mk(n:Nat)(xs:SM)(ds:SW)(e:d=.lst ds)(e':v=.loc n)(o:n∈O)(l:L<=n)(g:h[n]?=J (.lst xs))(r:Rps p h O ds xs):RK p h L O d v
def Vw(p:Nat)(h:MH)(L:Nat)(O:SV)(d:D)(v:PV):Prop:=Rp p h O d v\/RK p h L O d v
def EL(p:Nat)(h:MH)(L:Nat)(O:SV):SW->SM->Prop
 |[],a=>a=[]
 |d::f,a=>PY (Vw p h L O d) (EL p h L O f) a
inductive Lo(p:Nat)(L:Nat)(O:SV)(h:MH)(ds:SW)(v:PV):Prop
 |mk(n:Nat)(xs:SM)(e:v=.loc n)(l:L<=n)(g:h[n]?=J (.lst xs))(r:Rps p h (n::O) ds xs):Lo p L O h ds v
def Frs(p:Nat)(L:Nat)(O:SV)(h:MH)(d:D)(v:PV):Prop:=∀a,d=.lst a->Lo p L O h a v
structure KB(p:Nat)(h h':MH):Prop where
 len:h.length<=h'.length
 keep:∀n:Nat,n<h.length->n≠p->h'[n]?=h[n]?
def KB.refl(p:Nat)(h:MH):KB p h h:=⟨iv _,λ_ _ _=>rfl⟩
def KB.trans(a:KB p h h1)(b:KB p h1 h2):KB p h h2 :=
 ⟨mh a.len b.len,λn f i=>(b.keep n (q0 f a.len) i).trans (a.keep n f i)⟩
def KB.app(p:Nat)(h g:MH):KB p h (h++g):=⟨by simp,λn a _=>vj a⟩
def KB.mv(k:KB p h h')(i:p∈O):Mv O h O h' :=
 ⟨λn a f=>k.keep n a λz=>f (z▸i),λo j=>.inl j⟩
def aY.app{p:Nat}{h g:MH}{s:f_}(e:aY h p s):aY (h++g) p s:=by unfold aY at *;rw[vj (aF e)];exact e
def Vw.kb{p L:Nat}{h f:MH}{O:SV}{d:D}{v:PV}(k:KB p h f)(a:p∈O)(hL:p<L)(w:Vw p h L O d v):Vw p f L O d v:=by
 rcases w with r|⟨n,xs,l,e1,e2,i,j,g,r⟩
 .exact .inl (r.mv (k.mv a))
 .exact .inr ⟨n,xs,l,e1,e2,i,j,(k.keep n (aF g) ⋯).trans g,r.mv (k.mv a)⟩
inductive PR(α:Type) where
 |ok(a:α)(s:f_)
 |exc(c:Str)(s:f_)
 |bad
def PR.bind{α β:Type}(r:PR α)(f:α->f_->PR β):PR β:=match r with
 |.ok a s=>f a s
 |.exc c s=>.exc c s
 |.bad=>.bad
@[simp]theorem Pb(a:α)(s:f_)(f:α->f_->PR β):(PR.ok a s).bind f=f a s:=rfl
@[simp]theorem Pe(c:Str)(s:f_)(f:α->f_->PR β):(PR.exc c s).bind f=.exc c s:=rfl
@[simp]theorem Pd(f:α->f_->PR β):(PR.bad:PR α).bind f=.bad:=rfl
def PR.of{α:Type}(o:Option α)(s:f_):PR α:=match o with
 |some a=>.ok a s
 |none=>.bad
@[simp]theorem Pf(a:α)(s:f_):PR.of (J a) s=.ok a s:=rfl
@[simp]theorem Pn(s:f_):PR.of (Y:Option α) s=.bad:=rfl
inductive RL{α β:Type}(p:Nat)(h:MH)(o:Out β)(a:α)(s:f_)(R:MH->α->β->Prop):Prop
 |mk(b:β)(h':MH)(e:o=.ok b h')(k:KB p h h')(n:aY h' p s)(r:R h' a b):RL p h o a s R
inductive RM{β:Type}(p:Nat)(h:MH)(o:Out β)(c:Str)(s:f_):Prop
 |mk(h':MH)(e:o=.exc ⟨c,[]⟩ h')(k:KB p h h')(n:aY h' p s):RM p h o c s
def Ok{α β:Type}(p:Nat)(h:MH)(o:Out β)(r:PR α)(R:MH->α->β->Prop):Prop:=match r with
 |.ok a s=>RL p h o a s R
 |.exc c s=>RM p h o c s
 |.bad=>True
def Ok.bind{α β γ δ:Type}{p:Nat}{h:MH}{o:Out β}{r:PR α}{R:MH->α->β->Prop}{f:β->MH->Out δ}{g:α->f_->PR γ}{S:MH->γ->δ->Prop}(q:Ok p h o r R)(k:∀a b i s,KB p h i->aY i p s->R i a b->Ok p i (f b i) (g a s) S):Ok p h (o.bind f) (r.bind g) S:=by
 cases r with
 |ok a s =>
  obtain⟨b,i,rfl,kb,pn,B⟩:=q
  have:=k a b i s kb pn B
  rw[Pb]
  cases e:g a s with
  |ok c y =>
   rw[e]at this;obtain⟨d,u,e2,l,j,z⟩:=this;exact⟨d,u,e2,kb.trans l,j,z⟩
  |exc c y =>
   rw[e]at this;obtain⟨u,e2,l,j⟩:=this;exact⟨u,e2,kb.trans l,j⟩
  |bad=>trivial
 |exc c s =>
  obtain⟨i,rfl,kb,pn⟩:=q;exact⟨i,rfl,kb,pn⟩
 |bad=>trivial
def Ok.imp{α β:Type}{p:Nat}{h:MH}{o:Out β}{r:PR α}{R S:MH->α->β->Prop}(q:Ok p h o r R)(k:∀f a b,KB p h f->R f a b->S f a b):Ok p h o r S:=by
 cases r with
 |ok a s=>obtain⟨b,i,e,kb,pn,j⟩:=q;exact⟨b,i,e,kb,pn,k _ _ _ kb j⟩
 |exc c s=>exact q
 |bad=>trivial
structure SR(p:Nat)(h:MH)(L:Nat)(O:SV)(ws:SV)(Z:k4)(env:ar):Prop where
 len:Z.length=env.length
 fz:∀i d,env[i]?=J (J d)->i∉ws->∃v,Z[i]?=J (J v)/\Rp p h O d v
 ow:∀i d,env[i]?=J (J d)->i∈ws->∃n xs ds,d=.lst ds/\Z[i]?=J (J (.loc n))/\n∈O/\L<=n/\h[n]?=J (.lst xs)/\Rps p h O ds xs
structure Cx(p:Nat)(h:MH)(L:Nat)(B O:SV)(ws:SV)(Z:k4)(env:ar)(s:f_):Prop where
 bd:∀o∈O,o<h.length
 sub:∀o∈B,o∈O
 bb:∀o∈B,o<L
 pb:p∈B
 hL:L<=h.length
 pen:aY h p s
 sr:SR p h L O ws Z env
section
variable{p L:Nat}{h h':MH}{B O ws:SV}{Z:k4}{env:ar}{s s':f_}
def Cx.pO(c:Cx p h L B O ws Z env s):p∈O:=c.sub p c.pb
def Cx.pL(c:Cx p h L B O ws Z env s):p<L:=c.bb p c.pb
def SR.mv{f:SV}(m:Mv O h f h')(u:∀o∈O,o∈f)(l:∀n:Nat,n<h.length->L<=n->n∈O->h'[n]?=h[n]?)(r:SR p h L O ws Z env):SR p h' L f ws Z env :=
 ⟨r.len,λi d e j=>let⟨v,e1,q⟩:=r.fz i d e j;⟨v,e1,q.mv m⟩,λi d e j=>let⟨n,xs,y,e1,e2,a,b,g,q⟩:=r.ow i d e j;⟨n,xs,y,e1,e2,u n a,b,(l n (aF g) b a).trans g,q.mv m⟩⟩
def Cx.kb(c:Cx p h L B O ws Z env s)(k:KB p h h')(pn:aY h' p s'):Cx p h' L B O ws Z env s' :=
 ⟨λo f=>q0 (c.bd o f) k.len,c.sub,c.bb,c.pb,mh c.hL k.len,pn,c.sr.mv (k.mv c.pO) (λ_ h=>h) λn a i _=>k.keep n a (by have:=c.pL;lia)⟩
def Vw.base(w:Vw p h L O d v)(sub:∀o∈B,o∈O)(bb:∀o∈B,o<L):Rp p h B d v:=by
 have m:Mv O h B h:=⟨λ_ _ _=>rfl,λo a=>.inl (sub o a)⟩;rcases w with r|⟨n,xs,i,rfl,rfl,_,f,g,r⟩
 .exact r.mv m
 .exact⟨n,xs,rfl,λz=>by have:=bb n z;lia,g,r.mv m⟩
def Frs.rp(f:Frs p L' O h d v)(bd:∀o∈O,o<L')(e:d=.lst ds):Rp p h O d v:=by obtain⟨n,xs,e1,i,g,r⟩:=f ds e;subst e;exact⟨n,xs,e1,λz=>by have:=bd n z;lia,g,r.mv ⟨λ_ _ _=>rfl,λo a=>.inl (nt _ a)⟩⟩
def Frs.le(f:Frs p L2 O h d v)(i:L1<=L2):Frs p L1 O h d v:=λj e =>
 let⟨n,xs,e1,a,g,r⟩:=f j e;⟨n,xs,e1,mh i a,g,r⟩
end
abbrev Bd(h:MH)(O:SV):Prop:=∀o∈O,o<h.length
inductive Gv(p:Nat)(h:MH)(O:SV)(fr:Bool)(o:S4)(d:D):Prop
 |mk(v:PV)(g:MH)(e:o=.ok v (h++g))(r:Rp p (h++g) O d v)(f:fr=I->Frs p h.length O (h++g) d v):Gv p h O fr o d
structure Lp where
 m:PV->MH->S4
 p:D->S7
 fr:Bool
 ok:∀{q h L O a x d},Bd h O->Vw q h L O a x->p a=J d->Gv q h O fr (m x h) d
structure yX where
 m:PV->PV->MH->S4
 p:D->D->S7
 fr:Bool
 ok:∀{q h L O a x b y d},Bd h O->Vw q h L O a x->Vw q h L O b y->p a b=J d->Gv q h O fr (m x y h) d
structure zn where
 k:SM->MH->S4
 p:SW->S7
 fr:Bool
 ok:∀{q h L O as xs d},Bd h O->EL q h L O as xs->p as=J d->Gv q h O fr (k xs h) d
structure Fn where
 m:SM->MH->S4
 p:SW->f_->PR D
 fr:Bool
 ok:∀{q h O vs ds s},Bd h O->q∈O->aY h q s->Rps q h O ds vs->Ok q h (m vs h) (p ds s) (λh' d v=>Rp q h' O d v/\(fr=I->Frs q h.length O h' d v))
mutual
def flat:D->Bool
 |.lst _ | .dic | .exc _ | .pen=>T
 |.tup a=>u5 a
 |_=>I
def u5:SW->Bool
 |[]=>I
 |d::a=>flat d&&u5 a
end
section
variable{p:Nat}{h h':MH}{O O':SV}
mutual
def Rp.flat:∀{d:D}{v:PV},PU.flat d=I->Rp p h O d v->Rp p h' O' d v
 |.non,_,_,r=>r
 |.bl _,_,_,r=>r
 |.int _,_,_,r=>r
 |.str _,_,_,r=>r
 |.tup a,_,f,⟨xs,e,r⟩=>⟨xs,e,Rps.flat (by simpa [PU.flat]using f) r⟩
 |.lst a,_,f,_=>by simp[PU.flat]at f
 |.dic,_,f,_=>by simp[PU.flat]at f
 |.exc _,_,f,_=>by simp[PU.flat]at f
 |.pen,_,f,_=>by simp[PU.flat]at f
def Rps.flat:∀{i:SW}{j:SM},PU.u5 i=I->Rps p h O i j->Rps p h' O' i j
 |[],_,_,r=>r
 |_::_,_,f,⟨x,t,e,a,b⟩=>⟨x,t,e,Rp.flat (by simp[PU.u5]at f;exact f.1) a,Rps.flat (by simp[PU.u5]at f;exact f.2) b⟩
end
end
structure Xe(ws:SV) where
 m:Mx PV
 p:ar->f_->PR D
 fz:Bool
 fr:Bool
 ok:∀{q h L B O Z env s},Cx q h L B O ws Z env s->Ok q h (m Z h) (p env s) (λh' d v=>Vw q h' L O d v/\(fz=I->Rp q h' O d v)/\(fr=I->Frs q h.length O h' d v))
structure Xs(ws:SV) where
 m:Mx (SM)
 p:ar->f_->PR (SW)
 fz:Bool
 ok:∀{q h L B O Z env s},Cx q h L B O ws Z env s->Ok q h (m Z h) (p env s) (λh' ds vs=>EL q h' L O ds vs/\(fz=I->Rps q h' O ds vs))
structure Xt(ws:SV) where
 m:Mx Bool
 p:ar->f_->PR Bool
 ok:∀{q h L B O Z env s},Cx q h L B O ws Z env s->Ok q h (m Z h) (p env s) (λ_ a b=>a=b)
noncomputable section
variable{ws:SV}
def Be{q L:Nat}{h a:MH}{O:SV}{o:S4}{d:D}{s:f_}{fr:Bool}(le:h.length<=a.length)(pn:aY a q s)(g:Gv q a O fr o d):
  Ok q a o (.ok d s) (λi d v=>Vw q i L O d v/\(I=I->Rp q i O d v)/\(fr=I->Frs q h.length O i d v)):=by
 obtain⟨v,g,e,r,f⟩:=g;exact⟨v,a++g,e,KB.app _ _ _,pn.app,.inl r,λ_=>r,λz=>(f z).le le⟩
def aa(i:Nat):Xe ws where
 m:=af i
 p:=λenv s=>match env[i]? with
  |some (J d)=>.ok d s
  |_=>.bad
 fz:=!ws.contains i
 fr:=T
 ok {q h L B O Z env s} c:=by
  show Ok q h _ (match env[i]? with|some (J d)=>PR.ok d s|_=>.bad) _
  cases e:env[i]? with
  |none=>trivial
  |some o =>
   cases o with
   |none=>trivial
   |some d =>
    by_cases z:i∈ws
    .obtain⟨n,xs,j,e1,e2,a,b,g,r⟩:=c.sr.ow i d e z;exact⟨.loc n,h,by simp[af,e2],KB.refl _ _,c.pen,.inr ⟨n,xs,j,e1,rfl,a,b,g,r⟩,λf=>by simp[z]at f,λf=>by simp at f⟩
    .obtain⟨v,e1,r⟩:=c.sr.fz i d e z;exact⟨v,h,by simp[af,e1],KB.refl _ _,c.pen,.inl r,λ_=>r,λf=>by simp at f⟩
inductive Cn where
 |non | bl (b:Bool) | int (i:Int) | str (x:Str)
def Cn.v:Cn->PV
 |.non=>.non
 |.bl b=>.bl b
 |.int i=>.int i
 |.str x=>.str x
def Cn.d:Cn->D
 |.non=>.non
 |.bl b=>.bl b
 |.int i=>.int i
 |.str x=>.str x
def Cn.rp(c:Cn){q:Nat}{h:MH}{O:SV}:Rp q h O c.d c.v:=by cases c<;>rfl
def xC(k:Cn):Xe ws where
 m:=mC k.v
 p:=λ_ s=>.ok k.d s
 fz:=I
 fr:=I
 ok {q h L B O Z env s} c:=⟨k.v,h,rfl,KB.refl _ _,c.pen,.inl k.rp,λ_=>k.rp,λ_ a e=>by cases k<;>cases e⟩
def ad(o:yX)(a b:Xe ws):Xe ws where
 m:=ao o.m a.m b.m
 p:=λenv s=>(a.p env s).bind λx E=>(b.p env E).bind λy z=>.of (o.p x y) z
 fz:=I
 fr:=o.fr
 ok {q h L B O Z env s} c:=by
  refine(a.ok c).bind λx v P E j l ⟨H,_,_⟩=>?_;refine(b.ok (c.kb j l)).bind λy w M z i C ⟨G,_,_⟩=>?_
  cases e:o.p x y with
  |none=>trivial
  |some d =>
   have F:=(c.kb j l).kb i C;obtain⟨u,g,e1,r,f⟩:=o.ok F.bd (H.kb i c.pO c.pL) G e;exact Be (mh j.len i.len) C ⟨u,g,by rw[e1];rfl,r,f⟩
def y4(o:Lp)(a:Xe ws):Xe ws where
 m:=Cs o.m a.m
 p:=λenv s=>(a.p env s).bind λx j=>.of (o.p x) j
 fz:=I
 fr:=o.fr
 ok {q h L B O Z env s} c:=by
  refine(a.ok c).bind λx v z j l i ⟨y,_,_⟩=>?_
  cases e:o.p x with
  |none=>trivial
  |some d =>
   obtain⟨u,g,e1,r,f⟩:=o.ok (c.kb l i).bd y e;exact Be l.len i ⟨u,g,by rw[e1];rfl,r,f⟩
def a_:Xs ws where
 m:=e_
 p:=λ_ s=>.ok [] s
 fz:=I
 ok {q h L B O Z env s} c:=⟨[],h,rfl,KB.refl _ _,c.pen,rfl,λ_=>rfl⟩
def ac(a:Xe ws)(r:Xs ws):Xs ws where
 m:=ae a.m r.m
 p:=λenv s=>(a.p env s).bind λx l=>(r.p env l).bind λy i=>.ok (x::y) i
 fz:=a.fz&&r.fz
 ok {q h L B O Z env s} c:=by refine(a.ok c).bind λx v P l H u ⟨M,C,_⟩=>?_;refine(r.ok (c.kb H u)).bind λy w F i j E ⟨G,z⟩=>?_;refine⟨v::w,F,rfl,KB.refl _ _,E,⟨v,w,rfl,M.kb j c.pO c.pL,G⟩,λf=>?_⟩;rw[Jf]at f;exact⟨v,w,rfl,(C f.1).mv (j.mv c.pO),z f.2⟩
def qp(o:zn)(a:Xs ws):Xe ws where
 m:=λZ h=>(a.m Z h).bind o.k
 p:=λenv s=>(a.p env s).bind λx j=>.of (o.p x) j
 fz:=I
 fr:=o.fr
 ok {q h L B O Z env s} c:=by
  refine(a.ok c).bind λx v u j i f ⟨l,_⟩=>?_
  cases e:o.p x with
  |none=>trivial
  |some d=>exact Be i.len f (o.ok (c.kb i f).bd l e)
def aq(f:Fn)(a:Xs ws)(u:a.fz=I:=by exact ys rfl):Xe ws where
 m:=bE f.m a.m
 p:=λenv s=>(a.p env s).bind f.p
 fz:=I
 fr:=f.fr
 ok {q h L B O Z env s} c:=by refine(a.ok c).bind λx v E y l i ⟨_,z⟩=>?_;have j:=c.kb l i;refine(f.ok j.bd j.pO i (z u)).imp λC d v kb ⟨r,fr⟩=>⟨.inl r,λ_=>r,λz=>(fr z).le l.len⟩
def dG:100000<=sizeLine:=by decide
def kz(bd:Bd h O)(r:Rps q h O ds xs)(u:ds.length<=100000):Gv q h O I (sf xs h) (.lst ds):=by
 have l:=r.length;have m:Mv O h O (h++[MO.lst xs]):=⟨λn a _=>vj a,λo f=>.inl f⟩
 have i:Mv O h (h.length::O) (h++[MO.lst xs]):=⟨λn a _=>vj a,λo f=>by
  rcases j_.mp f with z|z
  .exact .inr ⋯
  .exact .inl z⟩
 have g:(h++[MO.lst xs])[h.length]?=J (.lst xs):=by simp
 refine⟨.loc h.length,[.lst xs],?_,⟨_,_,rfl,λz=>by have:=bd _ z;lia,g,r.mv m⟩,λ_ j e=>?_⟩
 .unfold sf;have:=dG;lia
 .cases e;exact⟨_,_,rfl,iv _,g,r.mv i⟩
def tT(r:Rps q h O ds xs)(i:ds.length<=100000):Gv q h O I (wn xs h) (.tup ds):=by
 have f:=r.length;refine⟨.tup xs,[],?_,?_,λ_ a e=>by cases e⟩
 .unfold wn;rw[b_ (by have:=dG;lia)];simp
 .simpa using⟨xs,rfl,r⟩
def bu(a:Xs ws)(u:a.fz=I:=by exact ys rfl):Xe ws where
 m:=dC a.m
 p:=λenv s=>(a.p env s).bind λx l=>if x.length<=100000 then .ok (.lst x) l else .bad
 fz:=I
 fr:=I
 ok {q h L B O Z env s} c:=by
  refine(a.ok c).bind λx v y l j i ⟨_,z⟩=>?_;by_cases f:x.length<=100000
  .rw[b_ f];exact Be j.len i (kz (c.kb j i).bd (z u) f)
  .rw[c_ f];trivial
def bg(a:Xs ws)(u:a.fz=I:=by exact ys rfl):Xe ws where
 m:=Cv a.m
 p:=λenv s=>(a.p env s).bind λx i=>if x.length<=100000 then .ok (.tup x) i else .bad
 fz:=I
 fr:=I
 ok {q h L B O Z env s} c:=by
  refine(a.ok c).bind λx v y i l j ⟨_,z⟩=>?_;by_cases f:x.length<=100000
  .rw[b_ f];exact Be l.len j (tT (z u) f)
  .rw[c_ f];trivial
def Dx:Xe ws where
 m:=Gq
 p:=λ_ s=>.ok .dic s
 fz:=I
 fr:=I
 ok {q h L B O Z env s} c:=by have r:Rp q (h++[MO.dic []]) O .dic (.loc h.length):=⟨_,rfl,λz=>by have:=c.bd _ z;lia,by simp⟩;exact⟨.loc h.length,h++[.dic []],rfl,KB.app _ _ _,c.pen.app,.inl r,λ_=>r,λ_ a e=>by cases e⟩
def Vw.bl(w:Vw q h L O (.bl b) v):v=.bl b:=by
 rcases w with r|⟨n,xs,a,e,_⟩
 .exact r
 .cases e
def PR.bl(r:PR D):PR Bool:=r.bind λd s=>match d with
 |.bl b=>.ok b s
 |_=>.bad
@[simp]theorem Pl:(PR.ok (D.bl b) s).bl=.ok b s:=rfl
def xB(a:Xe ws):Xt ws where
 m:=mB a.m
 p:=λenv s=>(a.p env s).bl
 ok {q h L B O Z env s} c:=by
  refine(a.ok c).bind λx v i l j f ⟨w,_,_⟩=>?_
  cases x with
  |bl b=>rw[w.bl];exact⟨b,i,rfl,KB.refl _ _,f,rfl⟩
  |_=>trivial
def lY(a:Xt ws):Xt ws where
 m:=Ct a.m
 p:=λenv s=>(a.p env s).bind λb s=>.ok (!b) s
 ok {q h L B O Z env s} c:=(a.ok c).bind λx v i l j f e=>⟨!v,i,rfl,KB.refl _ _,f,by rw[e]⟩
def b9(a b:Xt ws):Xt ws where
 m:=F5 a.m b.m
 p:=λenv s=>(a.p env s).bind λx s=>if x=I then b.p env s else .ok T s
 ok {q h L B O Z env s} c:=(a.ok c).bind λx v j l i f e=>by
  subst e
  cases x with
  |true=>simpa using b.ok (c.kb i f)
  |false=>exact⟨T,j,rfl,KB.refl _ _,f,rfl⟩
def BX(a b:Xt ws):Xt ws where
 m:=Jo a.m b.m
 p:=λenv s=>(a.p env s).bind λx s=>if x=I then .ok I s else b.p env s
 ok {q h L B O Z env s} c:=(a.ok c).bind λx v j l i f e=>by
  subst e
  cases x with
  |false=>simpa using b.ok (c.kb i f)
  |true=>exact⟨I,j,rfl,KB.refl _ _,f,rfl⟩
def ka:Xt ws where
 m:=vU
 p:=λ_ s=>.ok I s
 ok {q h L B O Z env s} c:=⟨I,h,rfl,KB.refl _ _,c.pen,rfl⟩
def Ok.after{α β:Type}{p:Nat}{h l:MH}{o:Out β}{r:PR α}{R:MH->α->β->Prop}(k:KB p h l)(q:Ok p l o r R):Ok p h o r R:=by
 cases r with
 |bad=>trivial
 |exc B y=>obtain⟨f,j,i,a⟩:=q;exact⟨f,j,k.trans i,a⟩
 |ok C y=>obtain⟨z,f,j,i,a,u⟩:=q;exact⟨z,f,j,k.trans i,a,u⟩
def EM(pn:aY h q s):Ok q h (.ok (.bl b) h) (.ok (.bl b) s) (λa d v=>Vw q a L O d v/\(I=I->Rp q a O d v)/\(I=I->Frs q l O a d v)) :=
 ⟨.bl b,h,rfl,KB.refl _ _,pn,.inl rfl,λ_=>rfl,λ_ f e=>by cases e⟩
def Hk(k:Ok q h o r (λa d v=>Vw q a L O d v/\(fz=I->Rp q a O d v)/\(fr=I->Frs q l' O a d v))):
  Ok q h o (r.bl.bind λb s=>.ok (.bl b) s) (λa d v=>Vw q a L O d v/\(I=I->Rp q a O d v)/\(I=I->Frs q l O a d v)):=by
 cases r with
 |bad=>trivial
 |exc c s=>exact k
 |ok d s =>
  obtain⟨v,a,e,kb,pn,w,_,_⟩:=k
  cases d with
  |bl b=>exact⟨v,a,e,kb,pn,w,λ_=>by rw[w.bl];rfl,λ_ f e=>by cases e⟩
  |_=>trivial
def nN(a b:Xe ws):Xe ws where
 m:=vf a.m b.m
 p:=λenv s=>(a.p env s).bl.bind λx s=>if x=I then(b.p env s).bl.bind λy s=>.ok (.bl y) s else .ok (.bl T) s
 fz:=I
 fr:=I
 ok {q h L B O Z env s} c:=by
  have k:=a.ok c;show Ok q h ((a.m Z h).bind _) _ _
  cases e:a.p env s with
  |bad=>trivial
  |exc x H =>
   rw[e]at k;obtain⟨j,e1,f,i⟩:=k;rw[e1];exact⟨j,rfl,f,i⟩
  |ok d H =>
   rw[e]at k;obtain⟨v,j,e1,f,i,w,_,_⟩:=k
   cases d with
   |bl x =>
    rw[w.bl]at e1;rw[e1]
    cases x with
    |true =>
     exact Ok.after f (Hk (l:=h.length) (b.ok (c.kb f i)))
    |false =>
     obtain⟨E,C,G,F,z,u⟩:=EM (L:=L) (l:=h.length) (O:=O) (b:=T) i;exact⟨E,C,G,f.trans F,z,u⟩
   |_=>trivial
def qo(a:Xe ws):Xe ws where
 m:=vW a.m
 p:=λenv s=>(a.p env s).bl.bind λx s=>.ok (.bl (!x)) s
 fz:=I
 fr:=I
 ok {q h L B O Z env s} c:=by
  have k:=a.ok c;show Ok q h ((a.m Z h).bind _) _ _
  cases e:a.p env s with
  |bad=>trivial
  |exc x G =>
   rw[e]at k;obtain⟨j,e1,i,f⟩:=k;rw[e1];exact⟨j,rfl,i,f⟩
  |ok d G =>
   rw[e]at k;obtain⟨v,j,e1,i,f,w,_,_⟩:=k
   cases d with
   |bl x =>
    rw[w.bl]at e1;rw[e1];obtain⟨C,z,F,E,y,u⟩:=EM (L:=L) (l:=h.length) (O:=O) (b:=!x) f;exact⟨C,z,F,i.trans E,y,u⟩
   |_=>trivial
def mz(f g:yX)(a b e:Xe ws):Xe ws where
 m:=mJ f.m g.m a.m b.m e.m
 p:=λenv s=>(a.p env s).bind λx W=>(b.p env W).bind λy C=>match f.p x y with
  |some (.bl t)=>if t=I then(e.p env C).bind λz H=>.of (g.p y z) H else .ok (.bl T) C
  |_=>.bad
 fz:=I
 fr:=T
 ok {q h L B O Z env s} c:=by
  refine(a.ok c).bind λx v h1 W X F ⟨w1,_,_⟩=>?_;refine(b.ok (c.kb X F)).bind λy w l C P E ⟨U,_,_⟩=>?_;have G:=(c.kb X F).kb P E
  cases e1:f.p x y with
  |none=>trivial
  |some d =>
   cases d with
   |bl t =>
    obtain⟨u,i,e2,r,_⟩:=f.ok G.bd (w1.kb P c.pO c.pL) U e1;have hu:u=.bl t:=r;subst hu;rw[e2];have j:=KB.app q l i;have M:=G.kb j E.app
    cases t with
    |true =>
     refine Ok.after j ?_;show Ok q (l++i) ((e.m Z (l++i)).bind _) _ _;refine(e.ok M).bind λz u h3 H Q R ⟨w3,_,_⟩=>?_
     cases e4:g.p y z with
     |none=>trivial
     |some d =>
      obtain⟨u2,g2,e5,S,_⟩:=g.ok (M.kb Q R).bd ((U.kb j c.pO c.pL).kb Q c.pO c.pL) w3 e4;refine⟨u2,h3++g2,by rw[e5];rfl,KB.app _ _ _,R.app,.inl S,λ_=>S,λf=>by simp at f⟩
    |false=>exact⟨.bl T,l++i,rfl,j,E.app,.inl rfl,λ_=>rfl,λf=>by simp at f⟩
   |_=>trivial
end
structure Xi(ws:SV) where
 m:Mx MIt
 p:ar->f_->PR (SW)
 fz:Bool
 ok:∀{q h L B O Z env s},Cx q h L B O ws Z env s->Ok q h (m Z h) (p env s) (λh' ds it=>Rps q h' O ds it.xs/\(∀g∈it.gd,h'[g.1]?=J (.lst g.2)/\g.1≠q)/\(fz=I->∀g∈it.gd,g.1∉O))
inductive GI(q:Nat)(h:MH)(O:SV)(ds as:SW)(xs:SM)(o:Out MIt):Prop
 |mk(it:MIt)(e:o=.ok it h)(r:Rps q h O ds it.xs)(g:∀g∈it.gd,h[g.1]?=J (.lst g.2)/\g.1≠q)(z:Rps q h O as xs->∀g∈it.gd,g.1∉O):GI q h O ds as xs o
structure PZ where
 k:SM->MH->Out MIt
 p:SW->Option (SW)
 ok:∀{q h L O as xs ds},q<L->q∈O->Bd h O->EL q h L O as xs->p as=J ds->GI q h O ds as xs (k xs h)
def D.items:D->Option (SW)
 |.lst a=>J a
 |.tup a=>J a
 |_=>Y
@[simp]theorem yn:(D.lst ds).items=J ds:=rfl
@[simp]theorem Jz:(D.tup ds).items=J ds:=rfl
noncomputable section
variable{ws:SV}
def bJ(o:PZ)(a:Xs ws):Xi ws where
 m:=λZ h=>(a.m Z h).bind o.k
 p:=λenv s=>(a.p env s).bind λx j=>.of (o.p x) j
 fz:=a.fz
 ok {q h L B O Z env s} c:=by
  refine(a.ok c).bind λx v E j C i ⟨w,z⟩=>?_
  cases e:o.p x with
  |none=>trivial
  |some F =>
   obtain⟨y,e1,r,l,u⟩:=o.ok c.pL c.pO (c.kb C i).bd w e;exact⟨y,E,e1,KB.refl _ _,i,r,l,λf=>u (z f)⟩
def Vw.seq(F:q<L)(C:q∈O)(w:Vw q h L O d v)(e:d.items=J ds):∃xs gd,vl v h=.ok ⟨xs,gd⟩ h/\Rps q h O ds xs/\(∀g∈gd,h[g.1]?=J (.lst g.2)/\g.1≠q)/\(Rp q h O d v->∀g∈gd,g.1∉O):=by
 have one:∀n xs,h[n]?=J (MO.lst xs)->n≠q->(∀g∈[(n,xs)],h[g.1]?=J (MO.lst g.2)/\g.1≠q):=λn xs g u y a=>by
  have:y=(n,xs):=by simpa using a
  subst this;exact⟨g,u⟩
 cases d with
 |lst j =>
  have:j=ds:=by simpa using e
  subst this;rcases w with⟨n,xs,e1,f,g,r⟩|⟨n,xs,i,l,e1,_,u,g,r⟩
  .subst e1;refine⟨xs,[(n,xs)],by simp only[vl,g],r,one n xs g (λz=>f (z▸C)),λ_ y a=>?_⟩
   have:y=(n,xs):=by simpa using a
   subst this;exact f
  .cases l;subst e1;refine⟨xs,[(n,xs)],by simp only[vl,g],r,one n xs g ⋯,λ⟨E,B,e1,f,_,_⟩ y a=>?_⟩
   grind
 |tup j =>
  have:j=ds:=by simpa using e
  subst this;rcases w with⟨xs,e1,r⟩|⟨n,xs,i,l,_⟩
  .subst e1;exact⟨xs,[],rfl,r,(λ_ a=>nomatch a),λ_ _ a=>nomatch a⟩
  .cases l
 |_=>simp[D.items]at e
def aT(a:Xe ws):Xi ws where
 m:=kq a.m
 p:=λenv s=>(a.p env s).bind λx i=>.of x.items i
 fz:=a.fz
 ok {q h L B O Z env s} c:=by
  refine(a.ok c).bind λx v y i C j ⟨w,z,_⟩=>?_
  cases e:x.items with
  |none=>trivial
  |some E =>
   obtain⟨xs,gd,e1,r,l,u⟩:=w.seq c.pL c.pO e;exact⟨⟨xs,gd⟩,y,e1,KB.refl _ _,j,r,l,λf=>u (z f)⟩
structure Xg(ws:SV) where
 m:Mg
 p:D->ar->Option ar
 ok:∀{q h L O Z env d v env'},SR q h L O ws Z env->Rp q h O d v->p d env=J env'->∃Z',m v Z h=.nx Z' h/\SR q h L O ws Z' env'/\∀i∈ws,Z'[i]?=Z[i]?/\env'[i]?=env[i]?
structure EN(ws:SV) where
 m:Cy
 p:SW->ar->Option ar
 ok:∀{q h L O Z env ds vs env'},SR q h L O ws Z env->Rps q h O ds vs->p ds env=J env'->∃Z',m vs Z h=.nx Z' h/\SR q h L O ws Z' env'/\∀i∈ws,Z'[i]?=Z[i]?/\env'[i]?=env[i]?
def SR.set(r:SR q h L O ws Z env)(B:i∉ws)(w:Rp q h O d v):SR q h L O ws (Z.set i (J v)) (env.set i (J d))/\∀j∈ws,(Z.set i (J v))[j]?=Z[j]?/\(env.set i (J d))[j]?=env[j]?:=by
 have ne:∀j∈ws,i≠j:=λj a z=>B (z▸a);refine⟨⟨by simp[r.len],λj e a l=>?_,λj e a l=>?_⟩,λj a=>⟨o0 (ne j a),o0 (ne j a)⟩⟩
 .by_cases z:i=j
  .subst z;have y:i<env.length:=by
    have:=(r_.mp a).1;simpa using this
   rw[y9 y]at a;cases a;exact⟨v,y9 (by rw[r.len];exact y),w⟩
  .rw[o0 z]at a;obtain⟨u,e1,E⟩:=r.fz j e a l
   simp_all
 .rw[o0 (ne j l)]at a;obtain⟨n,xs,C,e1,e2,f⟩:=r.ow j e a l;exact⟨n,xs,C,e1,by rw[o0 (ne j l)];exact e2,f⟩
def i_(i:Nat)(j:ws.contains i=T:=by exact ys rfl):Xg ws where
 m:=wo i
 p:=λd env=>J (env.set i (J d))
 ok {q h L O Z env d v env'} r w e:=by
  cases e;have f:i∉ws:=λz=>by simp[z]at j
  obtain⟨a,b⟩:=r.set f w;exact⟨_,rfl,a,b⟩
def Ax:EN ws where
 m:=Ge
 p:=λa env=>match a with
  |[]=>J env
  |_=>Y
 ok {q h L O Z env a vs env'} r w e:=by
  cases a with
  |nil =>
   cases e
   have:vs=[]:=w
   subst this;exact⟨Z,rfl,r,λ_ _=>⟨rfl,rfl⟩⟩
  |cons _ _=>cases e
def t0(a:Xg ws)(t:EN ws):EN ws where
 m:=Es a.m t.m
 p:=λj env=>match j with
  |d::j=>(a.p d env).bind λf=>t.p j f
  |[]=>Y
 ok {q h L O Z env j vs env'} r w e:=by
  cases j with
  |nil=>cases e
  |cons d j =>
   obtain⟨x,y,rfl,B,F⟩:=w;dsimp only at e
   cases e1:a.p d env with
   |none=>rw[e1]at e;cases e
   |some f =>
    rw[e1]at e;obtain⟨P,E,H,z⟩:=a.ok r B e1;obtain⟨M,G,C,u⟩:=t.ok H F e;exact⟨M,by show(a.m x Z h).then (t.m y)=_;rw[E];exact G,C,λi l=>⟨(u i l).1.trans (z i l).1,(u i l).2.trans (z i l).2⟩⟩
def Ay(t:EN ws)(n:Nat):Xg ws where
 m:=Gf t.m n
 p:=λd env=>match d with
  |.tup f=>if f.length=n then t.p f env else Y
  |_=>Y
 ok {q h L O Z env d v env'} r w e:=by
  cases d with
  |tup f =>
   obtain⟨xs,rfl,w⟩:=w;dsimp only at e;by_cases z:f.length=n
   .rw[b_ z]at e;obtain⟨i,a,b⟩:=t.ok r w e;exact⟨i,by show(if xs.length=n then t.m xs Z h else .bad)=_;rw[b_ (by rw[w.length];exact z)];exact a,b⟩
   .rw[c_ z]at e;cases e
  |_=>cases e
def Bo(a:Nat)(fm ws:SV):SV:=((List.range fm.length).filter λj=>ws.contains (fm.getD j 0)).map (a+·)
def w_(a:Nat)(fm:SV)(env:ar):ar:=List.replicate a Y++fm.map λi=>(env[i]?).getD Y
def PR.ne{α:Type}(r:PR α):PR α:=match r with
 |.exc _ _=>.bad
 |r=>r
@[simp]theorem PR.ne_ok(a:α)(s:f_):(PR.ok a s).ne=.ok a s:=rfl
def d8(g:D->ar->Option ar)(t:ar->f_->PR Bool)(e:ar->f_->PR D):SW->ar->f_->PR (SW)
 |[],_,s=>.ok [] s
 |d::i,env,s=>match g d env with
  |none=>.bad
  |some a=>(t a s).bind λb f=>if b=I then(e a f).bind λx l=>(d8 g t e i a l).bind λr j=>.ok (x::r) j else d8 g t e i a f
def Lq{a:Nat}{fm:SV}{α:Type}{env:List (Option α)}{i:Nat}{d:α}(e:(List.replicate a Y++fm.map λi=>(env[i]?).getD Y)[i]?=J (J d)):∃j k,i=a+j/\fm[j]?=J k/\env[k]?=J (J d):=by
 by_cases z:i<a
 .rw[vj (by simpa using z)]at e;simp[z]at e
 .rw[AX (by simp;lia)]at e;simp only[JJ,wl]at e
  cases f:fm[i-a]? with
  |none=>rw[f]at e;cases e
  |some k =>
   rw[f]at e;simp only[JW]at e;refine⟨i-a,k,⋯,f,?_⟩
   cases l:env[k]? with
   |none=>rw[l]at e;cases e
   |some o=>rw[l]at e;simp at e;rw[e]
def Lr{a:Nat}{fm:SV}{α:Type}{Z:List (Option α)}{j k:Nat}{v:α}(e1:fm[j]?=J k)(e2:Z[k]?=J (J v)):(List.replicate a Y++fm.map λi=>(Z[i]?).getD Y)[a+j]?=J (J v):=by rw[AX (by simp)];simp[e1,e2]
def uH(e:fm[j]?=J k):nv+j∈Bo nv fm ws↔k∈ws:=by
 have a:=(r_.mp e).1;unfold Bo
 simp_all
def SR.comp{q:Nat}{h:MH}{L:Nat}{O:SV}{Z:k4}{env:ar}(a:Nat)(fm:SV)(r:SR q h L O ws Z env):SR q h L O (Bo a fm ws) (Bn a fm Z) (w_ a fm env):=by
 refine⟨by simp[Bn,w_],λi d e f=>?_,λi d e f=>?_⟩
 .obtain⟨j,k,rfl,e1,e2⟩:=Lq e;obtain⟨v,e3,w⟩:=r.fz k d e2 λz=>f ((uH e1).mpr z);exact⟨v,Lr e1 e3,w⟩
 .obtain⟨j,k,rfl,e1,e2⟩:=Lq e;obtain⟨n,xs,u,l,e3,w⟩:=r.ow k d e2 ((uH e1).mp f);exact⟨n,xs,u,l,Lr e1 e3,w⟩
def Hl(gt:Xg u)(t:Xt u)(e:Xe u)(hz:e.fz=I)(hq:q<h1.length)(gd:∀g∈it.gd,h1[g.1]?=J (.lst g.2)/\g.1≠q):
  ∀(S:SW)(xs:SM)(env:ar)(Z:k4)(h:MH)(j:SW)(f:SM)(s:f_)(r:SW)(X:f_),(∀i∈u,∀d,env[i]?=J (J d)->∀n,Z[i]?=J (J (.loc n))->n<h1.length)->KB q h1 h->Cx q h L B (h1.length::O) u Z env s->Rps q h (h1.length::O) S xs->h[h1.length]?=J (.lst f)->Rps q h (h1.length::O) j f->j.length+S.length<=100000 ->
  d8 gt.p t.p e.p S env s=.ok r X->∃F U,zi it h1.length gt.m t.m e.m xs Z h=.ok () F/\KB q h1 F/\aY F q X/\F[h1.length]?=J (.lst U)/\Rps q F (h1.length::O) (j++r) U:=by
 intro S
 induction S with
 |nil =>
  intro xs env Z h j f s r X on kb c rx ga ra hl a
  have:xs=[]:=rx
  subst this;cases a;have ok:it.ok h:=λg R=>(kb.keep _ (aF (gd g R).1) (gd g R).2).trans (gd g R).1;exact⟨h,f,by rw[zi,b_ ok],kb,c.pen,ga,by simpa using ra⟩
 |cons d S ih =>
  intro xs env Z h j f s r X on kb c rx ga ra hl a;obtain⟨x,xr,rfl,r1,r2⟩:=rx;have ok:it.ok h:=λg R=>(kb.keep _ (aF (gd g R).1) (gd g R).2).trans (gd g R).1;rw[d8]at a
  cases eg:gt.p d env with
  |none=>rw[eg]at a;cases a
  |some l =>
   rw[eg]at a;dsimp only at a;obtain⟨Z1,f1,an,k1⟩:=gt.ok c.sr r1 eg;have P:∀i∈u,∀d,l[i]?=J (J d)->∀n,Z1[i]?=J (J (.loc n))->n<h1.length:=λi M d e n z=>on i M d ((k1 i M).2▸e) n ((k1 i M).1▸z);have c1:Cx q h L B (h1.length::O) u Z1 l s:=⟨c.bd,c.sub,c.bb,c.pb,c.hL,c.pen,an⟩;have kt:=t.ok c1
   cases et:t.p l s with
   |bad=>rw[et]at a;cases a
   |exc _ _=>rw[et]at a;cases a
   |ok b s1 =>
    rw[et]at a kt;obtain⟨b',h2,f2,W,p2,eb⟩:=kt;subst eb;have c2:=c1.kb W p2;have E:Mv (h1.length::O) h (h1.length::O) h2:=W.mv c.pO;have hn:h1.length<h.length:=aF ga;have Q:h2[h1.length]?=J (.lst f):=(W.keep _ hn ⋯).trans ga;rw[Pb]at a
    cases b with
    |false =>
     rw[c_ (by simp)]at a;obtain⟨F,U,a1,a2⟩:=ih xr l Z1 h2 j f s1 r X P (kb.trans W) c2 (r2.mv E) Q (ra.mv E) (by simp at hl;lia) a;refine⟨F,U,?_,a2⟩;rw[zi,b_ ok,f1];simp only[f2,Out.ne_ok,Out.bind_ok,n_,if_false];exact a1
    |true =>
     rw[b_ rfl]at a;have ke:=e.ok c2
     cases ee:e.p l s1 with
     |bad=>rw[ee]at a;cases a
     |exc _ _=>rw[ee]at a;cases a
     |ok y s2 =>
      rw[ee]at a ke;obtain⟨v,G,f3,k3,p3,_,rv,_⟩:=ke;have rv:=rv hz;have H:=c2.kb k3 p3;have al:Mv (h1.length::O) h2 (h1.length::O) G:=k3.mv c.pO;have am:G[h1.length]?=J (.lst f):=(k3.keep _ (aF Q) ⋯).trans Q;have C:Mv (h1.length::O) G (h1.length::O) (G.set h1.length (.lst (f++[v]))) :=
       ⟨λn hn no=>o0 (λz=>no (by simp[z])),λo ho=>.inl ho⟩
      have ap:Rps q G (h1.length::O) (j++[y]) (f++[v]):=((ra.mv E).mv al).app ⟨v,[],rfl,rv,rfl⟩;rw[Pb]at a
      cases er:d8 gt.p t.p e.p S l s2 with
      |bad=>rw[er]at a;cases a
      |exc _ _=>rw[er]at a;cases a
      |ok r' s3 =>
       rw[er]at a;cases a;have ab:KB q h1 G:=(kb.trans W).trans k3;have c4:Cx q (G.set h1.length (.lst (f++[v]))) L B (h1.length::O) u Z1 l s2:=by
        refine⟨λo ho=>by simpa using H.bd o ho,H.sub,H.bb,H.pb,by simpa using H.hL,?_,?_⟩
        .unfold aY;rw[o0 ⋯];exact p3
        .refine⟨H.sr.len,λi d e M=>let⟨v,e1,q1⟩:=H.sr.fz i d e M;⟨v,e1,q1.mv C⟩,λi d e M=>?_⟩;obtain⟨n,ys,es,b1,b2,b3,b4,b5,b6⟩:=H.sr.ow i d e M;have z:=P i M d e n b2;exact⟨n,ys,es,b1,b2,b3,b4,by rw[o0 ⋯];exact b5,b6.mv C⟩
       obtain⟨F,U,a1,a2,a3,a4,a5⟩:=ih xr l Z1 (G.set h1.length (.lst (f++[v]))) (j++[y]) (f++[v]) s2 r' _ P ⟨by simpa using ab.len,λn hn hp=>by rw[o0 ⋯];exact ab.keep n hn hp⟩ c4 (((r2.mv E).mv al).mv C) (y9 (aF am)) (ap.mv C) (by simp at hl ⊢;lia) er;refine⟨F,U,?_,a2,a3,a4,by simpa using a5⟩;rw[zi,b_ ok,f1];simp only[f2,Out.ne_ok,Out.bind_ok,if_true,f3,am];rw[b_ (by have:=dG;have:=ra.length;simp at hl;lia)];exact a1
def aH(a:Nat)(fm:SV)(i:Xi ws){ws':SV}(g:Xg ws')(t:Xt ws')(e:Xe ws')(hw:Bo a fm ws=ws':=by exact ys rfl)(hz:e.fz=I:=by exact ys rfl):Xe ws where
 m:=d6 a fm i.m g.m t.m e.m
 p:=λenv s=>(i.p env s).bind λu y=>if u.length<=100000 then (match d8 g.p t.p e.p u (w_ a fm env) y with
  |.ok r F=>.ok (.lst r) F
  |_=>.bad)else .bad
 fz:=I
 fr:=I
 ok {q h L B O Z env s} c:=by
  subst hw;refine(i.ok c).bind λu it j y Q E ⟨rx,gd,_⟩=>?_;have C:=c.kb Q E;by_cases G:u.length<=100000
  .rw[b_ G]
   cases er:d8 g.p t.p e.p u (w_ a fm env) y with
   |bad=>trivial
   |exc _ _=>trivial
   |ok r F =>
    have mv:Mv O j (j.length::O) (j++[MO.lst []]):=⟨λn H _=>vj H,λo l=>by
     rcases j_.mp l with z|z
     .exact .inr ⋯
     .exact .inl z⟩
    have sr:=(C.sr.comp a fm).mv mv (λo l=>nt _ l) λn H _ _=>vj H;have X:Cx q (j++[MO.lst []]) L B (j.length::O) (Bo a fm ws) (Bn a fm Z) (w_ a fm env) y:=by
     refine⟨λo l=>?_,λo l=>nt _ (c.sub o l),c.bb,c.pb,by have:=C.hL;simp;lia,E.app,sr⟩;rcases j_.mp l with z|z
     .subst z;simp
     .have:=C.bd o z;simp;lia
    have hq:q<j.length:=aF E
    obtain⟨P,zs,a1,a2,a3,U,a5⟩:=Hl g t e hz (L:=L) (B:=B) (O:=O) hq gd u it.xs (w_ a fm env) (Bn a fm Z) (j++[MO.lst []]) [] [] y r F (λi hi d S n M=>by
     obtain⟨n',_,_,_,W,_,_,b5,_⟩:=(C.sr.comp a fm).ow i d S hi;rw[W]at M;cases M
     exact aF b5) (KB.app _ _ _) X (rx.mv mv) (by simp) rfl (by simpa using G) er
    have f:Frs q h.length O P (.lst r) (.loc j.length):=λu e=>by
     cases e;exact⟨_,zs,rfl,Q.len,U,by simpa using a5⟩
    have R:=f.rp c.bd rfl;exact⟨.loc j.length,P,by show(zi _ _ _ _ _ _ _ _).bind _=_;rw[a1];rfl,a2,a3,.inl R,λ_=>R,λ_=>f⟩
  .rw[c_ G];trivial
end
inductive PS where
 |nx(e:ar)(s:f_)
 |rt(d:D)(s:f_)
 |bk(e:ar)(s:f_)
 |ct(e:ar)(s:f_)
 |exc(c:Str)(e:ar)(s:f_)
 |rse(c:Str)(e:ar)(s:f_)
 |bad
structure Stp(q L:Nat)(h:MH)(O:SV)(h':MH)(O':SV):Prop where
 len:h.length<=h'.length
 mv:Mv O h O' h'
 sub:∀o∈O,o∈O'
 base:∀n:Nat,n<L->n≠q->h'[n]?=h[n]?
def Stp.refl(q L:Nat)(h:MH)(O:SV):Stp q L h O h O:=⟨iv _,⟨λ_ _ _=>rfl,λ_ h=>.inl h⟩,λ_ h=>h,λ_ _ _=>rfl⟩
def Stp.trans(a:Stp q L h O h1 O1)(b:Stp q L h1 O1 h2 O2):Stp q L h O h2 O2:=by
 refine⟨mh a.len b.len,⟨λn f l=>?_,λo i=>?_⟩,λo i=>b.sub o (a.sub o i),λn f j=>(b.base n f j).trans (a.base n f j)⟩
 .have u:n∉O1:=λz=>by
   rcases a.mv.new n z with q|q
   .exact l q
   .lia
  exact(b.mv.keep n (q0 f a.len) u).trans (a.mv.keep n f l)
 .rcases b.mv.new o i with z|z
  .exact a.mv.new o z
  .exact .inr (mh a.len z)
def Dis(a:SV)(Z:k4)(env:ar):Prop:=∀i j,i∈a->j∈a->i≠j->∀d f n,env[i]?=J (J d)->env[j]?=J (J f)->Z[i]?=J (J (.loc n))->Z[j]?≠J (J (.loc n))
inductive Nxt(q L:Nat)(h:MH)(B O ws:SV)(Z':k4)(h':MH)(env:ar)(s:f_):Prop
 |mk(O':SV)(a:Stp q L h O h' O')(c:Cx q h' L B O' ws Z' env s)(d:Dis ws Z' env):Nxt q L h B O ws Z' h' env s
inductive JA(q L:Nat)(h:MH)(B O ws:SV)(f:k4->MH->SOut)(o:SOut)(env:ar)(s:f_):Prop
 |mk(Z':k4)(h':MH)(e:o=f Z' h')(n:Nxt q L h B O ws Z' h' env s):JA q L h B O ws f o env s
inductive RN(q L:Nat)(h:MH)(B:SV)(fr:Bool)(o:SOut)(d:D)(s:f_):Prop
 |mk(v:PV)(h':MH)(e:o=.rt v h')(l:h.length<=h'.length)(b:∀n:Nat,n<L->n≠q->h'[n]?=h[n]?)(p:aY h' q s)(r:Rp q h' B d v)(f:fr=I->Frs q L B h' d v):RN q L h B fr o d s
def SOk(q L:Nat)(h:MH)(B O a:SV)(fr:Bool)(o:SOut)(r:PS):Prop:=match r with
 |.nx env s=>JA q L h B O a .nx o env s
 |.bk env s=>JA q L h B O a .bk o env s
 |.ct env s=>JA q L h B O a .ct o env s
 |.exc c env s=>JA q L h B O a (.exc ⟨c,[]⟩) o env s
 |.rse c env s=>JA q L h B O a (.rse ⟨c,[]⟩) o env s
 |.rt d s=>RN q L h B fr o d s
 |.bad=>True
structure Xd(ws:SV) where
 m:l_
 p:ar->f_->PS
 fr:Bool
 ok:∀{q h L B O Z env s},Cx q h L B O ws Z env s->Dis ws Z env->SOk q L h B O ws fr (m Z h) (p env s)
def Nxt.after(a:Stp q L h O h1 O1)(n:Nxt q L h1 B O1 ws Z' h' env s):Nxt q L h B O ws Z' h' env s :=
 let⟨f,b,c,d⟩:=n;⟨f,a.trans b,c,d⟩
def SOk.after(a:Stp q L h O h1 O1)(k:SOk q L h1 B O1 ws fr o r):SOk q L h B O ws fr o r:=by
 cases r with
 |nx env s=>obtain⟨i,f,e,n⟩:=k;exact⟨i,f,e,n.after a⟩
 |bk env s=>obtain⟨i,f,e,n⟩:=k;exact⟨i,f,e,n.after a⟩
 |ct env s=>obtain⟨i,f,e,n⟩:=k;exact⟨i,f,e,n.after a⟩
 |exc c env s=>obtain⟨i,f,e,n⟩:=k;exact⟨i,f,e,n.after a⟩
 |rse c env s=>obtain⟨i,f,e,n⟩:=k;exact⟨i,f,e,n.after a⟩
 |rt d s=>obtain⟨v,f,e,l,b,y,z,r3⟩:=k;exact⟨v,f,e,mh a.len l,λn j u=>(b n j u).trans (a.base n j u),y,z,r3⟩
 |bad=>trivial
def SOk.fr(hf:f'=I->f=I)(k:SOk q L h B O ws f o r):SOk q L h B O ws f' o r:=by
 cases r with
 |rt d s=>obtain⟨v,a,e,l,b,p,r,z⟩:=k;exact⟨v,a,e,l,b,p,r,λy=>z (hf y)⟩
 |nx env s=>exact k
 |bk env s=>exact k
 |ct env s=>exact k
 |exc c env s=>exact k
 |rse c env s=>exact k
 |bad=>trivial
def KB.stp(c:Cx q h L B O ws Z env s)(k:KB q h h'):Stp q L h O h' O :=
 ⟨k.len,k.mv c.pO,λ_ h=>h,λn a f=>k.keep n (q0 a c.hL) f⟩
def PR.go{α:Type}(r:PR α)(env:ar)(k:α->ar->f_->PS):PS:=match r with
 |.ok a s=>k a env s
 |.exc c s=>.exc c env s
 |.bad=>.bad
@[simp]theorem Pg(a:α)(s:f_)(env:ar)(k:α->ar->f_->PS):(PR.ok a s).go env k=k a env s:=rfl
@[simp]theorem PR.go_exc(c:Str)(s:f_)(env:ar)(k:α->ar->f_->PS):(PR.exc c s:PR α).go env k=.exc c env s:=rfl
@[simp]theorem PR.go_bad(env:ar)(k:α->ar->f_->PS):(PR.bad:PR α).go env k=.bad:=rfl
theorem SOk.ex{α β:Type}{q L:Nat}{h:MH}{B O l:SV}{fr:Bool}{Z:k4}{env:ar}{s:f_}{o:Out β}{r:PR α}{R:MH->α->β->Prop}{f:β->l_}{g:α->ar->f_->PS}(c:Cx q h L B O l Z env s)(d:Dis l Z env)(k:Ok q h o r R)(n:∀a b i j,KB q h i->Cx q i L B O l Z env j->R i a b->SOk q L i B O l fr (f b Z i) (g a env j)):
  SOk q L h B O l fr (o.go Z f) (r.go env g):=by
 cases r with
 |ok a j =>
  obtain⟨b,i,rfl,kb,pn,u⟩:=k;exact(n a b i j kb (c.kb kb pn) u).after (kb.stp c)
 |exc x j =>
  obtain⟨i,rfl,kb,pn⟩:=k;exact⟨Z,i,rfl,O,kb.stp c,c.kb kb pn,d⟩
 |bad=>trivial
noncomputable section
variable{ws:SV}
def PS.then(r:PS)(k:ar->f_->PS):PS:=match r with
 |.nx env s=>k env s
 |r=>r
@[simp]theorem ag:(PS.nx env s).then k=k env s:=rfl
@[simp]theorem iW:(PS.rt d s).then k=.rt d s:=rfl
@[simp]theorem then_bk:(PS.bk env s).then k=.bk env s:=rfl
@[simp]theorem then_ct:(PS.ct env s).then k=.ct env s:=rfl
@[simp]theorem zr:(PS.exc c env s).then k=.exc c env s:=rfl
@[simp]theorem zP:(PS.rse c env s).then k=.rse c env s:=rfl
@[simp]theorem Ae:PS.bad.then k=.bad:=rfl
def aE(a b:Xd ws):Xd ws where
 m:=aL a.m b.m
 p:=λenv s=>(a.p env s).then b.p
 fr:=a.fr&&b.fr
 ok {q h L B O Z env s} c d:=by
  have k:=a.ok c d;show SOk q L h B O ws _ ((a.m Z h).then b.m) _
  cases e:a.p env s with
  |nx i u =>
   rw[e]at k;obtain⟨G,F,e1,H,st,z,E⟩:=k;rw[e1];exact((b.ok z E).fr (by simp)).after st
  |rt x u=>rw[e]at k;obtain⟨v,j,e1,y,C,r3,r4,r5⟩:=k;rw[e1];exact SOk.fr (f:=a.fr) (by simp;exact λh _=>h) (show SOk q L h B O ws a.fr (.rt v j) (.rt x u) from⟨v,j,rfl,y,C,r3,r4,r5⟩)
  |bk i u=>rw[e]at k;obtain⟨l,j,e1,r⟩:=k;rw[e1];exact⟨l,j,rfl,r⟩
  |ct i u=>rw[e]at k;obtain⟨l,j,e1,r⟩:=k;rw[e1];exact⟨l,j,rfl,r⟩
  |exc x i u=>rw[e]at k;obtain⟨l,j,e1,r⟩:=k;rw[e1];exact⟨l,j,rfl,r⟩
  |rse x i u=>rw[e]at k;obtain⟨l,j,e1,r⟩:=k;rw[e1];exact⟨l,j,rfl,r⟩
  |bad=>trivial
def ia:Xd ws where
 m:=lg
 p:=.nx
 fr:=I
 ok {q h L B O Z env s} c d:=⟨Z,h,rfl,O,Stp.refl _ _ _ _,c,d⟩
def Hm{m:Mx PV}{Z:k4}{h:MH}:bO m Z h=(m Z h).go Z λv _ a=>.rt v a:=by unfold bO;cases m Z h<;>rfl
def bR(e:Xe ws):Xd ws where
 m:=bO e.m
 p:=λenv s=>(e.p env s).go env λd _ s=>.rt d s
 fr:=e.fr
 ok {q h L B O Z env s} c d:=by
  rw[Hm];refine SOk.ex (f:=λv _ u=>.rt v u) (g:=λd _ s=>.rt d s) c d (e.ok c) λx v G M kb a ⟨w,z,f⟩=>?_;refine⟨v,G,rfl,iv _,λ_ _ _=>rfl,a.pen,w.base a.sub a.bb,λy=>?_⟩;intro F i;obtain⟨n,xs,C,H,l,j⟩:=f y F i
  have:=c.hL
  exact⟨n,xs,C,⋯,l,j.mv ⟨λ_ _ _=>rfl,λo E=>.inl (by
   rcases j_.mp E with z|z
   .subst z;simp
   .exact nt _ (c.sub o z))⟩⟩
def mE(i:Nat)(y:ws.contains i=I:=by exact ys rfl):Xd ws where
 m:=bO (af i)
 p:=λenv s=>match env[i]? with
  |some (J d)=>.rt d s
  |_=>.bad
 fr:=I
 ok {q h L B O Z env s} c d:=by
  show SOk q L h B O ws _ _ (match env[i]? with|some (J d)=>PS.rt d s|_=>.bad)
  cases e:env[i]? with
  |none=>trivial
  |some o =>
   cases o with
   |none=>trivial
   |some x =>
    obtain⟨n,xs,C,e1,e2,a,b,g,r⟩:=c.sr.ow i x e (by simpa using y);subst e1
    have j:Mv O h (n::B) h:=⟨λ_ _ _=>rfl,λo u=>.inl (by
     rcases j_.mp u with z|z
     .subst z;exact a
     .exact c.sub o z)⟩
    have f:Frs q L B h (.lst C) (.loc n):=λl e=>by cases e;exact⟨n,xs,rfl,b,g,r.mv j⟩
    refine⟨.loc n,h,by simp[bO,af,e2],iv _,λ_ _ _=>rfl,c.pen,f.rp c.bb rfl,λ_=>f⟩
def bZ(e:Xe ws):Xd ws where
 m:=cj e.m
 p:=λenv s=>(e.p env s).go env λ_=>.nx
 fr:=I
 ok {q h L B O Z env s} c d:=SOk.ex (f:=λ_=>lg) (g:=λ_=>.nx) c d (e.ok c) λx v i j kb a _=>⟨Z,i,rfl,O,Stp.refl _ _ _ _,a,d⟩
def pk(t:Xt ws)(a b:Xd ws):Xd ws where
 m:=AF t.m a.m b.m
 p:=λenv s=>(t.p env s).go env λx env s=>if x=I then a.p env s else b.p env s
 fr:=a.fr&&b.fr
 ok {q h L B O Z env s} c d:=SOk.ex (f:=λx=>if x=I then a.m else b.m) (g:=λx env s=>if x=I then a.p env s else b.p env s) c d (t.ok c) λx v l j kb i e=>by
  subst e
  cases x with
  |true=>exact(a.ok i d).fr (by simp;exact λh _=>h)
  |false=>exact(b.ok i d).fr (by simp)
def Dis.keep(d:Dis ws Z env)(k:∀i∈ws,Z'[i]?=Z[i]?/\env'[i]?=env[i]?):Dis ws Z' env':=λi j f l ne x y n a b e=>by
 rw[(k i f).1]at e;rw[(k i f).2]at a;rw[(k j l).2]at b;rw[(k j l).1];exact d i j f l ne x y n a b e
def bp(i:Nat)(e:Xe ws)(u:ws.contains i=T:=by exact ys rfl)(l:e.fz=I:=by exact ys rfl):Xd ws where
 m:=bf i e.m
 p:=λenv s=>(e.p env s).go env λd env s=>.nx (env.set i (J d)) s
 fr:=I
 ok {q h L B O Z env s} c d:=by refine SOk.ex (f:=λv Z h=>.nx (Z.set i (J v)) h) (g:=λd env s=>.nx (env.set i (J d)) s) c d (e.ok c) λx v y C kb j ⟨_,z,_⟩=>?_;obtain⟨a,b⟩:=j.sr.set (i:=i) (λz=>by simp[z]at u) (z l);exact⟨_,y,rfl,O,Stp.refl _ _ _ _,⟨j.bd,j.sub,j.bb,j.pb,j.hL,j.pen,a⟩,d.keep b⟩
def gH(i:Nat)(e:Xe ws)(hi:ws.contains i=I:=by exact ys rfl)(hz:e.fr=I:=by exact ys rfl):Xd ws where
 m:=bf i e.m
 p:=λenv s=>(e.p env s).go env λd env s=>match d with
  |.lst H=>.nx (env.set i (J (.lst H))) s
  |_=>.bad
 fr:=I
 ok {q h L B O Z env s} c d:=by
  show SOk q L h B O ws _ _ _;have k:=e.ok c;show SOk q L h B O ws _ ((e.m Z h).go Z λv Z h=>.nx (Z.set i (J v)) h) _
  cases W:e.p env s with
  |bad=>trivial
  |exc x s1 =>
   rw[W]at k;obtain⟨M,e1,kb,pn⟩:=k;rw[e1];exact⟨Z,M,rfl,O,kb.stp c,c.kb kb pn,d⟩
  |ok x s1 =>
   rw[W]at k;obtain⟨v,M,e1,kb,pn,_,_,f⟩:=k;rw[e1]
   cases x with
   |lst H =>
    obtain⟨n,xs,rfl,hn,g,r⟩:=f hz H rfl;have c1:=c.kb kb pn;have Q:i∈ws:=by simpa using hi
    have mv:Mv O h (n::O) M:=⟨λm G no=>kb.keep m G λz=>no (z▸c.pO),λo u=>by
     rcases j_.mp u with z|z
     .exact .inr ⋯
     .exact .inl z⟩
    have U:n∉O:=λz=>by have:=c.bd n z;lia
    refine⟨Z.set i (J (.loc n)),M,rfl,n::O,⟨kb.len,mv,λo u=>nt _ u,λm G hq=>kb.keep m (q0 G c.hL) hq⟩,⟨λo u=>?_,λo u=>nt _ (c.sub o u),c.bb,c.pb,c1.hL,pn,?_⟩,?_⟩
    .rcases j_.mp u with z|z
     .subst z;exact aF g
     .exact c1.bd o z
    .have sr:=c.sr.mv mv (λo u=>nt _ u) λm G C _=>kb.keep m G (by have:=c.pL;lia);refine⟨by simp[sr.len],λj x l E=>?_,λj x l E=>?_⟩
     .have ne:i≠j:=λz=>E (z▸Q);rw[o0 ne]at l;rw[o0 ne];exact sr.fz j x l E
     .by_cases z:i=j
      .subst z;have C:i<env.length:=by have:=(r_.mp l).1;simpa using this
       rw[y9 C]at l;cases l;exact⟨n,xs,H,rfl,y9 (by rw[sr.len];exact C),by simp,by have:=c.hL;lia,g,r⟩
      .rw[o0 z]at l;rw[o0 z];exact sr.ow j x l E
    .have old:∀j d,j∈ws->i≠j->(env.set i (J (.lst H)))[j]?=J (J d)->(Z.set i (J (.loc n)))[j]?≠J (J (.loc n)):=λj d E ne l z=>by
      rw[o0 ne]at l z;obtain⟨n',_,_,_,X,b3,_⟩:=c.sr.ow j d l E;rw[z]at X;cases X;exact U b3
     intro a b ha hb ne x y m S R F;by_cases P:i=a
     .subst P;have C:i<Z.length:=by have:=(r_.mp F).1;simpa using this
      rw[y9 C]at F;cases F;exact old b y hb ne R
     .by_cases z2:i=b
      .subst z2;intro z;have C:i<Z.length:=by have:=(r_.mp z).1;simpa using this
       rw[y9 C]at z;cases z;exact old a x ha P S F
      .rw[o0 P]at S F;rw[o0 z2]at R ⊢;exact d a b ha hb ne x y m S R F
   |_=>trivial
def Dy(e:Xe ws)(g:Xg ws)(y:e.fz=I:=by exact ys rfl):Xd ws where
 m:=lR e.m g.m
 p:=λenv s=>(e.p env s).go env λd env s=>match g.p d env with
  |some a=>.nx a s
  |none=>.bad
 fr:=I
 ok {q h L B O Z env s} c d:=by
  refine SOk.ex (f:=λv Z h=>match g.m v Z h with|.nx l j=>.nx l j|.exc x l j=>.exc x l j|_=>.bad) (g:=λd env s=>match g.p d env with|some a=>.nx a s|none=>.bad) c d (e.ok c) λx v F G kb i ⟨_,z,_⟩=>?_
  cases u:g.p x env with
  |none=>trivial
  |some a =>
   obtain⟨E,C,sr,k⟩:=g.ok i.sr (z y) u;rw[C];exact⟨E,F,rfl,O,Stp.refl _ _ _ _,⟨i.bd,i.sub,i.bb,i.pb,i.hL,i.pen,sr⟩,d.keep k⟩
def ik(x:Str)(a:Xs ws):Xd ws where
 m:=nM x a.m
 p:=λenv s=>(a.p env s).go env λi env s=>if i.length<=100000 then .rse x env s else .bad
 fr:=I
 ok {q h L B O Z env s} c d:=by
  refine SOk.ex (f:=λ(j:SM) Z h=>if j.length<=sizeLine then .rse ⟨x,[]⟩ Z h else .bad) (g:=λ(i:SW) env s=>if i.length<=100000 then .rse x env s else .bad) c d (a.ok c) λi j l E kb u ⟨w,_⟩=>?_;have C:∀{i:SW}{j:SM},EL q l L O i j->j.length=i.length:=by
   intro i
   induction i with
   |nil=>intro j w;rw[show j=[]from w];rfl
   |cons d i y=>intro j w;obtain⟨x,r,e,_,b⟩:=w;rw[e,AU,AU,y b]
  by_cases z:i.length<=100000
  .rw[b_ z,b_ (by have:=dG;rw[C w];lia)];exact⟨Z,l,rfl,O,Stp.refl _ _ _ _,u,d⟩
  .rw[c_ z];trivial
def oE(G:SQ)(u a:Nat)(b:Xd ws)(M:ws.contains u=T:=by exact ys rfl)(h2:ws.contains a=T:=by exact ys rfl):Xd ws where
 m:=CU G u a b.m
 p:=λenv s=>match b.p env s with
  |.exc c e s=>if c∈G then .nx (((e.set a (J (.exc c))).set u (J (.exc c))).set a Y) s else .bad
  |.rse _ _ _=>.bad
  |r=>r
 fr:=b.fr
 ok {q h L B O Z env s} c d:=by
  have k:=b.ok c d
  show SOk q L h B O ws _ (match b.m Z h with
   |.exc x Z1 M=>if x.fs=[]/\x.cls∈G then .nx (((Z1.set a (J (.loc M.length))).set u (J (.loc M.length))).set a Y) (M++[.exc x])else .bad
   |.rse _ _ _=>.bad
   |o=>o) (match b.p env s with
   |.exc c e s=>if c∈G then PS.nx (((e.set a (J (.exc c))).set u (J (.exc c))).set a Y) s else .bad
   |.rse _ _ _=>.bad
   |r=>r)
  cases e:b.p env s with
  |nx f H=>rw[e]at k;obtain⟨F,i,e1,r⟩:=k;rw[e1];exact⟨F,i,rfl,r⟩
  |rt x H=>rw[e]at k;obtain⟨v,i,e1,r1,r2,r3,r4,r5⟩:=k;rw[e1];exact⟨v,i,rfl,r1,r2,r3,r4,r5⟩
  |bk f H=>rw[e]at k;obtain⟨F,i,e1,r⟩:=k;rw[e1];exact⟨F,i,rfl,r⟩
  |ct f H=>rw[e]at k;obtain⟨F,i,e1,r⟩:=k;rw[e1];exact⟨F,i,rfl,r⟩
  |rse x f H=>trivial
  |bad=>trivial
  |exc x f H =>
   rw[e]at k;obtain⟨F,i,e1,Q,st,P,d'⟩:=k;rw[e1];dsimp only;by_cases z:x∈G
   .rw[b_ z,b_ ⟨rfl,z⟩];have kb:=KB.app q i [MO.exc ⟨x,[]⟩];have E:=P.kb kb P.pen.app;have r:Rp q (i++[MO.exc ⟨x,[]⟩]) Q (.exc x) (.loc i.length):=⟨_,rfl,λz=>by have:=P.bd _ z;lia,by simp⟩;have W:a∉ws:=λz=>by simp[z]at h2
    have n2:u∉ws:=λz=>by simp[z]at M
    obtain⟨a1,U⟩:=E.sr.set W r;obtain⟨R,S⟩:=a1.set n2 r;have ne:∀j∈ws,a≠j:=λj l z=>W (z▸l);have a3:SR q (i++[MO.exc ⟨x,[]⟩]) L Q ws (((F.set a (J (.loc i.length))).set u (J (.loc i.length))).set a Y) (((f.set a (J (.exc x))).set u (J (.exc x))).set a Y):=by
     refine⟨by simp[R.len],λj y C l=>?_,λj y C l=>?_⟩
     .by_cases z:a=j
      .subst z;have hl:a<((f.set a (J (D.exc x))).set u (J (D.exc x))).length:=by have:=(r_.mp C).1;simpa using this
       rw[y9 hl]at C;cases C
      .rw[o0 z]at C;rw[o0 z];exact R.fz j y C l
     .rw[o0 (ne j l)]at C;rw[o0 (ne j l)];exact R.ow j y C l
    refine⟨_,_,rfl,Q,st.trans (kb.stp P),⟨E.bd,E.sub,E.bb,E.pb,E.hL,E.pen,a3⟩,d'.keep λj l=>?_⟩;have X:a≠j:=ne j l;refine⟨?_,?_⟩
    .rw[o0 X,(S j l).1,(U j l).1]
    .rw[o0 X,(S j l).2,(U j l).2]
   .rw[c_ z];trivial
end
end PU
namespace PU
open MM
open L2 (xl)
noncomputable section
variable{ws:SV}
def PS.turn(r:PS)(k:ar->f_->PS):PS:=match r with
 |.nx e s=>k e s
 |.ct e s=>k e s
 |.bk e s=>.nx e s
 |r=>r
@[simp]theorem turn_nx:(PS.nx e s).turn k=k e s:=rfl
@[simp]theorem turn_ct:(PS.ct e s).turn k=k e s:=rfl
@[simp]theorem turn_bk:(PS.bk e s).turn k=.nx e s:=rfl
@[simp]theorem turn_rt:(PS.rt d s).turn k=.rt d s:=rfl
@[simp]theorem Ag:(PS.exc c e s).turn k=.exc c e s:=rfl
@[simp]theorem yL:(PS.rse c e s).turn k=.rse c e s:=rfl
@[simp]theorem Ls:PS.bad.turn k=.bad:=rfl
def Bg(g:D->ar->Option ar)(b:ar->f_->PS):SW->ar->f_->PS
 |[],env,s=>.nx env s
 |d::f,env,s=>match g d env with
  |none=>.bad
  |some a=>(b a s).turn (Bg g b f)
def Hn(g:Xg ws)(b:Xd ws):∀(G:SW)(xs:SM)(env:ar)(Z:k4)(h:MH)(O:SV)(s:f_),Cx q h L B O ws Z env s->Dis ws Z env->Rps q h O G xs->(∀y∈it.gd,h[y.1]?=J (.lst y.2)/\y.1∉O) ->
  SOk q L h B O ws b.fr (vO it g.m b.m xs Z h) (Bg g.p b.p G env s):=by
 intro G
 induction G with
 |nil =>
  intro xs env Z h O s c d r gd
  have:=r
  subst this;have ok:it.ok h:=λy u=>(gd y u).1;refine⟨Z,h,by rw[vO];dsimp only;rw[b_ ok],O,Stp.refl _ _ _ _,c,d⟩
 |cons x G R =>
  intro xs env Z h O s c d r gd;obtain⟨v,F,rfl,M,H⟩:=r;have ok:it.ok h:=λy u=>(gd y u).1;rw[Bg]
  cases W:g.p x env with
  |none=>trivial
  |some j =>
   obtain⟨S,X,sr,k⟩:=g.ok c.sr M W;have U:Cx q h L B O ws S j s:=⟨c.bd,c.sub,c.bb,c.pb,c.hL,c.pen,sr⟩;have kb:=b.ok U (d.keep k)
   have em:vO it g.m b.m (v::F) Z h=(match b.m S h with
    |.nx i f=>vO it g.m b.m F i f
    |.ct i f=>vO it g.m b.m F i f
    |.bk i f=>.nx i f
    |.rt v f=>.rt v f
    |.exc e i f=>.exc e i f
    |.rse e i f=>.rse e i f
    |.bad=>.bad):=by rw[vO];dsimp only;(rw[b_ ok,X])<;>rfl
   rw[em];have E:∀{f:MH}{C:SV},Stp q L h O f C->∀y∈it.gd,f[y.1]?=J (.lst y.2)/\y.1∉C:=λst y u=>by
    obtain⟨a,b⟩:=st.mv.get (gd y u).1 (gd y u).2;exact⟨b,a⟩
   dsimp only
   cases z:b.p j s with
   |bad=>trivial
   |nx e2 l =>
    rw[z]at kb;obtain⟨i,f,e1,C,st,P,Q⟩:=kb;rw[e1];exact(R F e2 i f C l P Q (H.mv st.mv) (E st)).after st
   |ct e2 l =>
    rw[z]at kb;obtain⟨i,f,e1,C,st,P,Q⟩:=kb;rw[e1];exact(R F e2 i f C l P Q (H.mv st.mv) (E st)).after st
   |bk e2 l=>rw[z]at kb;obtain⟨i,f,e1,r⟩:=kb;rw[e1];exact⟨i,f,rfl,r⟩
   |exc x e2 l=>rw[z]at kb;obtain⟨i,f,e1,r⟩:=kb;rw[e1];exact⟨i,f,rfl,r⟩
   |rse x e2 l=>rw[z]at kb;obtain⟨i,f,e1,r⟩:=kb;rw[e1];exact⟨i,f,rfl,r⟩
   |rt x l=>rw[z]at kb;obtain⟨v,f,e1,M,H,r3,r4,r5⟩:=kb;rw[e1];exact⟨v,f,rfl,M,H,r3,r4,r5⟩
def gu(i:Xi ws)(g:Xg ws)(b:Xd ws)(z:i.fz=I:=by exact ys rfl):Xd ws where
 m:=jl i.m g.m b.m
 p:=λenv s=>(i.p env s).go env λa env s=>Bg g.p b.p a env s
 fr:=b.fr
 ok {q h L B O Z env s} c d:=SOk.ex (f:=λj=>vO j g.m b.m j.xs) (g:=λa env s=>Bg g.p b.p a env s) c d (i.ok c) λa j E C kb u r =>
  Hn g b a j.xs env Z E O C u d r.1 λy l=>⟨(r.2.1 y l).1,r.2.2 z y l⟩
def dW(t:ar->f_->PR Bool)(b:ar->f_->PS):Nat->ar->f_->PS
 |0,_,_=>.bad
 |n+1,env,s=>(t env s).go env λx env s=>if x=I then(b env s).turn (dW t b n)else .nx env s
def oU(t:Xt ws)(b:Xd ws):∀(n:Nat)(env:ar)(Z:k4)(h:MH)(O:SV)(s:f_),Cx q h L B O ws Z env s->Dis ws Z env->SOk q L h B O ws b.fr (cm t.m b.m n Z h) (dW t.p b.p n env s)
 |0,env,Z,h,O,s,c,d=>trivial
 |n+1,env,Z,h,O,s,c,d=>by
  refine SOk.ex c d (t.ok c) λx v G F kb z e=>?_;subst e
  cases x with
  |false=>exact⟨Z,G,rfl,O,Stp.refl _ _ _ _,z,d⟩
  |true =>
   have k:=b.ok z d;rw[b_ rfl]
   cases j:b.p env F with
   |bad=>trivial
   |nx e2 i =>
    rw[j]at k;obtain⟨f,a,e1,y,st,l,u⟩:=k;rw[e1];exact(oU t b n e2 f a y i l u).after st
   |ct e2 i =>
    rw[j]at k;obtain⟨f,a,e1,y,st,l,u⟩:=k;rw[e1];exact(oU t b n e2 f a y i l u).after st
   |bk e2 i=>rw[j]at k;obtain⟨f,a,e1,r⟩:=k;rw[e1];exact⟨f,a,rfl,r⟩
   |exc x e2 i=>rw[j]at k;obtain⟨f,a,e1,r⟩:=k;rw[e1];exact⟨f,a,rfl,r⟩
   |rse x e2 i=>rw[j]at k;obtain⟨f,a,e1,r⟩:=k;rw[e1];exact⟨f,a,rfl,r⟩
   |rt x i=>rw[j]at k;obtain⟨v,a,e1,C,E,r3,r4,r5⟩:=k;rw[e1];exact⟨v,a,rfl,C,E,r3,r4,r5⟩
def JB(N:Nat)(t:Xt ws)(b:Xd ws)(f:∀{Z h n},cm t.m b.m n Z h≠.bad->Gh t.m b.m Z h=cm t.m b.m n Z h):Xd ws where
 m:=Gh t.m b.m
 p:=dW t.p b.p N
 fr:=b.fr
 ok {q h L B O Z env s} c d:=by
  have k:=oU t b N env Z h O s c d;by_cases z:cm t.m b.m N Z h=.bad
  .rw[z]at k
   cases e:dW t.p b.p N env s with
   |bad=>trivial
   |nx e2 a=>rw[e]at k;obtain⟨_,_,e1,_⟩:=k;cases e1
   |ct e2 a=>rw[e]at k;obtain⟨_,_,e1,_⟩:=k;cases e1
   |bk e2 a=>rw[e]at k;obtain⟨_,_,e1,_⟩:=k;cases e1
   |exc x e2 a=>rw[e]at k;obtain⟨_,_,e1,_⟩:=k;cases e1
   |rse x e2 a=>rw[e]at k;obtain⟨_,_,e1,_⟩:=k;cases e1
   |rt x a=>rw[e]at k;obtain⟨_,_,e1,_⟩:=k;cases e1
  .rw[f z];exact k
structure BG where
 m:Nat->SM->MH->S4
 p:SW->SW->Option (D×SW)
 ok:∀{q:Nat}{h:MH}{O:SV}{n:Nat}{xs:SM}{ds as:SW}{vs:SM}{d:D}{ds':SW},h[n]?=J (.lst xs)->Rps q h O ds xs->Rps q h O as vs->p ds as=J (d,ds')->∃v xs',m n vs h=.ok v (h.set n (.lst xs'))/\Rps q h O ds' xs'/\Rp q h O d v
def oj{q h L B O Z env s n xs' ds' i ds}(c:Cx q h L B O ws Z env s)(d:Dis ws Z env)(M:i∈ws)(e:env[i]?=J (J (D.lst ds)))(G:Z[i]?=J (J (.loc n)))(r:Rps q h O ds' xs'):
  Nxt q L h B O ws Z (h.set n (.lst xs')) (env.set i (J (.lst ds'))) s:=by
 obtain⟨n',xs,ab,e0,e2,a,b,g,r0⟩:=c.sr.ow i _ e M;rw[G]at e2;cases e2;have mv:Mv O h O (h.set n (.lst xs')):=⟨λm R W=>o0 (λ(z:n=m)=>W (z▸a)),λo H=>.inl H⟩;have hp:=c.pL;have U:=(r_.mp e).1;refine⟨O,⟨by simp,mv,λ_ h=>h,λm R _=>o0 ⋯⟩,⟨λo H=>by simpa using c.bd o H,c.sub,c.bb,c.pb,by simpa using c.hL,?_,⟨by simp[c.sr.len],λj x f l=>?_,λj x f l=>?_⟩⟩,?_⟩
 .unfold aY;rw[o0 ⋯];exact c.pen
 .have ne:i≠j:=λz=>l (z▸M);rw[o0 ne]at f;obtain⟨v,e1,w⟩:=c.sr.fz j x f l;exact⟨v,e1,w.mv mv⟩
 .by_cases z:i=j
  .subst z;rw[y9 U]at f;cases f;exact⟨n,xs',ds',rfl,G,a,b,y9 (aF g),r.mv mv⟩
  .rw[o0 z]at f;obtain⟨m,ys,F,e1,e3,b3,S,b5,b6⟩:=c.sr.ow j x f l
   have:n≠m:=λy=>d i j M l z _ _ n e f G (y▸e3)
   exact⟨m,ys,F,e1,e3,b3,S,by rw[o0 this];exact b5,b6.mv mv⟩
 .intro j k l X ne x y m f ek e1;have P:∀j x,(env.set i (J (D.lst ds')))[j]?=J (J x)->∃C,env[j]?=J (J C):=λj x f=>by
   by_cases z:i=j
   .subst z;exact⟨_,e⟩
   .rw[o0 z]at f;exact⟨x,f⟩
  obtain⟨C,u⟩:=P j x f;obtain⟨Q,E⟩:=P k y ek;exact d j k l X ne C Q m u E e1
def EO(o:BG)(i:Nat)(a:Xs ws)(Q:i∈ws)(E:a.fz=I){q h L B O Z env s}(c:Cx q h L B O ws Z env s)(d:Dis ws Z env)(M:a.p env s=.ok as s1)(F:env[i]?=J (J (.lst ds)))(R:o.p ds as=J (r,ds')):∃v j n f,KB q h j/\Cx q j L B O ws Z env s1/\Z[i]?=J (J (.loc n))/\x_ o.m (af i) a.m Z h=.ok v (j.set n (.lst f))/\Rps q j O ds' f/\Rp q j O r v:=by
 obtain⟨n,xs,G,H,e2,X,U,g,C⟩:=c.sr.ow i _ F Q;cases H;have l:=a.ok c;rw[M]at l;obtain⟨W,j,e3,kb,pn,_,S⟩:=l;have y:=c.kb kb pn;have z:=(kb.keep n (aF g) (by have:=c.pL;lia)).trans g;obtain⟨v,f,e4,u,P⟩:=o.ok z (C.mv (kb.mv c.pO)) (S E) R;refine⟨v,j,n,f,kb,y,e2,?_,u,P⟩;have em:af i Z h=.ok (.loc n) h:=by simp[af,e2]
 simp_all
def A6(o:BG)(i:Nat)(a:ar->f_->PR (SW))(env:ar)(s:f_)(k:D->ar->f_->PS):PS:=match a env s with
 |.ok j l=>(match env[i]? with
  |some (J (.lst u))=>(match o.p u j with
   |some (r,f)=>k r (env.set i (J (.lst f))) l
   |none=>.bad)
  |_=>.bad)
 |_=>.bad
def sk(e1:a env s=.ok as s1)(e2:env[i]?=J (J (.lst ds)))(e3:o.p ds as=J (r,ds')):A6 o i a env s k=k r (env.set i (J (.lst ds'))) s1:=by simp only[A6,e1,e2,e3]
def tP:A6 o i a env s k=.bad\/∃f u l r j,a env s=.ok f u/\env[i]?=J (J (.lst l))/\o.p l f=J (r,j)/\A6 o i a env s k=k r (env.set i (J (.lst j))) u:=by
 cases e1:a env s with
 |bad=>left;simp only[A6,e1]
 |exc _ _=>left;simp only[A6,e1]
 |ok f u =>
  cases e2:env[i]? with
  |none=>left;simp only[A6,e1,e2]
  |some x =>
   cases x with
   |none=>left;simp only[A6,e1,e2]
   |some d =>
    cases d with
    |lst l =>
     cases e3:o.p l f with
     |none=>left;simp only[A6,e1,e2,e3]
     |some y=>exact .inr ⟨f,u,l,y.1,y.2,rfl,rfl,e3,sk e1 e2 e3⟩
    |_=>left;simp only[A6,e1,e2]
def vp(o:BG)(i:Nat)(a:Xs ws)(F:ws.contains i=I:=by exact ys rfl)(y:a.fz=I:=by exact ys rfl):Xd ws where
 m:=cj (x_ o.m (af i) a.m)
 p:=λenv s=>A6 o i a.p env s λ_=>.nx
 fr:=I
 ok {q h L B O Z env s} c d:=by
  rcases tP (o:=o) (i:=i) (a:=a.p) (env:=env) (s:=s) (k:=λ_=>.nx)with z|⟨H,P,Q,r,E,e1,e2,e3,z⟩
  .rw[z];trivial
  .rw[z];have f:i∈ws:=by simpa using F
   obtain⟨v,G,n,j,kb,u,C,em,l,M⟩:=EO o i a f y c d e1 e2 e3;refine⟨Z,G.set n (.lst j),?_,(oj u d f e2 C l).after (kb.stp c)⟩;unfold cj zO;rw[em];rfl
def qV(j:Nat)(o:BG)(i:Nat)(a:Xs ws)(S:ws.contains i=I:=by exact ys rfl)(M:ws.contains j=T:=by exact ys rfl)(P:a.fz=I:=by exact ys rfl):Xd ws where
 m:=bf j (x_ o.m (af i) a.m)
 p:=λenv s=>A6 o i a.p env s λr env s=>.nx (env.set j (J r)) s
 fr:=I
 ok {q h L B O Z env s} c d:=by
  rcases tP (o:=o) (i:=i) (a:=a.p) (env:=env) (s:=s) (k:=λr env s=>.nx (env.set j (J r)) s)with z|⟨X,s1,ds,r,R,e1,e2,e3,z⟩
  .rw[z];trivial
  .rw[z];have l:i∈ws:=by simpa using S
   obtain⟨v,U,n,y,kb,G,H,em,F,Q⟩:=EO o i a l P c d e1 e2 e3;obtain⟨O',st,W,d2⟩:=(oj G d l e2 H F).after (kb.stp c);obtain⟨E,u,f,C⟩:=oj G d l e2 H F;obtain⟨A,b⟩:=f.sr.set (i:=j) (λz=>by simp[z]at M) (Q.mv u.mv);refine⟨Z.set j (J v),U.set n (.lst y),?_,E,(kb.stp c).trans u,⟨f.bd,f.sub,f.bb,f.pb,f.hL,f.pen,A⟩,C.keep b⟩;unfold bf zO;rw[em]
def Vw.int(w:Vw q h L O (.int b) v):v=.int b:=by
 rcases w with r|⟨n,xs,a,e,_⟩
 .exact r
 .cases e
def PS.fin(r:PS):PR D:=match r with
 |.nx _ s=>.ok .non s
 |.rt d s=>.ok d s
 |.exc c _ s=>.exc c s
 |.rse c _ s=>.exc c s
 |_=>.bad
@[simp]theorem fin_nx:(PS.nx e s).fin=.ok .non s:=rfl
@[simp]theorem cR:(PS.rt d s).fin=.ok d s:=rfl
@[simp]theorem fin_exc:(PS.exc c e s).fin=.exc c s:=rfl
@[simp]theorem fin_rse:(PS.rse c e s).fin=.exc c s:=rfl
@[simp]theorem NO:PS.bad.fin=.bad:=rfl
def mm(n:Nat)(a:SW):ar:=a.map J++List.replicate (n-a.length) Y
def cD(n B:Nat)(b:Xd ws)(P:ws.all (λi=>decide (B<=i))=I:=by exact ys rfl):Fn where
 m:=eD n B b.m
 p:=λu s=>if u.length=B then(b.p (mm n u) s).fin else .bad
 fr:=b.fr
 ok {q h O vs u s} bd L pn r:=by
  by_cases H:u.length=B
  .rw[b_ H];have hv:vs.length=B:=by rw[r.length];exact H
   have low:∀i d,(mm n u)[i]?=J (J d)->i<B/\u[i]?=J d:=λi d e=>by
    by_cases z:i<u.length
    .refine⟨⋯,?_⟩;unfold mm at e;rw[vj (by simpa using z)]at e;simp at e;simpa using e
    .unfold mm at e;rw[AX (by simpa using z)]at e;by_cases y:i-(u.map J).length<n-u.length
     .simp[BP,y]at e
     .simp at y e;exact absurd e (by simp[BP])
   have M:∀i d,(mm n u)[i]?=J (J d)->i∉ws:=λi d e F=>by
    have:=(low i d e).1
    rw[Jh]at P
    have:=P i F
    simp at this;lia
   have c:Cx q h h.length O O ws (ci n vs) (mm n u) s:=by refine⟨bd,λ_ h=>h,bd,L,iv _,pn,⟨by simp[ci,mm,r.length],λi d e _=>?_,λi d e F=>absurd F (M i d e)⟩⟩;obtain⟨v,R,W⟩:=r.get (low i d e).2;refine⟨v,?_,W⟩;unfold ci;rw[vj (by simpa using(r_.mp R).1)];simp[R]
   have k:=b.ok c λi j F _ _ d _ _ e=>absurd F (M i d e)
   have em:eD n B b.m vs h=(match b.m (ci n vs) h with
    |.nx _ a=>.ok .non a
    |.rt v a=>.ok v a
    |.exc x _ a=>.exc x a
    |.rse x _ a=>.exc x a
    |_=>.bad):=by unfold eD;(rw[b_ hv])<;>(cases b.m (ci n vs) h<;>rfl)
   rw[em];have kb:∀{a G},Stp q h.length h O a G->KB q h a:=λst=>⟨st.len,λm S L=>st.base m S L⟩
   cases e:b.p (mm n u) s with
   |nx e1 E=>rw[e]at k;obtain⟨Q,a,f,G,st,C,_⟩:=k;rw[f];exact⟨.non,a,rfl,kb st,C.pen,rfl,λ_ u e=>by cases e⟩
   |exc x e1 E=>rw[e]at k;obtain⟨Q,a,f,G,st,C,_⟩:=k;rw[f];exact⟨a,rfl,kb st,C.pen⟩
   |rse x e1 E=>rw[e]at k;obtain⟨Q,a,f,G,st,C,_⟩:=k;rw[f];exact⟨a,rfl,kb st,C.pen⟩
   |rt x E=>rw[e]at k;obtain⟨v,a,f,l,b,p,X,U⟩:=k;rw[f];exact⟨v,a,rfl,⟨l,b⟩,p,X,U⟩
   |bk e1 E=>trivial
   |ct e1 E=>trivial
   |bad=>trivial
  .rw[c_ H];trivial
end
end PU
namespace PU
open MM SetT SortT
open L2 (xl n5 eS)
noncomputable section
section
variable{q:Nat}{h:MH}{L:Nat}{O:SV}{v:PV}
def Vw.non(w:Vw q h L O .non v):v=.non:=by
 rcases w with r|⟨n,xs,a,e,_⟩
 .exact r
 .cases e
def Vw.str(w:Vw q h L O (.str x) v):v=.str x:=by
 rcases w with r|⟨n,xs,a,e,_⟩
 .exact r
 .cases e
inductive RQ(h:MH)(P:SM->Prop)(v:PV):Prop
 |mk(n:Nat)(xs:SM)(e:v=.loc n)(g:h[n]?=J (.lst xs))(r:P xs):RQ h P v
def Vw.lst(w:Vw q h L O (.lst ds) v):RQ h (Rps q h O ds) v:=by
 rcases w with⟨n,xs,e,_,g,r⟩|⟨n,xs,a,e,e1,_,_,g,r⟩
 .exact⟨n,xs,e,g,r⟩
 .cases e;exact⟨n,xs,e1,g,r⟩
def Vw.tup(w:Vw q h L O (.tup ds) v):PQ (Rps q h O ds) v:=by
 rcases w with r|⟨n,xs,a,e,_⟩
 .exact r
 .cases e
def Ho(r:Rp q h O d v)(hf:fr=I->∀a,d≠.lst a):Gv q h O fr (.ok v h) d :=
 ⟨v,[],by simp,by simpa using r,λz a e=>absurd e (hf z a)⟩
def Bp:Gv q h O fr (.ok (.int i) h) (.int i):=Ho rfl λ_ _ e=>by cases e
def u_:Gv q h O fr (.ok (.bl i) h) (.bl i):=Ho rfl λ_ _ e=>by cases e
def dU(w:EL q h L O [d] vs):∃x,vs=[x]/\Vw q h L O d x:=by
 obtain⟨x,r,e,a,b⟩:=w
 have:r=[]:=b
 subst this;exact⟨x,e,a⟩
def Lu(w:EL q h L O [d,d'] vs):∃x y,vs=[x,y]/\Vw q h L O d x/\Vw q h L O d' y:=by obtain⟨x,r,e,a,b⟩:=w;obtain⟨y,rfl,c⟩:=dU b;exact⟨x,y,e,a,c⟩
end
def Dz(m:PV->PV->MH->S4)(f:Int->Int->D)(g:Int->Int->PV)(u:∀i j h,m (.int i) (.int j) h=.ok (g i j) h)(l:∀i j q h O fr,Gv q h O fr (.ok (g i j) h) (f i j)):yX where
 m:=m
 p:=λa b=>match a,b with
  |.int i,.int j=>J (f i j)
  |_,_=>Y
 fr:=I
 ok {q h L O a x b y d} bd wa wb e:=by
  cases a with
  |int i =>
   cases b with
   |int j=>cases e;rw[wa.int,wb.int,u];exact l i j q h O I
   |_=>cases e
  |_=>cases e
def dS:yX:=Dz BC (λi j=>.int (i-j)) (λi j=>.int (i-j)) (λ_ _ _=>rfl) λ_ _ _ _ _ _=>Bp
def Bq:yX:=Dz By (λi j=>.bl (decide (i<j))) (λi j=>.bl (decide (i<j))) (λ_ _ _=>rfl) λ_ _ _ _ _ _=>u_
def P0:yX:=Dz Gi (λi j=>.bl (decide (i<=j))) (λi j=>.bl (decide (i<=j))) (λ_ _ _=>rfl) λ_ _ _ _ _ _=>u_
def Hr:yX:=Dz Bz (λi j=>.bl (decide (j<i))) (λi j=>.bl (decide (j<i))) (λ_ _ _=>rfl) λ_ _ _ _ _ _=>u_
def aX:yX where
 m:=li
 p:=λa b=>match a,b with
  |.int i,.int j=>J (.int (i+j))
  |.lst x,.lst y=>if x.length+y.length<=100000 then J (.lst (x++y))else Y
  |.tup (a::x),.tup y=>if x.length+1+y.length<=100000 then J (.tup (a::x++y))else Y
  |_,_=>Y
 fr:=I
 ok {q h L O a x b y d} bd wa wb e:=by
  cases a with
  |int i =>
   cases b with
   |int j=>cases e;rw[wa.int,wb.int];exact Bp
   |_=>cases e
  |lst x =>
   cases b with
   |lst y =>
    dsimp only at e;by_cases z:x.length+y.length<=100000
    .rw[b_ z]at e;cases e;obtain⟨n,xs,rfl,g,r⟩:=wa.lst;obtain⟨l,ys,rfl,u,f⟩:=wb.lst;show Gv q h O I (match h[n]?,h[l]? with|some (.lst xs),J (.lst ys)=>sf (xs++ys) h|_,_=>.bad) _;rw[g,u];exact kz bd (r.app f) (by simpa using z)
    .rw[c_ z]at e;cases e
   |_=>cases e
  |tup x =>
   cases x with
   |nil=>cases b<;>cases e
   |cons a x =>
    cases b with
    |tup y =>
     dsimp only at e;by_cases z:x.length+1+y.length<=100000
     .rw[b_ z]at e;cases e;obtain⟨xs,rfl,r⟩:=wa.tup;obtain⟨ys,rfl,f⟩:=wb.tup;have ne:xs≠[]:=λz=>by have:=r.length;simp[z]at this
      show Gv q h O I (if xs≠[]then wn (xs++ys) h else .bad) _;rw[b_ ne];exact tT (r.app f) (by simp;lia)
     .rw[c_ z]at e;cases e
    |_=>cases e
  |_=>cases e
def Rps.rep(r:Rps q h O ds xs):∀n,Rps q h O (List.replicate n ds).flatten (List.replicate n xs).flatten
 |0=>rfl
 |n+1=>by
  exact r.app (Rps.rep r n)
def Hs:yX where
 m:=jj
 p:=λa b=>match a,b with
  |.int i,.int j=>if IntMulOk i j then J (.int (i*j))else Y
  |.lst x,.int j=>if(0<=j/\j<=1000)/\((List.replicate j.toNat x).flatten).length<=100000 then J (.lst (List.replicate j.toNat x).flatten)else Y
  |_,_=>Y
 fr:=I
 ok {q h L O a x b y d} bd wa wb e:=by
  cases a with
  |int i =>
   cases b with
   |int j =>
    dsimp only at e;by_cases z:IntMulOk i j
    .rw[b_ z]at e;cases e;rw[wa.int,wb.int];show Gv q h O I (if IntMulOk i j then .ok (.int (i*j)) h else .bad) _;rw[b_ z];exact Bp
    .rw[c_ z]at e;cases e
   |_=>cases e
  |lst x =>
   cases b with
   |int j =>
    dsimp only at e;by_cases z:(0<=j/\j<=1000)/\((List.replicate j.toNat x).flatten).length<=100000
    .rw[b_ z]at e;cases e;obtain⟨n,xs,rfl,g,r⟩:=wa.lst;rw[wb.int];show Gv q h O I (match h[n]? with|some (.lst xs)=>if -(2^63)<=j/\j<2^63 then sf (List.flatten (List.replicate j.toNat xs)) h else .bad|_=>.bad) _;rw[g];dsimp only;rw[b_ ⋯];exact kz bd (r.rep _) z.2
    .rw[c_ z]at e;cases e
   |_=>cases e
  |_=>cases e
def Ht:yX where
 m:=q7
 p:=λa b=>match a,b with
  |.int i,.int j=>if eS i j then J (.int (i^j.toNat))else Y
  |_,_=>Y
 fr:=I
 ok {q h L O a x b y d} bd wa wb e:=by
  cases a with
  |int i =>
   cases b with
   |int j =>
    dsimp only at e;by_cases z:eS i j
    .rw[b_ z]at e;cases e;rw[wa.int,wb.int];show Gv q h O I (if eS i j then .ok (.int (i^j.toNat)) h else .bad) _;rw[b_ z];exact Bp
    .rw[c_ z]at e;cases e
   |_=>cases e
  |_=>cases e
def o_:yX where
 m:=bB
 p:=λa b=>match a,b with
  |.lst x,.int j=>n5 x j
  |.tup x,.int j=>n5 x j
  |_,_=>Y
 fr:=T
 ok {q h L O a x b y d} bd wa wb e:=by
  have at':∀{f:SW}{xs:SM}{j:Int},Rps q h O f xs->n5 f j=J d->∃v,n5 xs j=J v/\Rp q h O d v:=λ{f xs j} r e=>by
   unfold n5 at e ⊢;rw[r.length]
   cases e1:xl f.length j with
   |none=>rw[e1]at e;cases e
   |some k=>rw[e1]at e;exact r.get e
  cases b with
  |int j =>
   rw[wb.int]
   cases a with
   |lst f =>
    obtain⟨n,xs,rfl,g,r⟩:=wa.lst;obtain⟨v,e1,i⟩:=at' r e;show Gv q h O T (match h[n]? with|some (.lst xs)=>(match n5 xs j with|some v=>.ok v h|none=>.bad)|_=>.bad) _;rw[g];dsimp only;rw[e1];exact Ho i λz=>by cases z
   |tup f =>
    obtain⟨xs,rfl,r⟩:=wa.tup;obtain⟨v,e1,i⟩:=at' r e;show Gv q h O T (match n5 xs j with|some v=>.ok v h|none=>.bad) _;rw[e1];exact Ho i λz=>by cases z
   |_=>cases e
  |_=>cases a<;>cases e
def JC(f:Bool):yX where
 m:=KH f
 p:=λa b=>match b with
  |.non=>(match a with
   |.non=>J (.bl (!f))
   |_=>J (.bl f))
  |.bl b=>(match a with
   |.bl c=>J (.bl (if f then !(c==b)else c==b))
   |.non=>J (.bl f)
   |.int _=>J (.bl f)
   |.str _=>J (.bl f)
   |.tup _=>J (.bl f)
   |_=>Y)
  |_=>Y
 fr:=I
 ok {q h L O a x b y d} bd wa wb e:=by
  have loc:∀{a:D}{x:PV},Vw q h L O a x->(∃i,a=.lst i)\/a=.dic\/(∃c,a=.exc c)\/a=.pen->∃n,x=.loc n:=λ{a x} w z=>by
   rcases w with r|⟨n,xs,i,e,e1,_⟩
   .rcases z with⟨i,rfl⟩|rfl|⟨c,rfl⟩|rfl
    .obtain⟨n,_,e,_⟩:=r;exact⟨n,e⟩
    .obtain⟨n,e,_⟩:=r;exact⟨n,e⟩
    .obtain⟨n,e,_⟩:=r;exact⟨n,e⟩
    .exact⟨q,r⟩
   .exact⟨n,e1⟩
  cases b with
  |non =>
   rw[wb.non]
   cases a with
   |non=>cases e;rw[wa.non];exact u_
   |bl c=>cases e;rw[wa.bl];exact u_
   |int c=>cases e;rw[wa.int];exact u_
   |str c=>cases e;rw[wa.str];exact u_
   |tup c=>cases e;obtain⟨xs,rfl,_⟩:=wa.tup;exact u_
   |lst c=>cases e;obtain⟨n,rfl⟩:=loc wa (.inl ⟨_,rfl⟩);exact u_
   |dic=>cases e;obtain⟨n,rfl⟩:=loc wa (.inr (.inl rfl));exact u_
   |exc c=>cases e;obtain⟨n,rfl⟩:=loc wa (.inr (.inr (.inl ⟨_,rfl⟩)));exact u_
   |pen=>cases e;obtain⟨n,rfl⟩:=loc wa (.inr (.inr (.inr rfl)));exact u_
  |bl b =>
   rw[wb.bl]
   cases a with
   |non=>cases e;rw[wa.non];exact u_
   |bl c=>cases e;rw[wa.bl];exact u_
   |int c=>cases e;rw[wa.int];exact u_
   |str c=>cases e;rw[wa.str];exact u_
   |tup c=>cases e;obtain⟨xs,rfl,_⟩:=wa.tup;exact u_
   |_=>cases e
  |_=>cases e
mutual
def py:D->Option PyData
 |.non=>J .none
 |.bl b=>J (.bool b)
 |.int i=>J (.int i)
 |.str x=>J (.str x)
 |.tup a=>(A7 a).map .tuple
 |.lst a=>(A7 a).map .list
 |_=>Y
def A7:SW->Option (List PyData)
 |[]=>J []
 |d::a=>match py d,A7 a with
  |some x,J xs=>J (x::xs)
  |_,_=>Y
end
mutual
def va:D->Nat
 |.tup a=>1+t_ a
 |.lst a=>1+t_ a
 |_=>0
def t_:SW->Nat
 |[]=>0
 |d::a=>max (va d) (t_ a)
end
def tH(d:D):(∀(v:PV)(e:PyData)(n:Nat),Rp q h O d v->py d=J e->va d<=n->rd n h v=J e):=by
 refine D.rec (motive_1:=λd=>∀(v:PV)(e:PyData)(n:Nat),Rp q h O d v->py d=J e->va d<=n->rd n h v=J e)
  (motive_2:=λf=>∀(l:SM)(i:List PyData)(n:Nat),Rps q h O f l->A7 f=J i->t_ f<=n->cC (rd n h) l=J i)
  (λv _ n r e _=>?_) (λb v _ n r e _=>?_) (λb v _ n r e _=>?_) (λb v _ n r e _=>?_) (λf u v e n r j hd=>?_) (λf u v e n r j hd=>?_) (λ_ _ _ _ e _=>?_) (λ_ _ _ _ _ e _=>?_) (λ_ _ _ _ e _=>?_)
  (λl i n r e _=>?_) (λd f B z l i n r e hd=>?_) d
 .rw[show v=PV.non from r];cases e;cases n<;>rfl
 .rw[show v=PV.bl b from r];cases e;cases n<;>rfl
 .rw[show v=PV.int b from r];cases e;cases n<;>rfl
 .rw[show v=PV.str b from r];cases e;cases n<;>rfl
 .obtain⟨xs,ex,r⟩:=r;subst ex;rw[py,y_]at j;obtain⟨i,e1,rfl⟩:=j;rw[va]at hd
  cases n with
  |zero=>lia
  |succ n=>simp only[rd];rw[u _ _ n r e1 ⋯];rfl
 .obtain⟨m,xs,ex,_,g,r⟩:=r;subst ex;rw[py,y_]at j;obtain⟨i,e1,rfl⟩:=j;rw[va]at hd
  cases n with
  |zero=>lia
  |succ n=>simp only[rd,g];rw[u _ _ n r e1 ⋯];rfl
 .simp[py]at e
 .simp[py]at e
 .simp[py]at e
 .rw[show l=[]from r];rw[A7]at e;cases e;rfl
 .obtain⟨x,t,ex,a,b⟩:=r;subst ex;rw[t_]at hd;rw[A7]at e
  cases e1:py d with
  |none=>rw[e1]at e;cases e
  |some y =>
   cases e2:A7 f with
   |none=>rw[e1,e2]at e;cases e
   |some ys =>
    rw[e1,e2]at e;cases e;have E:=B _ _ n a e1 ⋯;have C:=z _ _ n b e2 ⋯;simp only[cC,E,C]
def Lv(r:Rp q h O d v)(a:py d=J e)(hd:va d<=n):rd n h v=J e:=tH d v e n r a hd
def xT(r:Rps q h O ds vs)(a:A7 ds=J es)(hd:t_ ds<=n):cC (rd n h) vs=J es:=by
 have:=tH (.tup ds) (.tup vs) (.tuple es) (n+1) (⟨vs,rfl,r⟩) (by rw[py,a];rfl) (by rw[va];lia)
 simp only[rd]at this
 simp_all
def jm(w:Vw q h L O d v)(a:py d=J e)(hd:va d<=60):rd 60 h v=J e:=by
 rcases w with r|⟨n,xs,j,rfl,rfl,_,_,g,r⟩
 .exact Lv r a hd
 .rw[py,y_]at a;obtain⟨i,e1,rfl⟩:=a;rw[va]at hd;have f:=xT (n:=59) r e1 ⋯;show(match h[n]? with|some (.lst xs)=>(cC (rd 59 h) xs).map PyData.list|_=>Y)=_;rw[g];dsimp only;rw[f];rfl
def Az(f:Bool)(a b:D):S7:=match py a,py b with
 |some x,J y=>if(va a<=60/\va b<=60)/\SeqAt.shaped x=I/\SeqAt.shaped y=I then J (.bl (if f then !PyData.eqv x y else PyData.eqv x y))else Y
 |_,_=>Y
def oY(e:Az neg a b=J d):∃x y,py a=J x/\py b=J y/\(va a<=60/\va b<=60)/\(SeqAt.shaped x=I/\SeqAt.shaped y=I)/\d=.bl (if neg then !PyData.eqv x y else PyData.eqv x y):=by
 unfold Az at e
 cases e1:py a with
 |none=>rw[e1]at e;cases e
 |some x =>
  cases e2:py b with
  |none=>rw[e1,e2]at e;cases e
  |some y =>
   simp_all
def sh:yX where
 m:=AG
 p:=Az T
 fr:=I
 ok {q h L O a x b y d} bd wa wb e:=by obtain⟨u,w,e1,e2,hd,f,rfl⟩:=oY e;unfold AG;rw[jm wa e1 hd.1,jm wb e2 hd.2];dsimp only;rw[b_ f];exact u_
def v8:yX where
 m:=vw
 p:=Az I
 fr:=I
 ok {q h L O a x b y d} bd wa wb e:=by obtain⟨u,w,e1,e2,hd,f,rfl⟩:=oY e;unfold vw;rw[jm wa e1 hd.1,jm wb e2 hd.2];dsimp only;rw[b_ f];exact u_
def Vw.seqOf(w:Vw q h L O d v)(e:d.items=J ds):∃xs,MM.cH h v=J xs/\Rps q h O ds xs:=by
 cases d with
 |lst a=>cases e;obtain⟨n,xs,rfl,g,r⟩:=w.lst;exact⟨xs,by simp[MM.cH,g],r⟩
 |tup a=>cases e;obtain⟨xs,rfl,r⟩:=w.tup;exact⟨xs,rfl,r⟩
 |_=>cases e
def Hu(f:Bool)(a b:D):S7:=match b.items with
 |some i=>(match py a,A7 i with
  |some x,J ys=>if(va a<=60/\t_ i<=60)/\x.canLay0=I/\PyData.canLayAll0 ys=I then J (.bl (if f then !ys.any (λe=>PyData.eqv e x)else ys.any (λe=>PyData.eqv e x)))else Y
  |_,_=>Y)
 |none=>Y
def pa(f:Bool):yX where
 m:=C3 f
 p:=Hu f
 fr:=I
 ok {q h L O a x b y d} bd wa wb e:=by
  unfold Hu at e
  cases i:b.items with
  |none=>rw[i]at e;cases e
  |some j =>
   rw[i]at e;dsimp only at e
   cases e1:py a with
   |none=>rw[e1]at e;cases e
   |some u =>
    cases e2:A7 j with
    |none=>rw[e1,e2]at e;cases e
    |some B =>
     rw[e1,e2]at e;dsimp only at e;by_cases z:(va a<=60/\t_ j<=60)/\u.canLay0=I/\PyData.canLayAll0 B=I
     .rw[b_ z]at e;cases e;obtain⟨xs,l,r⟩:=wb.seqOf i;unfold C3;rw[l,jm wa e1 z.1.1];dsimp only;rw[xT r e2 z.1.2];dsimp only;rw[b_ z.2];exact u_
     .rw[c_ z]at e;cases e
end
noncomputable section
def ki:Lp where
 m:=BD
 p:=λa=>match a with
  |.int i=>J (.int (-i))
  |_=>Y
 fr:=I
 ok {q h L O a x d} bd w e:=by
  cases a with
  |int i=>cases e;rw[w.int];exact Bp
  |_=>cases e
def Bh:D->Option String
 |.non=>J "NoneType"
 |.bl _=>J "bool"
 |.int _=>J "int"
 |.str _=>J "str"
 |.tup _=>J "tuple"
 |.lst _=>J "list"
 |.dic=>J "dict"
 |_=>Y
def Lx(w:Vw q h L O d v)(e:Bh d=J t):Bb h v=J t:=by
 cases d with
 |non=>cases e;rw[w.non];rfl
 |bl b=>cases e;rw[w.bl];rfl
 |int b=>cases e;rw[w.int];rfl
 |str b=>cases e;rw[w.str];rfl
 |tup b=>cases e;obtain⟨xs,rfl,_⟩:=w.tup;rfl
 |lst b=>cases e;obtain⟨n,xs,rfl,g,_⟩:=w.lst;simp[Bb,g]
 |dic =>
  cases e;rcases w with⟨n,rfl,_,g⟩|⟨n,xs,a,e,_⟩
  .simp[Bb,g]
  .cases e
 |_=>cases e
def oD(f:List String):Lp where
 m:=oQ f
 p:=λa=>(Bh a).map λt=>.bl (f.any (cQ t))
 fr:=I
 ok {q h L O a x d} bd w e:=by rw[y_]at e;obtain⟨t,e1,rfl⟩:=e;unfold oQ;rw[Lx w e1];exact u_
def fH(i f:SQ):Lp where
 m:=b8 i f
 p:=λa=>match a with
  |.exc c=>if i.contains c=I then J (.bl (f.contains c))else Y
  |.pen=>Y
  |_=>J (.bl T)
 fr:=I
 ok {q h L O a x d} bd w e:=by
  cases a with
  |non=>cases e;rw[w.non];exact u_
  |bl b=>cases e;rw[w.bl];exact u_
  |int b=>cases e;rw[w.int];exact u_
  |str b=>cases e;rw[w.str];exact u_
  |tup b=>cases e;obtain⟨xs,rfl,_⟩:=w.tup;exact u_
  |lst b=>cases e;obtain⟨n,xs,rfl,g,_⟩:=w.lst;simp only[b8,g];exact u_
  |dic =>
   cases e;rcases w with⟨n,rfl,_,g⟩|⟨n,xs,j,e,_⟩
   .simp only[b8,g];exact u_
   .cases e
  |exc c =>
   dsimp only at e;by_cases z:i.contains c=I
   .rw[b_ z]at e;cases e;rcases w with⟨n,rfl,_,g⟩|⟨n,xs,j,e,_⟩
    .simp only[b8,g];rw[b_ z];exact u_
    .cases e
   .rw[c_ z]at e;cases e
  |pen=>cases e
def RT(f:SM->MH->S4)(g:Int->Int->Int)(hf:∀i j h,f [.int i,.int j] h=.ok (.int (g i j)) h):zn where
 k:=λxs h=>(f xs h).ne
 p:=λl=>match l with
  |[.int i,.int j]=>J (.int (g i j))
  |_=>Y
 fr:=I
 ok {q h L O l xs d} bd w e:=by
  match l,e with
  |[.int i,.int j],e =>
   cases e;obtain⟨x,y,rfl,a,b⟩:=Lu w;rw[a.int,b.int,hf];exact Bp
def sj:zn:=RT AI (λi j=>if j<i then j else i) λ_ _ _=>rfl
def sB:zn:=RT CD (λi j=>if j>i then j else i) λ_ _ _=>rfl
def DA:zn where
 k:=λxs h=>(CF xs h).ne
 p:=λf=>match f with
  |[.int i]=>J (.int i)
  |[.bl b]=>J (.int (if b then 1 else 0))
  |_=>Y
 fr:=I
 ok {q h L O f xs d} bd w e:=by
  match f,e with
  |[.int i],e=>cases e;obtain⟨x,rfl,a⟩:=dU w;rw[a.int];exact Bp
  |[.bl i],e=>cases e;obtain⟨x,rfl,a⟩:=dU w;rw[a.bl];exact Bp
def lQ:zn where
 k:=λxs h=>(u6 xs h).ne
 p:=λi=>match i with
  |[.lst f]=>J (.int f.length)
  |[.tup f]=>J (.int f.length)
  |[.str x]=>if x.length<=sizeLine then J (.int x.length)else Y
  |_=>Y
 fr:=I
 ok {q h L O i xs d} bd w e:=by
  match i,e with
  |[.lst f],e =>
   cases e;obtain⟨x,rfl,a⟩:=dU w;obtain⟨n,ys,rfl,g,r⟩:=a.lst;simp only[u6,g];rw[r.length];exact Bp
  |[.tup f],e =>
   cases e;obtain⟨x,rfl,a⟩:=dU w;obtain⟨ys,rfl,r⟩:=a.tup;simp only[u6];rw[r.length];exact Bp
  |[.str x],e =>
   dsimp only at e;by_cases z:x.length<=sizeLine
   .rw[b_ z]at e;cases e;obtain⟨x,rfl,a⟩:=dU w;rw[a.str];simp only[u6];rw[b_ z];exact Bp
   .rw[c_ z]at e;cases e
def ER:zn where
 k:=λxs h=>(AM xs h).ne
 p:=λi=>match i with
  |[d]=>d.items.bind λf=>if f.length<=100000 then J (.lst f)else Y
  |_=>Y
 fr:=I
 ok {q h L O i xs d} bd w e:=by
  match i,e with
  |[a],e =>
   obtain⟨x,rfl,j⟩:=dU w;rw[E4]at e;obtain⟨f,e1,e2⟩:=e;obtain⟨xs,e3,r⟩:=j.seqOf e1;by_cases z:f.length<=100000
   .rw[b_ z]at e2;cases e2;obtain⟨v,g,e4,r4,r5⟩:=kz bd r z;exact⟨v,g,by simp only[AM,e3];rw[e4];rfl,r4,r5⟩
   .rw[c_ z]at e2;cases e2
def iK:zn where
 k:=λxs h=>(zQ xs h).ne
 p:=λf=>match f with
  |[d]=>d.items.map .tup
  |_=>Y
 fr:=I
 ok {q h L O f xs d} bd w e:=by
  match f,e with
  |[a],e =>
   obtain⟨x,rfl,i⟩:=dU w;rw[y_]at e;obtain⟨j,e1,rfl⟩:=e;obtain⟨xs,e3,r⟩:=i.seqOf e1;simp only[zQ,e3];exact Ho ⟨xs,rfl,r⟩ λ_ _ e=>by cases e
def ln:SW->Option (List Bool)
 |[]=>J []
 |.bl b::r=>(ln r).map (b::·)
 |_=>Y
def xj:∀{f:SW}{xs:SM}{bs:List Bool},Rps q h O f xs->ln f=J bs->lv xs=J bs
 |[],_,_,r,e=>by rw[show _=[]from r];cases e;rfl
 |d::f,_,bs,⟨x,t,ex,a,b⟩,e=>by
  subst ex
  cases d with
  |bl c =>
   rw[show x=PV.bl c from a];rw[ln,y_]at e;obtain⟨i,e1,rfl⟩:=e;rw[lv,xj b e1];rfl
  |_=>cases e
def DB:zn where
 k:=λxs h=>(C6 xs h).ne
 p:=λf=>match f with
  |[d]=>(d.items.bind ln).map λbs=>.bl (bs.any id)
  |_=>Y
 fr:=I
 ok {q h L O f xs d} bd w e:=by
  match f,e with
  |[a],e =>
   obtain⟨x,rfl,i⟩:=dU w;rw[y_]at e;obtain⟨bs,e1,rfl⟩:=e;rw[E4]at e1;obtain⟨j,e1,e2⟩:=e1;obtain⟨xs,e3,r⟩:=i.seqOf e1;simp only[C6,e3,Ar,xj r e2];exact u_
def bV:SW->Option (SS)
 |[]=>J []
 |.int b::r=>(bV r).map (b::·)
 |_=>Y
def eA:∀{f:SW}{xs:SM}{bs:SS},Rps q h O f xs->bV f=J bs->xs=bs.map .int
 |[],_,_,r,e=>by rw[show _=[]from r];cases e;rfl
 |d::f,_,bs,⟨x,t,ex,a,b⟩,e=>by
  subst ex
  cases d with
  |int c =>
   rw[show x=PV.int c from a];rw[bV,y_]at e;obtain⟨i,e1,rfl⟩:=e;rw[eA b e1];rfl
  |_=>cases e
def o5:∀(bs:SS),io (bs.map .int)=J bs
 |[]=>rfl
 |b::bs=>by rw[mO,io,o5 bs];rfl
def iB:∀(bs:SS),eJ (bs.map .int)=J bs
 |[]=>rfl
 |b::bs=>by rw[mO,eJ,iB bs];rfl
def kD(k:SS):D:=.tup (k.map .int)
def ju:D->Option (SS)
 |.tup a=>bV a
 |_=>Y
def ff:SW->Option (SU)
 |[]=>J []
 |d::f=>match ju d,ff f with
  |some k,J a=>J (k::a)
  |_,_=>Y
def Hv(r:Rp q h O d v)(e:ju d=J k):v=kP k:=by
 cases d with
 |tup a=>obtain⟨xs,rfl,r⟩:=r;rw[eA r e];rfl
 |_=>cases e
def lU:∀{f:SW}{xs:SM}{i:SU},Rps q h O f xs->ff f=J i->xs=i.map kP
 |[],_,_,r,e=>by rw[show _=[]from r];cases e;rfl
 |d::f,_,i,⟨x,t,ex,a,b⟩,e=>by
  subst ex;rw[ff]at e
  cases e1:ju d with
  |none=>rw[e1]at e;cases e
  |some k =>
   cases e2:ff f with
   |none=>rw[e1,e2]at e;cases e
   |some j =>
    rw[e1,e2]at e;cases e;rw[Hv a e1,lU b e2];rfl
def Hw(k:SS):NN (kP k)=J k:=o5 k
def jS:∀(a:SU),g6 (a.map kP)=J a
 |[]=>rfl
 |k::a=>by rw[mO,g6,Hw,jS a]
def fx:∀(bs:SS),Rps q h O (bs.map .int) (bs.map .int)
 |[]=>rfl
 |b::bs=>⟨_,_,rfl,rfl,fx bs⟩
def lu:∀(a:SU),Rps q h O (a.map kD) (a.map kP)
 |[]=>rfl
 |b::bs=>⟨_,_,rfl,⟨_,rfl,fx b⟩,lu bs⟩
def Vw.lstOf(w:Vw q h L O (.lst ds) v):∃xs,MM.b7 h v=J xs/\Rps q h O ds xs:=by obtain⟨n,xs,rfl,g,r⟩:=w.lst;exact⟨xs,by simp[MM.b7,g],r⟩
def Ly(bd:Bd h O)(r:∀h O,Rps q h O ds xs):Gv q h O I (.ok (.loc h.length) (h++[.lst xs])) (.lst ds):=by
 have g:(h++[MO.lst xs])[h.length]?=J (.lst xs):=by simp
 exact⟨_,_,rfl,⟨_,_,rfl,λz=>by have:=bd _ z;ext,g,r _ _⟩,λ_ a e=>by cases e;exact⟨_,_,rfl,iv _,g,r _ _⟩⟩
def qq(f:SW):Option (SW):=match bV f with
 |some ns=>if ns.length<64 then J ((bF ns).map .int)else Y
 |none=>(match ff f with
  |some a=>if(∀k∈a,k≠[])/\a.length<=66 then J ((cT a).map kD)else Y
  |none=>Y)
def gO:zn where
 k:=λxs h=>(n7 xs h).ne
 p:=λi=>match i with
  |[.lst f]=>(qq f).map .lst
  |_=>Y
 fr:=I
 ok {q h L O i xs d} bd w e:=by
  match i,e with
  |[.lst f],e =>
   obtain⟨x,rfl,u⟩:=dU w;obtain⟨ys,l,r⟩:=u.lstOf;rw[y_]at e;obtain⟨B,e1,rfl⟩:=e;unfold qq at e1
   cases e2:bV f with
   |some ns =>
    rw[e2]at e1;dsimp only at e1;by_cases z:ns.length<64
    .rw[b_ z]at e1;cases e1
     have:n7 [x] h=.ok (.loc h.length) (h++[.lst ((bF ns).map .int)]):=by simp only[n7,l,eA r e2,iB];rw[b_ z]
     show Gv q h O I (n7 [x] h).ne _;rw[this];exact Ly bd λ_ _=>fx _
    .rw[c_ z]at e1;cases e1
   |none =>
    rw[e2]at e1;dsimp only at e1
    cases e3:ff f with
    |none=>rw[e3]at e1;cases e1
    |some a =>
     rw[e3]at e1;dsimp only at e1;by_cases z:(∀k∈a,k≠[])/\a.length<=66
     .rw[b_ z]at e1;cases e1;have j:=lU r e3
      cases a with
      |nil =>
       have:f=[]:=by have:=r.length;rw[j]at this;simpa using this.symm
       subst this;cases e2
      |cons k a =>
       have:n7 [x] h=.ok (.loc h.length) (h++[.lst ((cT (k::a)).map kP)]):=by have y:eJ ((k::a).map kP)=Y:=rfl;simp only[n7,l,j,y,jS];rw[b_ z]
       show Gv q h O I (n7 [x] h).ne _;rw[this];exact Ly bd λ_ _=>lu _
     .rw[c_ z]at e1;cases e1
def P1:zn where
 k:=λl i=>match l with
  |[x]=>(match (b7 i x).bind g6 with
   |some a=>if(∀k∈a,k≠[])/\(qb a).length<=66 then .ok (.loc i.length) (i++[.lst ((cT (qb a)).map kP)])else .bad
   |none=>.bad)
  |_=>.bad
 p:=λf=>match f with
  |[.lst j]=>(ff j).bind λa=>if(∀k∈a,k≠[])/\(qb a).length<=66 then J (.lst ((cT (qb a)).map kD))else Y
  |_=>Y
 fr:=I
 ok {q h L O f xs d} bd w e:=by
  match f,e with
  |[.lst j],e =>
   obtain⟨x,rfl,u⟩:=dU w;obtain⟨ys,y,r⟩:=u.lstOf;rw[E4]at e;obtain⟨a,e1,e2⟩:=e;by_cases z:(∀k∈a,k≠[])/\(qb a).length<=66
   .rw[b_ z]at e2;cases e2;simp only[y,Ar,lU r e1,jS];rw[b_ z];exact Ly bd λ_ _=>lu _
   .rw[c_ z]at e2;cases e2
def cP(lo:Int)(n:Nat):SW:=(List.range n).map λ(i:Nat)=>D.int (lo+(i:Int))
def u3:Rps q h O (cP lo n) (bM lo n):=by
 have:=fx (q:=q) (h:=h) (O:=O) ((List.range n).map λ(i:Nat)=>lo+(i:Int))
 rw[xg,xg]at this;exact this
def vv:PZ where
 k:=λu l=>match u with
  |[.int j]=>if -(2^62)<=j/\j<2^62 then .ok ⟨bM 0 j.toNat,[]⟩ l else .bad
  |_=>.bad
 p:=λa=>match a with
  |[.int j]=>if -100000<=j/\j<=100000 then J (cP 0 j.toNat)else Y
  |_=>Y
 ok {q h L O a xs d} hq hO bd w e:=by
  match a,e with
  |[.int j],e =>
   obtain⟨x,rfl,i⟩:=dU w;rw[i.int];dsimp only at e;by_cases z:-100000<=j/\j<=100000
   .rw[b_ z]at e;cases e;dsimp only;rw[b_ ⟨by ext,by ext⟩];exact⟨_,rfl,u3,(λ_ f=>nomatch f),λ_ _ f=>nomatch f⟩
   .rw[c_ z]at e;cases e
def i6(xs:SW)(lo a:S1):SW:=(xs.drop (HT.l0 xs.length 0 lo)).take (HT.l0 xs.length xs.length a-HT.l0 xs.length 0 lo)
def tK(lo a:S1)(r:Rps q h O ds xs):Rps q h O (i6 ds lo a) (ft xs lo a):=by unfold i6 ft;rw[r.length];exact(r.drop _).take _
structure Xo(ws:SV) where
 m:Mx (S1)
 p:ar->f_->PR (S1)
 ok:∀{q h L B O Z env s},Cx q h L B O ws Z env s->Ok q h (m Z h) (p env s) (λ_ a b=>a=b)
section
variable{ws:SV}
def DC:Xo ws where
 m:=Pw
 p:=λ_ s=>.ok Y s
 ok {q h L B O Z env s} c:=⟨Y,h,rfl,KB.refl _ _,c.pen,rfl⟩
def DD(e:Xe ws):Xo ws where
 m:=Px e.m
 p:=λenv s=>(e.p env s).bind λd s=>match d with
  |.int i=>.ok (J i) s
  |_=>.bad
 ok {q h L B O Z env s} c:=by
  refine(e.ok c).bind λx v f l j a ⟨w,_,_⟩=>?_
  cases x with
  |int i=>rw[w.int];exact⟨J i,f,rfl,KB.refl _ _,a,rfl⟩
  |_=>trivial
def JD(d:D)(lo f:S1):S7:=match d with
 |.lst a=>J (.lst (i6 a lo f))
 |.tup a=>if HT.l0 a.length 0 lo=0/\HT.l0 a.length a.length f=a.length then Y else J (.tup (i6 a lo f))
 |_=>Y
def Lz(bd:Bd h O)(w:Vw q h L O a x)(e:JD a lo hi=J d):Gv q h O I (GF x lo hi h) d:=by
 cases a with
 |lst f =>
  cases e;obtain⟨n,xs,rfl,g,r⟩:=w.lst;simp only[GF,g];have r:=tK lo hi r;have m:Mv O h O (h++[MO.lst (ft xs lo hi)]):=⟨λn j _=>vj j,λo i=>.inl i⟩
  have l:Mv O h (h.length::O) (h++[MO.lst (ft xs lo hi)]):=⟨λn j _=>vj j,λo i=>by
   rcases j_.mp i with z|z
   .exact .inr (by ext)
   .exact .inl z⟩
  have g:(h++[MO.lst (ft xs lo hi)])[h.length]?=J (.lst (ft xs lo hi)):=by simp
  exact⟨_,_,rfl,⟨_,_,rfl,λz=>by have:=bd _ z;ext,g,r.mv m⟩,λ_ u e=>by cases e;exact⟨_,_,rfl,iv _,g,r.mv l⟩⟩
 |tup f =>
  unfold JD at e;dsimp only at e;by_cases z:HT.l0 f.length 0 lo=0/\HT.l0 f.length f.length hi=f.length
  .rw[b_ z]at e;cases e
  .rw[c_ z]at e;cases e;obtain⟨xs,rfl,r⟩:=w.tup;simp only[GF];rw[r.length,c_ z];exact Ho ⟨_,rfl,tK lo hi r⟩ λ_ _ e=>by cases e
 |_=>cases e
def DE(a:Xe ws)(lo j:Xo ws):Xe ws where
 m:=Py a.m lo.m j.m
 p:=λenv s=>(a.p env s).bind λx s=>(lo.p env s).bind λl s=>(j.p env s).bind λu s=>.of (JD x l u) s
 fz:=I
 fr:=I
 ok {q h L B O Z env s} c:=by
  refine(a.ok c).bind λx v h1 X F G ⟨w,_,_⟩=>?_;have z:=c.kb F G;refine(lo.ok z).bind λl S U R f P e=>?_;subst e;have C:=z.kb f P;refine(j.ok C).bind λu W h3 Q i E e=>?_;subst e;have H:=C.kb i E
  cases e:JD x l u with
  |none=>trivial
  |some d =>
   obtain⟨y,g,e1,r,M⟩:=Lz H.bd ((w.kb f c.pO c.pL).kb i c.pO c.pL) e;exact Be (mh (mh F.len f.len) i.len) E ⟨y,g,by rw[e1];rfl,r,M⟩
end
def j3:BG where
 m:=bn
 p:=λf i=>match i with
  |[a]=>if f.length<100000 then J (.non,f++[a])else Y
  |_=>Y
 ok {q h O n xs f i vs d ds'} g r ra e:=by
  match i,e with
  |[a],e =>
   obtain⟨x,t,rfl,a,b⟩:=ra
   have:t=[]:=b
   subst this;dsimp only at e;by_cases z:f.length<100000
   .rw[b_ z]at e;cases e;refine⟨.non,xs++[x],?_,r.app ⟨x,[],rfl,a,rfl⟩,rfl⟩;simp only[bn,g];rw[b_ (by have:=dG;rw[r.length];ext)]
   .rw[c_ z]at e;cases e
def ky:BG where
 m:=iP
 p:=λj l=>match l with
  |[a]=>a.items.bind λi=>if j.length+i.length<=100000 then J (.non,j++i)else Y
  |_=>Y
 ok {q h O n xs j l vs d ds'} g r ra e:=by
  match l,e with
  |[a],e =>
   obtain⟨x,t,rfl,w,b⟩:=ra
   have:t=[]:=b
   subst this;rw[E4]at e;obtain⟨i,e1,e2⟩:=e;by_cases z:j.length+i.length<=100000
   .rw[b_ z]at e2;cases e2;have B:=dG
    cases a with
    |lst u =>
     cases e1;obtain⟨m,ys,rfl,_,y,f⟩:=w;refine⟨.non,xs++ys,?_,r.app f,rfl⟩;simp only[iP,g,y];rw[b_ (by rw[r.length,f.length];ext)]
    |tup u =>
     cases e1;obtain⟨ys,rfl,f⟩:=w;refine⟨.non,xs++ys,?_,r.app f,rfl⟩;simp only[iP,g];rw[b_ (by rw[r.length,f.length];ext)]
    |_=>cases e1
   .rw[c_ z]at e2;cases e2
def yx:BG where
 m:=kJ
 p:=λf j=>match j with
  |[.int i,a]=>if(0<=i/\i<=100000)/\f.length<100000 then J (.non,f.take (min i.toNat f.length)++a::f.drop (min i.toNat f.length))else Y
  |_=>Y
 ok {q h O n xs f j vs d ds'} g r ra e:=by
  match j,e with
  |[.int i,a],e =>
   obtain⟨x,t,rfl,u,y,l,rfl,w,b⟩:=ra
   have:l=[]:=b
   subst this;rw[show x=PV.int i from u];dsimp only at e;by_cases z:(0<=i/\i<=100000)/\f.length<100000
   .rw[b_ z]at e;cases e;refine⟨.non,jL xs i y,?_,?_,rfl⟩
    .simp only[kJ,g];rw[b_ ⟨by ext,by have:=dG;rw[r.length];ext⟩]
    .unfold jL;rw[c_ (by ext),r.length];exact(r.take _).app ⟨y,_,rfl,w,r.drop _⟩
   .rw[c_ z]at e;cases e
end
section
variable{ws:SV}{env:ar}{s:f_}
@[simp]theorem aj{d:D}{r:ar}:(aa 0:Xe ws).p (J d::r) s=.ok d s:=rfl
@[simp]theorem ak{i:Nat}{o:S7}{r:ar}:(aa (i+1):Xe ws).p (o::r) s=(aa i:Xe ws).p r s:=by simp[aa]
theorem tN(e:env[i]?=J (J d)):(aa i:Xe ws).p env s=.ok d s:=by show(match env[i]? with|some (J d)=>PR.ok d s|_=>.bad)=_;rw[e]
@[simp]theorem bv:(xC k:Xe ws).p env s=.ok k.d s:=rfl
@[simp]theorem nQ:Cn.non.d=.non:=rfl
@[simp]theorem ES:(Cn.bl b).d=.bl b:=rfl
@[simp]theorem aV:(Cn.int b).d=.int b:=rfl
@[simp]theorem hU:(Cn.str b).d=.str b:=rfl
@[simp]theorem aG:(ad o a b).p env s=(a.p env s).bind λx s1=>(b.p env s1).bind λy s2=>.of (o.p x y) s2:=rfl
@[simp]theorem i5:(y4 o a).p env s=(a.p env s).bind λx s1=>.of (o.p x) s1:=rfl
@[simp]theorem av:(a_:Xs ws).p env s=.ok [] s:=rfl
@[simp]theorem ai:(ac a r).p env s=(a.p env s).bind λx s1=>(r.p env s1).bind λy s2=>.ok (x::y) s2:=rfl
@[simp]theorem c5:(qp o a).p env s=(a.p env s).bind λx s1=>.of (o.p x) s1:=rfl
@[simp]theorem aZ:(aq f a h).p env s=(a.p env s).bind f.p:=rfl
@[simp]theorem bQ:(bu a h).p env s=(a.p env s).bind λx s1=>if x.length<=100000 then .ok (.lst x) s1 else .bad:=rfl
@[simp]theorem dH:(bg a h).p env s=(a.p env s).bind λx s1=>if x.length<=100000 then .ok (.tup x) s1 else .bad:=rfl
@[simp]theorem Hx:(Dx:Xe ws).p env s=.ok .dic s:=rfl
@[simp]theorem bX:(xB a).p env s=(a.p env s).bl:=rfl
@[simp]theorem qU:(lY a).p env s=(a.p env s).bind λb s=>.ok (!b) s:=rfl
@[simp]theorem fQ:(b9 a b).p env s=(a.p env s).bind λx s=>if x=I then b.p env s else .ok T s:=rfl
@[simp]theorem mV:(BX a b).p env s=(a.p env s).bind λx s=>if x=I then .ok I s else b.p env s:=rfl
@[simp]theorem NP:(ka:Xt ws).p env s=.ok I s:=rfl
@[simp]theorem NQ:(nN a b).p env s=(a.p env s).bl.bind λx s=>if x=I then(b.p env s).bl.bind λy s=>.ok (.bl y) s else .ok (.bl T) s:=rfl
@[simp]theorem NR:(qo a).p env s=(a.p env s).bl.bind λx s=>.ok (.bl (!x)) s:=rfl
@[simp]theorem LA:(mz f g a b e).p env s=(a.p env s).bind λx s1=>(b.p env s1).bind λy s2=>match f.p x y with
  |some (.bl t)=>if t=I then(e.p env s2).bind λz s3=>.of (g.p y z) s3 else .ok (.bl T) s2
  |_=>.bad:=rfl
@[simp]theorem eT:(bJ o a).p env s=(a.p env s).bind λx s1=>.of (o.p x) s1:=rfl
@[simp]theorem g8:(aT a).p env s=(a.p env s).bind λx s1=>.of x.items s1:=rfl
@[simp]theorem LD{i:Nat}{h:ws.contains i=T}{d:D}:(i_ i h).p d env=J (env.set i (J d)):=rfl
@[simp]theorem LF:(Ax:EN ws).p [] env=J env:=rfl
@[simp]theorem LG:(t0 a t).p (d::ds) env=(a.p d env).bind λenv1=>t.p ds env1:=rfl
@[simp]theorem LH:(Ay t n).p (.tup ds) env=if ds.length=n then t.p ds env else Y:=rfl
@[simp]theorem uy{nv:Nat}{fm:SV}{i:Xi ws}{ws':SV}{g:Xg ws'}{t:Xt ws'}{e:Xe ws'}{hw:Bo nv fm ws=ws'}{hz:e.fz=I}:(aH nv fm i g t e hw hz).p env s=(i.p env s).bind λds s1=>if ds.length<=100000 then (match d8 g.p t.p e.p ds (w_ nv fm env) s1 with
  |.ok r s2=>.ok (.lst r) s2
  |_=>.bad)else .bad:=rfl
@[simp]theorem u4:(DC:Xo ws).p env s=.ok Y s:=rfl
@[simp]theorem wv:(DD e).p env s=(e.p env s).bind λd s=>match d with
  |.int i=>.ok (J i) s
  |_=>.bad:=rfl
@[simp]theorem vb:(DE a lo hi).p env s=(a.p env s).bind λx s=>(lo.p env s).bind λl s=>(hi.p env s).bind λu s=>.of (JD x l u) s:=rfl
@[simp]theorem aA:(aE a b).p env s=(a.p env s).then b.p:=rfl
@[simp]theorem kO:(ia:Xd ws).p env s=.nx env s:=rfl
@[simp]theorem cU:(bR e).p env s=(e.p env s).go env λd _ s=>.rt d s:=rfl
theorem uj{i:Nat}{h:ws.contains i=I}{d:D}(e:env[i]?=J (J d)):(mE i h).p env s=.rt d s:=by show(match env[i]? with|some (J d)=>PS.rt d s|_=>.bad)=_;rw[e]
@[simp]theorem DF:(bZ e).p env s=(e.p env s).go env λ_=>.nx:=rfl
@[simp]theorem cM:(pk t a b).p env s=(t.p env s).go env λx env s=>if x=I then a.p env s else b.p env s:=rfl
@[simp]theorem bt:(bp i e hi hz).p env s=(e.p env s).go env λd env s=>.nx (env.set i (J d)) s:=rfl
@[simp]theorem gP:(gH i e hi hz).p env s=(e.p env s).go env λd env s=>match d with
  |.lst ds=>.nx (env.set i (J (.lst ds))) s
  |_=>.bad:=rfl
@[simp]theorem Hy:(Dy e g hz).p env s=(e.p env s).go env λd env s=>match g.p d env with
  |some env1=>.nx env1 s
  |none=>.bad:=rfl
@[simp]theorem LJ:(ik x a).p env s=(a.p env s).go env λds env s=>if ds.length<=100000 then .rse x env s else .bad:=rfl
@[simp]theorem fL:(gu i g b hz).p env s=(i.p env s).go env λds env s=>Bg g.p b.p ds env s:=rfl
@[simp]theorem LK:(vp o i a hi hz).p env s=A6 o i a.p env s λ_=>.nx:=rfl
theorem bN{hw}(a:ds.length=np):(cD n np b hw).p ds s=(b.p (mm n ds) s).fin:=by show(if ds.length=np then _ else _)=_;rw[b_ a]
variable{i j:Int}{b:Bool}{x y:SW}
@[simp]theorem fj:aX.p (.int i) (.int j)=J (.int (i+j)):=rfl
theorem cG(h:x.length+y.length<=100000):aX.p (.lst x) (.lst y)=J (.lst (x++y)):=by show(if x.length+y.length<=100000 then _ else _)=_;rw[b_ h]
@[simp]theorem oG:dS.p (.int i) (.int j)=J (.int (i-j)):=rfl
@[simp]theorem Hz:Bq.p (.int i) (.int j)=J (.bl (decide (i<j))):=rfl
@[simp]theorem P2:P0.p (.int i) (.int j)=J (.bl (decide (i<=j))):=rfl
@[simp]theorem P4:Hr.p (.int i) (.int j)=J (.bl (decide (j<i))):=rfl
@[simp]theorem fb:o_.p (.lst x) (.int j)=n5 x j:=rfl
@[simp]theorem qx:o_.p (.tup x) (.int j)=n5 x j:=rfl
@[simp]theorem HA:(oD Ts).p d=(Bh d).map λt=>.bl (Ts.any (cQ t)):=rfl
@[simp]theorem P5:Bh .non=J "NoneType":=rfl
@[simp]theorem RW:Bh (.bl b)=J "bool":=rfl
@[simp]theorem P6:Bh (.int i)=J "int":=rfl
@[simp]theorem P7:Bh (.str z)=J "str":=rfl
@[simp]theorem P8:Bh (.tup x)=J "tuple":=rfl
@[simp]theorem HD:Bh (.lst x)=J "list":=rfl
@[simp]theorem P9:Bh .dic=J "dict":=rfl
@[simp]theorem NS:sj.p [.int i,.int j]=J (.int (if j<i then j else i)):=rfl
@[simp]theorem NT:sB.p [.int i,.int j]=J (.int (if j>i then j else i)):=rfl
@[simp]theorem xh:DA.p [.bl b]=J (.int (if b then 1 else 0)):=rfl
@[simp]theorem P_:DA.p [.int i]=J (.int i):=rfl
@[simp]theorem xy:lQ.p [.lst x]=J (.int x.length):=rfl
@[simp]theorem Qa:lQ.p [.tup x]=J (.int x.length):=rfl
theorem DG(h:x.length<=100000):ER.p [.lst x]=J (.lst x):=by show(if x.length<=100000 then _ else _)=_;rw[b_ h]
@[simp]theorem sA:iK.p [.lst x]=J (.tup x):=rfl
@[simp]theorem LL:iK.p [.tup x]=J (.tup x):=rfl
theorem gI(h:-100000<=i/\i<=100000):vv.p [.int i]=J (cP 0 i.toNat):=by show(if _ then _ else _)=_;rw[b_ h]
@[simp]theorem vi:JD (.lst x) lo hi=J (.lst (i6 x lo hi)):=rfl
theorem fZ(h:x.length<100000):j3.p x [a]=J (.non,x++[a]):=by show(if _ then _ else _)=_;rw[b_ h]
def jR(h:x.length+y.length<=100000):ky.p x [.lst y]=J (.non,x++y):=by show(if _ then _ else _)=_;rw[b_ h]
def wQ{a:D}{i:Nat}(h:i<=x.length)(f:x.length<100000):yx.p x [.int i,a]=J (.non,x.take i++a::x.drop i):=by show(if _ then _ else _)=_;rw[b_ ⟨by ext,f⟩,Ap,Fg h]
end
section
variable{i j:Int}{b c:Bool}
def gh(f:x.canLay0=I)(a:x.depth<=64):SeqAt.shaped x=I:=by simp[SeqAt.shaped,f,a]
@[simp]theorem eU:Az neg (.int i) (.int j)=J (.bl (if neg then !decide (i=j)else decide (i=j))):=rfl
@[simp]theorem rM:Az neg (.bl b) (.bl c)=J (.bl (if neg then !(b==c)else b==c)):=rfl
@[simp]theorem fc:sh.p a d=Az T a d:=rfl
@[simp]theorem gD:v8.p a d=Az I a d:=rfl
@[simp]theorem fE:(pa neg).p a d=Hu neg a d:=rfl
theorem fA:∀(k:SS),A7 (k.map .int)=J (k.map .int)/\t_ (k.map .int)=0
 |[]=>⟨rfl,rfl⟩
 |i::k=>by
  obtain⟨a,b⟩:=fA k;simp[A7,py,a,t_,va,b]
def o9:∀(xs:SS),(xs.map PyData.int).any (λe=>PyData.eqv e (.int x))=decide (x∈xs)
 |[]=>by simp
 |y::ys=>by
  rw[mO,Jl,o9 ys]
  have:PyData.eqv (.int y) (.int x)=decide (x=y):=by simp[PyData.eqv,Bool.beq_eq_decide_eq,eq_comm]
  grind
def fK:∀(k f:SS),PyData.eqvAll (k.map .int) (f.map .int)=decide (k=f)
 |[],[]=>by simp[PyData.eqvAll]
 |[],_::_=>by simp[PyData.eqvAll]
 |_::_,[]=>by simp[PyData.eqvAll]
 |a::k,b::f=>by
  simp only[mO,PyData.eqvAll,PyData.eqv,fK k f];by_cases z:a=b<;>simp[z]
def df{neg:Bool}{x:Int}{d:D}{xs:SS}(e:d.items=J (xs.map .int)):Hu neg (.int x) d=J (.bl (if neg then !decide (x∈xs)else decide (x∈xs))):=by obtain⟨a,b⟩:=fA xs;simp only[Hu,e,py,a];rw[b_ ⟨⟨by simp[va],⋯⟩,rfl,(fv xs).1⟩,o9]
def lO{f:Bool}{xs ys:SS}:Az f (.lst (xs.map .int)) (.lst (ys.map .int))=J (.bl (if f then !decide (xs=ys)else decide (xs=ys))):=by obtain⟨a,b⟩:=fA xs;obtain⟨c,d⟩:=fA ys;obtain⟨l,u⟩:=fv xs;obtain⟨l3,y⟩:=fv ys;simp only[Az,py,a,c,JW];rw[b_ ⟨⟨by simp[va,b],by simp[va,d]⟩,gh (by simpa [PyData.canLay0]using l) (by simp only[PyData.depth];lia),gh (by simpa [PyData.canLay0]using l3) (by simp only[PyData.depth];lia)⟩];simp only[PyData.eqv,fK]
end
@[simp]theorem NU:Bg g b [] env s=.nx env s:=rfl
theorem qC(e:g d env=J env1):Bg g b (d::ds) env s=(b env1 s).turn (Bg g b ds):=by rw[Bg,e]
def eN(i:Nat->ar->f_->Prop):∀(u:SW)(j:Nat)(env:ar)(s:f_),i j env s ->
  (∀m env s d,i (j+m) env s->u[m]?=J d->∃f a l,g d env=J f/\b f s=.nx a l/\i (j+m+1) a l)->∃a l,Bg g b u env s=.nx a l/\i (j+u.length) a l
 |[],j,env,s,C,_=>⟨env,s,rfl,C⟩
 |d::u,j,env,s,C,st=>by
  obtain⟨f,B,F,e1,e2,H⟩:=st 0 env s d C rfl;obtain⟨y,E,e3,G⟩:=eN i u (j+1) B F H λm a l x q z=>by
   have:=st (m+1) a l x (by rw[show j+(m+1)=j+1+m by lia];exact q) (by simpa using z)
   rw[show j+(m+1)+1=j+1+m+1 by lia]at this;exact this
  refine⟨y,E,?_,by rw[AU,show j+(u.length+1)=j+1+u.length by lia];exact G⟩;rw[qC e1,e2];exact e3
def ni(p:D->Bool)(f:D->D):∀(l:SW)(j:ar),j.length=nv ->
  (∀x∈l,∀j:ar,j.length=nv->∃a:ar,a.length=nv/\g x (j++fr)=J (a++fr)/\t (a++fr) s=.ok (p x) s/\(p x=I->e (a++fr) s=.ok (f x) s))->d8 g t e l (j++fr) s=.ok ((l.filter p).map f) s
 |[],j,hv,i=>rfl
 |x::l,j,hv,i=>by
  obtain⟨a,u,e1,e2,e3⟩:=i x (by simp) j hv;have B:=ni p f l a u λy C=>i y (nt _ C);rw[d8,e1];dsimp only;rw[e2]
  cases z:p x with
  |true=>simp only[Pb,if_true,e3 z,B,Of z,mO]
  |false=>simp only[Pb,n_,if_false,B,Og (show ¬p x=I by simp[z])]
def mq{B j:SV}{env:ar}{s:f_}{y:Nat}{fm:SV}{i:Xi B}{g:Xg j}{t:Xt j}{e:Xe j}{F:Bo y fm B=j}{C:e.fz=I}{u:SW}(p:D->Bool)(f:D->D)(E:i.p env s=.ok u s)(G:u.length<=100000)(l:∀x∈u,∀z:ar,z.length=y->∃a:ar,a.length=y/\g.p x (z++fm.map λi=>(env[i]?).getD Y)=J (a++fm.map λi=>(env[i]?).getD Y)/\t.p (a++fm.map λi=>(env[i]?).getD Y) s=.ok (p x) s/\(p x=I->e.p (a++fm.map λi=>(env[i]?).getD Y) s=.ok (f x) s)):
  (aH y fm i g t e F C).p env s=.ok (.lst ((u.filter p).map f)) s:=by
 rw[uy,E,Pb,b_ G];unfold w_;rw[ni p f u _ (by simp) l]
def fG{ws ws':SV}{env:ar}{s:f_}{fm:SV}{i:Xi ws}{t:Xt ws'}{e:Xe ws'}{ds:SW}(p:D->Bool)(f:D->D)(u:i.p env s=.ok ds s)(y:ds.length<=100000)(a:∀x∈ds,t.p (J x::fm.map λi=>(env[i]?).getD Y) s=.ok (p x) s/\(p x=I->e.p (J x::fm.map λi=>(env[i]?).getD Y) s=.ok (f x) s))(z:ws'.contains 0=T:=by exact ys rfl)(hw:Bo 1 fm ws=ws':=by exact ys rfl)(hz:e.fz=I:=by exact ys rfl):
  (aH 1 fm i (i_ 0 z) t e hw hz).p env s=.ok (.lst ((ds.filter p).map f)) s :=
 mq p f u y λx l j hv=>match j,hv with
  |[_],_=>⟨[J x],rfl,rfl,a x l⟩
def mS{ws ws':SV}{env:ar}{s:f_}{fm:SV}{i:Xi ws}{t:Xt ws'}{e:Xe ws'}{ds:SW}(p:D->Bool)(f:D->D)(y:i.p env s=.ok ds s)(z:ds.length<=100000)(j:∀x∈ds,∃a b,x=.tup [a,b]/\t.p (J a::J b::fm.map λi=>(env[i]?).getD Y) s=.ok (p x) s/\(p x=I->e.p (J a::J b::fm.map λi=>(env[i]?).getD Y) s=.ok (f x) s))(B:ws'.contains 0=T:=by exact ys rfl)(C:ws'.contains 1=T:=by exact ys rfl)(hw:Bo 2 fm ws=ws':=by exact ys rfl)(hz:e.fz=I:=by exact ys rfl):
  (aH 2 fm i (Ay (t0 (i_ 0 B) (t0 (i_ 1 C) Ax)) 2) t e hw hz).p env s=.ok (.lst ((ds.filter p).map f)) s :=
 mq p f y z λx u l hv=>match l,hv with
  |[_,_],_=>let⟨a,b,e,q⟩:=j x u;⟨[J a,J b],rfl,by subst e;rfl,q⟩
def fV{α:Type}(l:List α):(l.filter λ_=>I)=l:=List.filter_eq_self.mpr (by simp)
def IsT(n:Int)(k:SS):Prop:=∃a b:Int,k=[a,b]/\0<=a/\a<n/\0<=b/\b<n/\a≠b
def BH:SS->SS
 |[a,b]=>[if b<a then b else a,if b>a then b else a]
 |k=>k
structure n9(n:Int)(ks:SU):Prop where
 n0:0<=n
 n12:n<=12
 tie:∀k∈ks,∃a b:Int,k=[a,b]/\0<=a/\a<b/\b<n
 ris:SortT.Dn ks
 nd:ks.Nodup
def HE:SU:=(List.range 12).flatMap λb=>(List.range b).map λ(a:Nat)=>[(a:Int),(b:Int)]
def yO:HE.length=66:=by decide
def Ac(f:n<=12)(j:0<=a)(l:a<b)(i:b<n):[a,b]∈HE:=by
 unfold HE;rw[Ou];refine⟨b.toNat,by simp;lia,?_⟩;rw[k6];refine⟨a.toNat,by simp;lia,?_⟩;congr 1
 .lia
 .lia
def wA{n:Int}{i:SU}(j:n<=12)(y:∀k∈i,∃a b:Int,k=[a,b]/\0<=a/\a<b/\b<n)(nd:i.Nodup):i.length<=66:=by rw[<-yO];refine List.Nodup.length_le_of_subset nd λk f=>?_;obtain⟨a,b,rfl,z,l,u⟩:=y k f;exact Ac j z l u
def HG(h:a<b):BH [a,b]=[a,b]:=by simp[BH,show ¬b<a by lia,show b>a from h]
def HH(h:b<a):BH [a,b]=[b,a]:=by simp[BH,h,show ¬b>a by lia]
def below(v:Int)(f:SU):SS:=f.filterMap λk=>match k with|[a,b]=>if b=v then J a else Y|_=>Y
def above(v:Int)(f:SU):SS:=f.filterMap λk=>match k with|[a,b]=>if a=v then J b else Y|_=>Y
def kj(n:Nat):SS:=(List.range n).map λ(i:Nat)=>(i:Int)
def dy:i∈kj n↔0<=i/\i<n:=by
 unfold kj;rw[k6];constructor
 .rintro⟨k,f,rfl⟩;rw[A9]at f;lia
 .intro ⟨a,b⟩;exact⟨i.toNat,by rw[A9];lia,⋯⟩
def uE(n:Nat):(kj n).Nodup:=by exact List.Pairwise.map _ (λa b h=>by lia) JS
def cS(h:0<=i):∃n:Nat,i=(n:Int):=⟨i.toNat,⋯⟩
def mD(w:n9 n E):(below v E++above v E).Nodup/\∀x∈below v E++above v E,0<=x/\x<n:=by
 have mb:∀x,x∈below v E->0<=x/\x<v/\x<n:=λx f=>by
  obtain⟨k,u,e⟩:=BS.mp f;obtain⟨a,b,rfl,_,lt,_⟩:=w.tie k u;by_cases z:b=v
  .simp[z]at e;subst e;lia
  .simp[z]at e
 have G:∀x,x∈above v E->0<=x/\v<x/\x<n:=λx f=>by
  obtain⟨k,u,e⟩:=BS.mp f;obtain⟨a,b,rfl,_,lt,_⟩:=w.tie k u;by_cases z:a=v
  .simp[z]at e;subst e;lia
  .simp[z]at e
 refine⟨?_,λx f=>?_⟩
 .rw[A4];refine⟨?_,?_,λx f y i=>?_⟩
  .unfold below List.Nodup;rw[Oe];refine List.Pairwise.imp_of_mem (λ{k F} u C B x f y i=>?_) w.nd;obtain⟨a,b,rfl,_⟩:=w.tie k u;obtain⟨c,d,rfl,_⟩:=w.tie F C;by_cases l:b=v
   .by_cases j:d=v
    .simp[l]at f;simp[j]at i;subst f i;rintro rfl;exact B (by rw[l,j])
    .simp[j]at i
   .simp[l]at f
  .unfold above List.Nodup;rw[Oe];refine List.Pairwise.imp_of_mem (λ{k F} u C B x f y i=>?_) w.nd;obtain⟨a,b,rfl,_⟩:=w.tie k u;obtain⟨c,d,rfl,_⟩:=w.tie F C;by_cases l:a=v
   .by_cases j:c=v
    .simp[l]at f;simp[j]at i;subst f i;rintro rfl;exact B (by rw[l,j])
    .simp[j]at i
   .simp[l]at f
  .have:=mb x f
   have:=G y i
   lia
 .rcases nw.mp f with q|q
  .have:=mb x q;lia
  .have:=G x q;lia
noncomputable section
def jh:D->Option Bool
 |.non=>J T
 |.bl b=>J b
 |.int i=>J (i != 0)
 |.tup xs=>J (!xs.isEmpty)
 |.lst xs=>J (!xs.isEmpty)
 |_=>Y
def Rps.empty(r:Rps p h O a vs):vs.isEmpty=a.isEmpty:=by
 cases a with
 |nil=>rw[show vs=[]from r];rfl
 |cons d a=>obtain⟨x,t,e,_⟩:=r;rw[e];rfl
def re(w:Vw q h L O d v)(e:jh d=J b):lN h v=J b:=by
 cases d with
 |non=>cases e;rw[w.non];rfl
 |bl c=>cases e;rw[w.bl];rfl
 |int c=>cases e;rw[w.int];rfl
 |tup c=>cases e;obtain⟨xs,rfl,r⟩:=w.tup;rw[lN,r.empty]
 |lst c=>cases e;obtain⟨n,xs,rfl,g,r⟩:=w.lst;simp only[lN,g];rw[r.empty]
 |_=>cases e
section
variable{ws:SV}
def HJ(a:Xe ws):Xt ws where
 m:=RG a.m
 p:=λenv s=>(a.p env s).bind λd s=>.of (jh d) s
 ok {q h L B O Z env s} c:=by
  refine(a.ok c).bind λx v i l j f ⟨w,_,_⟩=>?_
  cases e:jh x with
  |none=>trivial
  |some b=>rw[re w e];exact⟨b,i,rfl,KB.refl _ _,f,rfl⟩
structure OpR where
 m:Nat->SM->MH->S4
 p:SW->SW->S7
 ok:∀{q:Nat}{h:MH}{L:Nat}{O:SV}{n:Nat}{xs:SM}{ds as:SW}{vs:SM}{d:D},h[n]?=J (.lst xs)->Rps q h O ds xs->EL q h L O as vs->p ds as=J d->∃v,m n vs h=.ok v h/\Rp q h O d v/\∀es,d≠.lst es
end
section
variable{ws:SV}{env:ar}{s:f_}
@[simp]theorem RX:(HJ a).p env s=(a.p env s).bind λd s=>.of (jh d) s:=rfl
end
end
noncomputable section
section
variable{ws:SV}{env:ar}{s:f_}
end
end
noncomputable section
section
variable{ws:SV}
end
end
noncomputable section
variable{ws:SV}
end
end PU
namespace MM
open PySem.Spec PyProof.Rows L2
def Qb:l_:=λ_ _=>.bad
end MM
namespace PU
open MM
def HK{ws:SV}:Xd ws where
 m:=Qb
 p:=λ_ _=>.bad
 fr:=I
 ok _ _:=trivial
end PU
namespace MM
open PySem.Spec PyProof.Rows L2
abbrev NV(scope sc:Scope)(vars frees:SQ):Prop:=(∀y∈scope.names,y.2=.cell->scope.names.lookup y.1=J .cell)/\(∀y∈scope.names,y.2=.local->scope.names.lookup y.1=J .local)/\(∀x∈vars,scope.names.lookup x=J .local\/scope.names.lookup x=J .cell)/\(∀x∈frees,scope.names.lookup x=J .free)/\(∀y∈scope.names,y.2=.free->y.1∈frees)/\(∀x∈frees,sc.names.lookup x=J .cell)
def LM(a f:Scope):Scope:={ a with names:=a.names.map λ(n,k)=>if(k == .free&&f.kind == .function&&f.names.lookup n==J .cell)then(n,.cell)else(n,k)}
def xQ{a f:Scope}{env:Env}(h:env.scope=f):relabel a env=LM a f:=by subst h;rfl
def kB{X:Cx}{N:SQ}{a j:Scope}{f frees:SQ}{fm:SV}(AN:X.env.scope=j)(u:a.kind=.function)(l:fm.map (λi=>N[i]?)=frees.map J)(h:NV a j f frees):yQ X N a f frees fm :=
 GB AN u h.1 h.2.1 h.2.2.1 h.2.2.2.1 h.2.2.2.2.1 l h.2.2.2.2.2
def Qc{Q:SH->Prop}(h:∀f,Q [f]):∀a,a.length=1->Q a
 |[_],_=>h _
def RY{Q:SH->Prop}(h:∀f i,Q [f,i]):∀a,a.length=2->Q a
 |[_,_],_=>h _ _
def RZ{Q:SH->Prop}(h:∀f j i,Q [f,j,i]):∀a,a.length=3->Q a
 |[_,_,_],_=>h _ _ _
def R0{Q:SH->Prop}(h:∀i l j f,Q [i,l,j,f]):∀a,a.length=4->Q a
 |[_,_,_,_],_=>h _ _ _ _
abbrev Zn(K:h8)(x:Str):Prop:=PySem.W.nsIn K mainGlobals x=J Y
abbrev Nn(X:Cx)(x:Str):Prop:=X.mg x=Y
abbrev Sc(X:Cx)(s:Stmt):Prop:=X.env.scope=ah s
abbrev Gd(X:Cx)(N G:SQ)(k:Nat):Prop:=Good X N N G k
structure Ba(P:Program)(w:World)(K:h8)(mg:S6)(base:Heap):Prop where
 kin:K.In base
 ns:base.Ns mainGlobals mg
structure EE(X:Cx)(P:Program)(w:World)(K:h8)(mg:S6)(base:Heap):Prop where
 e1:X.prog=P
 e2:X.w=w
 e3:X.K=K
 e4:X.mg=mg
 e5:X.base=base
 b:Ba P w K mg base
section
variable{P:Program}{w:World}{K:h8}{mg:S6}{base:Heap}{X:Cx}
def EE.n(e:EE X P w K mg base){x:Str}(z:Zn K x):Nn X x:=by show X.mg x=Y;rw[e.e4];exact PySem.W.mg_none_of e.b.kin e.b.ns z
def FnAt.c{x:Str}{f:SQ}{F:SM->MH->S4}{i j:Nat}(a:FnAt P w K mg base x f F i)(e:EE X P w K mg base)(h:i<=j:=by decide):Cal X x f F j :=
 (a.mono h).cal e.e1 e.e2 e.e3 e.e4 e.e5
def Qd{x:Str}{st:Stmt}{N G ps:SQ}{m:l_}{k:Nat}(b:Ba P w K mg base)(D:g_ K x st)(j:∀X:Cx,EE X P w K mg base->Sc X st->Gd X N G k->ip X->Av X (aJ st) m)(B:iS x st ps:=by first | exact λ_ _ _ _ _ _=>Qc λ_=>rfl | exact λ_ _ _ _ _ _=>RY λ_ _=>rfl | exact λ_ _ _ _ _ _=>RZ λ_ _ _=>rfl | exact λ_ _ _ _ _ _=>R0 λ_ _ _ _=>rfl | exact λ_ _ _ _ _ _=>ar5 λ_ _ _ _ _=>rfl)(S:s_ N ps (ah st):=by exact⟨rfl,rfl,rfl,by decide +kernel,rfl,by decide +kernel,by decide +kernel⟩)(i:∀y∈N,(ah st).names.lookup y=J .local\/(ah st).names.lookup y=J .cell:=by decide +kernel)(a:∀y∈G,(ah st).names.lookup y=J .globalImplicit:=by decide +kernel)(dbg:∀x∈N++G,(x==("__debug__":Str))=T/\(x==("__classdict__":Str))=T/\x≠"__name__":=by decide +kernel):
  FnAt P w K mg base x ps (eD N.length ps.length m) (k+1) :=
 wO b.kin b.ns D S B i a dbg λX e1 e2 e3 e4 e5 f g l=>j X ⟨e1,e2,e3,e4,e5,b⟩ f g l
end
structure YE(Y X:Cx):Prop where
 e1:Y.prog=X.prog
 e2:Y.w=X.w
 e3:Y.K=X.K
 e4:Y.mg=X.mg
 e5:Y.base=X.base
section
variable{X Y:Cx}{N W G:SQ}{k:Nat}{x:Str}{p pos:Pos}{e:Expr}{es:S3}{m:Mx (SM)}{f:SM->MH->S4}
def YE.c(y:YE Y X){a:SQ}{F:SM->MH->S4}{i:Nat}(c:Cal X x a F i):Cal Y x a F i:=c.at y.e1 y.e2 y.e3 y.e4 y.e5
def kV(g:Good X N W G k)(i:Nat)(a:N[i]?=J x:=by rfl):ME X (.Name x pos) (af i):=xR g i a
def HL(g:Good X N W G k)(i:Nat)(a:N[i]?=J x:=by rfl)(j:W[i]?=J x:=by rfl):MG X (.Name x pos) (wo i):=ug g i a j
def Bi{a b:Expr}{i mb:Mx PV}(j:ME X a i)(l:ME X b mb)(u:kF b:=by exact λ_ _=>rfl):ME X (.Subscript a b pos) (ao bB i mb):=Ey j l u
def DH{i:CmpOp}{f:PV->PV->MH->S4}{a b:Expr}{j mb:Mx PV}(z:yP X (compareOp i) f)(l:ME X a j)(u:ME X b mb)(y:behindInMarks i b=T:=by first | exact Bw _ | rfl):MT X (.Compare a [i] [b] pos) (mB (ao f j mb)):=yi z l u y
def BY(g:Good X N W G k)(j:Nat){i:SQ}{F:SM->MH->S4}(C:Cal X x i F k)(l:MA X (e::es) m)(u:G[j]?=J x:=by rfl)(y:starEach (e::es) X.env=(T,eval e X.env)::starEach es X.env:=by rfl)(a:(backTo pos (starEach es X.env)).any (·.1)=T:=by rfl):ME X (.Call (.Name x p) (e::es) [] pos) (bE F m):=uN g u C l y a
def BI{id:String}(g:Good X N W G k)(j:Nat)(u:ck X (.builtin id) f)(z:X.mg x=none)(hv:bootBuiltins x=J (.builtin id))(i:MA X (e::es) m)(l:G[j]?=J x:=by rfl)(y:starEach (e::es) X.env=(T,eval e X.env)::starEach es X.env:=by rfl)(a:(backTo pos (starEach es X.env)).any (·.1)=T:=by rfl):ME X (.Call (.Name x p) (e::es) [] pos) (vx f m):=rV g j l u z hv i y a
def Sy{a:String}(g:Good X N W G k)(j:Nat)(y:ck X (.type a) f)(B:X.mg x=none)(hv:bootBuiltins x=J (.type a))(l:MA X (e::es) m)(u:G[j]?=J x:=by rfl)(z:starEach (e::es) X.env=(T,eval e X.env)::starEach es X.env:=by rfl)(i:(backTo pos (starEach es X.env)).any (·.1)=T:=by rfl):ME X (.Call (.Name x p) (e::es) [] pos) (vx f m):=pj g j u y B hv l z i
def NW{z a:Expr}(g:Good X N W G k)(j:Nat)(y:X.mg "range"=none)(i:MA X [a] m)(l:G[j]?=J "range":=by rfl)(u:starEach [a] X.env=[(T,eval a X.env)]:=by rfl):MI X z (.Call (.Name "range" p) [a] [] pos) (eR m):=pf (g.gl _ (az l)) y i u
section
variable{tg iter elt:Expr}{ifs:S3}{scope sc:Scope}{mi:Mx MIt}{gt:Mg}{mt:Mx Bool}{me:Mx PV}
def Sz(g:Good X N W G k)(AN:X.env.scope=sc)(a frees l:SQ)(fm:SV)(C:MI X tg iter mi)(u:∀Y:Cx,YE Y X->Good Y (a++frees) a l k->MG Y tg gt/\EA Y ifs mt/\ME Y elt me)(M:scope.kind=.function:=by rfl)(H:fm.map (λi=>N[i]?)=frees.map J:=by rfl)(h:NV scope sc a frees:=by decide +kernel)(nd:(a++frees).Nodup:=by decide +kernel)(j:∀x∈l,scope.names.lookup x=J .globalImplicit:=by decide +kernel)(dbg:∀x∈(a++frees)++l,(x==("__debug__":Str))=T/\(x==("__classdict__":Str))=T/\x≠"__name__":=by decide +kernel)(F:∀x,foldedSetIterable iter X.env x=pure x:=by exact λ_=>rfl):ME X (.ListComp elt [⟨tg,iter,ifs,0⟩] scope pos) (d6 a.length fm mi gt mt me) :=
 uZ g (kB AN M H h) nd j dbg C (λY z y L B E _ g=>u Y ⟨z,y,L,B,E⟩ g) F
def SA{j py:Pos}{y:Str}(g:Good X N W G k)(AN:X.env.scope=sc)(i:Nat)(a frees z:SQ)(fm:SV)(M:MI X tg iter mi)(C:∀Y:Cx,YE Y X->Good Y (a++frees) a z k->MG Y tg gt/\EA Y ifs mt/\ME Y elt me)(B:∀env:Env,env.scope=sc->swapsWith (.ListComp elt [⟨tg,iter,ifs,0⟩] scope pos) (J (.Name y py)) j.line env=pure I:=by(intro env h;cases env;cases h;rfl))(u:N[i]?=J y:=by rfl)(H:W[i]?=J y:=by rfl)(S:scope.kind=.function:=by rfl)(Q:fm.map (λi=>N[i]?)=frees.map J:=by rfl)(h:NV scope sc a frees:=by decide +kernel)(nd:(a++frees).Nodup:=by decide +kernel)(l:∀x∈z,scope.names.lookup x=J .globalImplicit:=by decide +kernel)(dbg:∀x∈(a++frees)++z,(x==("__debug__":Str))=T/\(x==("__classdict__":Str))=T/\x≠"__name__":=by decide +kernel)(P:∀x,foldedSetIterable iter X.env x=pure x:=by exact λ_=>rfl):MS X (.Assign [.Name y py] (.ListComp elt [⟨tg,iter,ifs,0⟩] scope pos) j) (bf i (d6 a.length fm mi gt mt me)) :=
 tQ g i u H (B X.env AN) (kB AN S Q h) nd l dbg M (λY F E R L O _ g=>C Y ⟨F,E,R,L,O⟩ g) P
end
end
abbrev wL:=@PyProof.Rows.Boot.«abs»
abbrev sE:=@PyProof.Rows.Boot.«min»
abbrev HM:=@PyProof.Rows.Boot.«max»
abbrev xV:=@PyProof.Rows.Boot.«int»
abbrev mM:=@PyProof.Rows.Boot.«len»
abbrev og:=@PyProof.Rows.Boot.«list»
abbrev zu:=@PyProof.Rows.Boot.«tuple»
abbrev kT:=@PyProof.Rows.Boot.«repr»
abbrev HN:=@PyProof.Rows.Boot.«any»
abbrev pc:=@PyProof.Rows.Boot.«sorted»
abbrev DI:=@PyProof.Rows.Boot.«bool»
abbrev pX:=@PyProof.Rows.Boot.«ValueError»
abbrev fR:=@PySem.F.slot_list_append
abbrev gf:=@PySem.F.type_list_append
abbrev x4:=@PySem.F.slot_list_extend
abbrev yo:=@PySem.F.type_list_extend
abbrev HP:=@PySem.F.slot_list_pop
abbrev HQ:=@PySem.F.type_list_pop
abbrev xF:=@PySem.F.slot_list_insert
abbrev xN:=@PySem.F.type_list_insert
end MM
namespace PU
open MM
open L2 (xl n5 eS)
noncomputable section
section
variable{ws:SV}
end
end
noncomputable section
end
noncomputable section
def Qe:zn where
 k:=λj i=>match j with
  |[x]=>(match (b7 i x).bind eJ with
   |some ns=>if ns.length<=1000 then .ok (.int (wx ns)) i else .bad
   |none=>.bad)
  |_=>.bad
 p:=λa=>match a with
  |[.lst f]=>(bV f).bind λns=>if ns.length<=1000 then J (.int (wx ns))else Y
  |_=>Y
 fr:=I
 ok {q h L O a xs d} bd w e:=by
  match a,e with
  |[.lst f],e =>
   obtain⟨x,rfl,l⟩:=dU w;obtain⟨y,u,r⟩:=l.lstOf;rw[E4]at e;obtain⟨ns,e1,e2⟩:=e;by_cases z:ns.length<=1000
   .rw[b_ z]at e2;cases e2;simp only[u,Ar,eA r e1,iB];rw[b_ z];exact Bp
   .rw[c_ z]at e2;cases e2
def ET{ns:SS}(h:ns.length<=1000):Qe.p [.lst (ns.map .int)]=J (.int (wx ns)):=by
 have e:∀ns:SS,bV (ns.map .int)=J ns:=λns=>by
  induction ns with
  |nil=>rfl
  |cons i k a=>rw[mO,bV,a];rfl
 show(bV (ns.map .int)).bind _=_;rw[e,Ar,b_ h]
end
def ux{ns:SS}:wx ns=ns.length↔ns.Nodup:=by
 have key:∀j,j<=ns.length->(∀k,k∈PyProof.Rows.firstMet (λi=>ns.getD i 0) j↔k∈ns.take j)/\((PyProof.Rows.firstMet (λi=>ns.getD i 0) j).length=j↔(ns.take j).Nodup):=by
  intro j
  induction j with
  |zero=>simp[PyProof.Rows.firstMet_zero]
  |succ j E =>
   intro H;obtain⟨a,b⟩:=E ⋯;have u:j<ns.length:=by lia
   have C:ns.take (j+1)=ns.take j++[ns[j]]:=by simp
   have l:ns.getD j 0=ns[j]:=by simp[u]
   have G:(PyProof.Rows.firstMet (λi=>ns.getD i 0) j).any (· == ns.getD j 0)=decide (ns[j]∈ns.take j):=by rw[Bool.eq_iff_iff,Nh,decide_eq_true_iff,<-a,l];exact⟨λ⟨x,f,e⟩=>by rw[<-eq_of_beq e];exact f,λh=>⟨_,h,by simp⟩⟩
   have F:=PyProof.Rows.firstMet_length_le (λi=>ns.getD i 0) j;rw[PyProof.Rows.firstMet_succ,C];constructor
   .intro k
    have:=PyProof.Rows.step_any (PyProof.Rows.firstMet (λi=>ns.getD i 0) j) (ns.getD j 0) k
    rw[Bool.eq_iff_iff,Nh,Bool.or_eq_true,Nh,decide_eq_true_iff,l]at this;rw[nw,AD,<-a];constructor
    .intro h;rw[l]at h;rcases this.mp ⟨k,h,by simp⟩with⟨x,f,e⟩|e
     .rw[<-eq_of_beq e];exact .inl f
     .exact .inr e
    .intro h;obtain⟨x,f,e⟩:=this.mpr (h.imp (λh=>⟨k,h,by simp⟩) id);rw[l,<-eq_of_beq e];exact f
   .rw[PyProof.Rows.step_length,G,A4];by_cases z:ns[j]∈ns.take j
    .exact⟨λh=>by lia,λh=>absurd rfl (h.2.2 _ z _ (by simp))⟩
    .simp only[z,decide_false,n_];constructor
     .intro h
      exact⟨b.mp ⋯,by simp,λx f y B e=>z (by
       have:y=ns[j]:=by simpa using B
       rw[<-this,<-e];exact f)⟩
     .intro h;lia
 have:=(key ns.length (iv _)).2
 rw[Jj]at this;exact this
section
variable{ws:SV}
end
end PU
namespace PU
open MM L2
def AQ:BG where
 m:=qt
 p:=λu a=>match a,u with
  |[.int 0],d::r=>J (d,r)
  |_,_=>Y
 ok {q h O n xs u a vs d ds'} g r f e:=by
  match a,u,r,f,e with
  |[.int 0],d::l,r,f,e =>
   cases e;obtain⟨x,t,rfl,B,b⟩:=f
   have:t=[]:=b
   subst this;rw[show x=PV.int 0 from B];obtain⟨y,i,rfl,z,j⟩:=r;exact⟨y,i,by simp only[qt,g],j,z⟩
noncomputable section
def HR{q:Nat}{h:MH}{O:SV}{fr:Bool}{x:Str}:Gv q h O fr (.ok (.str x) h) (.str x):=Ho rfl λ_ _ e=>by cases e
def mj(d:D):Option Str:=match d with
 |.non=>J "None"
 |.bl b=>J (if b then "True" else "False")
 |.int i=>if i.natAbs.log2<1920 then J (toString i)else Y
 |.str x=>if(reprText x).length<=sizeLine then J (reprText x)else Y
 |.dic=>J "{}"
 |.tup a=>(match py (.tup a) with
  |some e=>if va (.tup a)<=60/\e.showable=I/\e.shown.length<=sizeLine then J e.shown else Y
  |none=>Y)
 |.lst a=>(match py (.lst a) with
  |some e=>if va (.lst a)<=60/\e.showable=I/\e.shown.length<=sizeLine then J e.shown else Y
  |none=>Y)
 |_=>Y
def nS:zn where
 k:=λxs h=>(jp xs h).ne
 p:=λC=>match C with
  |[d]=>(mj d).map .str
  |_=>Y
 fr:=I
 ok {q h L O C xs d} bd w e:=by
  match C,e with
  |[a],e =>
   obtain⟨x,rfl,f⟩:=dU w;rw[y_]at e;obtain⟨u,e1,rfl⟩:=e
   cases a with
   |non=>cases e1;rw[f.non];exact HR
   |bl b=>cases e1;rw[f.bl];exact HR
   |int i =>
    rw[f.int];unfold mj at e1;by_cases z:i.natAbs.log2<1920
    .dsimp only at e1;rw[b_ z]at e1;cases e1;show Gv q h O I (jp [.int i] h).ne _;simp only[jp];rw[b_ z];exact HR
    .dsimp only at e1;rw[c_ z]at e1;cases e1
   |str y =>
    rw[f.str];unfold mj at e1;by_cases z:(reprText y).length<=sizeLine
    .dsimp only at e1;rw[b_ z]at e1;cases e1;show Gv q h O I (jp [.str y] h).ne _;simp only[jp];rw[b_ z];exact HR
    .dsimp only at e1;rw[c_ z]at e1;cases e1
   |dic =>
    cases e1;rcases f with⟨n,e,F,g⟩|⟨n,xs,B,e,_⟩
    .subst e;show Gv q h O I (jp [.loc n] h).ne _;simp only[jp,g];exact HR
    .cases e
   |tup B =>
    unfold mj at e1;dsimp only at e1
    cases j:py (.tup B) with
    |none=>rw[j]at e1;cases e1
    |some t =>
     rw[j]at e1;dsimp only at e1;by_cases z:va (.tup B)<=60/\t.showable=I/\t.shown.length<=sizeLine
     .rw[b_ z]at e1;cases e1;have l:=jm f j z.1;obtain⟨E,rfl,_⟩:=f.tup;show Gv q h O I (jp [.tup E] h).ne _;simp only[jp,AL,l];rw[b_ z.2];exact HR
     .rw[c_ z]at e1;cases e1
   |lst B =>
    unfold mj at e1;dsimp only at e1
    cases j:py (.lst B) with
    |none=>rw[j]at e1;cases e1
    |some t =>
     rw[j]at e1;dsimp only at e1;by_cases z:va (.lst B)<=60/\t.showable=I/\t.shown.length<=sizeLine
     .rw[b_ z]at e1;cases e1;have l:=jm f j z.1;obtain⟨n,E,rfl,g,_⟩:=f.lst;show Gv q h O I (jp [.loc n] h).ne _;simp only[jp,g,AL,l];rw[b_ z.2];exact HR
     .rw[c_ z]at e1;cases e1
   |_=>cases e1
def HU:yX where
 m:=v1
 p:=λa b=>match a,b with
  |.str x,.str y=>J (.bl (x.cps.toList != y.cps.toList))
  |a,b=>Az I a b
 fr:=I
 ok {q h L O a x b y d} bd wa wb e:=by
  by_cases z:∃u v,a=.str u/\b=.str v
  .obtain⟨u,v,rfl,rfl⟩:=z;cases e;rw[wa.str,wb.str];exact u_
  .have e1:Az I a b=J d:=by
    revert e;split
    .exact absurd ⟨_,_,rfl,rfl⟩ z
    .exact id
   have k:=v8.ok bd wa wb e1
   have:v1 x y h=vw x y h:=by
    unfold v1;split
    .exfalso;obtain⟨C,E,B,l,_⟩:=oY e1;have f:∀{a:D}{s:Str}{p:PyData},Vw q h L O a (.str s)->py a=J p->∃u,a=.str u:=λ{a s p} w i=>by
      cases a with
      |str u=>exact⟨u,rfl⟩
      |non=>cases w.non
      |bl b=>cases w.bl
      |int b=>cases w.int
      |tup b=>obtain⟨xs,e,_⟩:=w.tup;cases e
      |lst b=>obtain⟨n,xs,e,_⟩:=w.lst;cases e
      |_=>cases i
     obtain⟨u,j⟩:=f wa B;obtain⟨v,hv⟩:=f wb l;exact z ⟨u,v,j,hv⟩
    .rfl
   rw[this];exact k
def pz{x:Str}:HU.p (.str x) (.str x)=J (.bl T):=by show J (D.bl (x.cps.toList != x.cps.toList))=_;simp
end
end PU
namespace MM
open PySem.Spec PyProof.Rows L2
open PU (Xe Xs Xt Xi Xg EN Xo Xd Lp yX zn PZ BG OpR Fn aa xC ad y4 a_ ac qp aq bu bg Dx xB lY b9 BX ka nN qo mz aH bJ aT i_ Ax t0 Ay aE ia bR mE bZ pk bp gH Dy ik oE gu JB vp qV cD DC DD DE HJ HK)
structure Bj(X:Cx)(e:Expr)(m:Mx Bool):Prop where
 h:MT X e m
structure HV(X:Cx)(e:Expr)(m:Mx Bool):Prop where
 h:MW X e m
structure LN(X:Cx)(tg e:Expr)(m:Mx MIt):Prop where
 h:MI X tg e m
structure LP(X:Cx)(e:Expr)(m:Mg):Prop where
 h:MG X e m
structure NX(X:Cx)(e:S3)(m:Cy):Prop where
 h:Ky X e m
structure Qf(X:Cx)(e:S3)(m:Mx Bool):Prop where
 h:EA X e m
structure NY(X:Cx)(e:Option Expr)(m:Mx (S1)):Prop where
 h:MO' X e m
structure OJ(X:Cx)(r:Value->Value->Sem Value)(o:yX):Prop where
 h:yP X r o.m
def HW(a:Scope):SQ:=(a.names.filter λy=>match y.2 with|.globalImplicit=>I|_=>T).map (·.1)
abbrev gm(sc:Scope)(x:Str):Prop:=x∈HW sc
def EU:Expr->SQ
 |.Name x _=>[x]
 |.Tuple a _ _=>a.flatMap λe=>match e with
  |.Name x _=>[x]
  |.Tuple a _ _=>a.flatMap λe=>match e with
   |.Name x _=>[x]
   |_=>[]
  |_=>[]
 |_=>[]
def JE(N:SQ)(fm:SV):SQ:=fm.filterMap (N[·]?)
structure Wc(X:Cx)(P:Program)(w:World)(K:h8)(mg:S6)(base:Heap)(N W:SQ)(k:Nat)(sc:Scope):Prop where
 g:Good X N W (HW sc) k
 e:EE X P w K mg base
 s:X.env.scope=sc
section
variable{X Y:Cx}{P:Program}{w:World}{K:h8}{mg:S6}{base:Heap}{N W:SQ}{k:Nat}{sc:Scope}{ws:SV}{x y:Str}{p p' pos spos:Pos}{e a b d tg:Expr}{es:S3}{i j:Nat}{st:Stmt}{rest body:S9}{xa xb xd:Xe ws}{ta tb:Xt ws}{sa:Xs ws}{da db:Xd ws}
def Wc.gj(c:Wc X P w K mg base N W k sc)(h:gm sc x):∃j:Nat,(HW sc)[j]?=J x:=List.getElem?_of_mem h
def Wc.n(c:Wc X P w K mg base N W k sc)(z:Zn K x):X.mg x=none:=c.e.n z
def LQ{i:Int}:kx X (.Constant (.int i) j pos) (xC (ws:=ws) (.int i)).m:=⟨aC⟩
def LR{i:Str}:kx X (.Constant (.str i) j pos) (xC (ws:=ws) (.str i)).m:=⟨F2⟩
def Qg{i:Bool}:kx X (.Constant (.bool i) j pos) (xC (ws:=ws) (.bl i)).m:=⟨mW⟩
def LU:kx X (.Constant .none j pos) (xC (ws:=ws) .non).m:=⟨F3⟩
def LV{f:Operator}{o:yX}(z:OJ X (binaryOp f) o)(l:kx X a xa.m)(u:kx X b xb.m):kx X (.BinOp a f b pos) (ad o xa xb).m:=⟨aQ z.h l.h u.h⟩
def LW{f:CmpOp}{o:yX}(B:OJ X (compareOp f) o)(l:kx X a xa.m)(u:kx X b xb.m)(z:behindInMarks f b=T):kx X (.Compare a [f] [b] pos) (ad o xa xb).m:=⟨F4 B.h l.h u.h z⟩
def Qh(f:kx X a xa.m)(l:kx X b xb.m)(u:kF b):kx X (.Subscript a b pos) (ad PU.o_ xa xb).m:=⟨Ey f.h l.h u⟩
def LX(f:kx X a xa.m):kx X (.UnaryOp .USub a pos) (y4 PU.ki xa).m:=⟨Kw Gk f.h⟩
def HX(f:kx X a xa.m):kx X (.UnaryOp .Not a pos) (qo xa).m:=⟨F9 f.h⟩
def DJ{u f:CmpOp}{o z:yX}(E:OJ X (compareOp u) o)(l:OJ X (compareOp f) z)(B:kx X a xa.m)(C:kx X b xb.m)(hd:kx X d xd.m)(F:lastMarks [u,f] [b,d]=T):kx X (.Compare a [u,f] [b,d] pos) (mz o z xa xb xd).m:=⟨Al E.h l.h B.h C.h hd.h F⟩
def LY{l:BoolOp}(f:kx X a xa.m):kx X (.BoolOp l [a] pos) xa.m:=⟨F7 f.h⟩
def HY(f:kx X a xa.m)(l:kx X (.BoolOp .And (b::es) pos) xb.m):kx X (.BoolOp .And (a::b::es) pos) (nN xa xb).m:=⟨F8 f.h l.h⟩
def LZ{hz}(h:z_ X es sa.m):kx X (.Tuple es j pos) (bg sa hz).m:=Sx h
def L0{hz}(h:z_ X es sa.m):kx X (.List es pos) (bu sa hz).m:=Ll h
def L3:kx X (.Dict [] [] pos) (Dx (ws:=ws)).m:=⟨CH⟩
def Qi{lo f:Option Expr}{u l:Xo ws}(z:kx X a xa.m)(C:NY X lo u.m)(B:NY X f l.m):kx X (.Subscript a (.Slice lo f none p) pos) (DE xa u l).m:=⟨EG z.h C.h B.h⟩
def Qj:NY X none (DC (ws:=ws)).m:=⟨uL⟩
def Qk(f:kx X a xa.m):NY X (J a) (DD xa).m:=⟨uu f.h⟩
def L4:z_ X [] (a_ (ws:=ws)).m:=jT
def HZ(f:kx X e xa.m)(l:z_ X es sa.m)(u:br e=I):z_ X (e::es) (ac xa sa).m:=fe f l u
def L5:OJ X (binaryOp .Add) PU.aX:=⟨dt⟩
def L6:OJ X (binaryOp .Sub) PU.dS:=⟨Gj⟩
def L7:OJ X (binaryOp .Pow) PU.Ht:=⟨rj⟩
def Ql:OJ X (compareOp .Lt) PU.Bq:=⟨Ev⟩
def Qm:OJ X (compareOp .LtE) PU.P0:=⟨KD⟩
def Qn:OJ X (compareOp .Gt) PU.Hr:=⟨Ew⟩
def L8:OJ X (compareOp .IsNot) (PU.JC I):=⟨Gm⟩
section
variable(c:Wc X P w K mg base N W k sc)
include c
def w_var(f:N[i]?=J x):kx X (.Name x pos) (aa (ws:=ws) i).m:=⟨xR c.g i f⟩
def Qo:OJ X (compareOp .Eq) PU.sh:=⟨Eu c.g.room⟩
def Qp:OJ X (compareOp .NotEq) PU.v8:=⟨nG c.g.room⟩
def Qq:OJ X (compareOp .In) (PU.pa T):=⟨EF c.g.room T⟩
def L9:OJ X (compareOp .NotIn) (PU.pa I):=⟨EF c.g.room I⟩
end
def gB{env:Env}:∀{es:S3},es.all br=I->(backTo pos (starEach es env)).any (·.1)=T
 |[],_=>rfl
 |e::es,h=>by
  have f:br e=I/\es.all br=I:=by simpa using h
  have:=gB (env:=env) f.2
  rw[aK f.1];simpa [backTo]using this
section
variable(c:Wc X P w K mg base N W k sc)
include c
def H_{F:Fn}{u:SQ}{hz}(z:z_ X (e::es) sa.m)(f:FnAt P w K mg base x u F.m i)(h:i<=k)(B:gm sc x)(E:(e::es).all br=I):kx X (.Call (.Name x p) (e::es) [] pos) (aq F sa hz).m :=
 let⟨_,C⟩:=c.gj B
 have l:br e=I/\es.all br=I:=by simpa using E
 ⟨uN c.g C (f.c c.e h) z.h (aK l.1) (gB l.2)⟩
end
inductive BB(X:Cx)(x:Str)(o:zn):Prop
 |fn(id:String)(f:SM->MH->S4)(h:bootBuiltins x=J (.builtin id))(c:ck X (.builtin id) f)(e:o.k=λxs h=>(f xs h).ne:=by rfl):BB X x o
 |ty(T:String)(f:SM->MH->S4)(h:bootBuiltins x=J (.type T))(c:ck X (.type T) f)(e:o.k=λxs h=>(f xs h).ne:=by rfl):BB X x o
def L_:BB X "int" PU.DA:=.ty _ _ xV Go
def Ma:BB X "len" PU.lQ:=.fn _ _ mM nB
def DK:BB X "tuple" PU.iK:=.ty _ _ zu yZ
def zW:BB X "sorted" PU.gO:=.fn _ _ pc xc
section
variable(c:Wc X P w K mg base N W k sc)
include c
def Mb{o:zn}(B:BB X x o)(u:z_ X (e::es) sa.m)(z:Zn K x)(E:gm sc x)(F:(e::es).all br=I):kx X (.Call (.Name x p) (e::es) [] pos) (qp o sa).m:=by
 obtain⟨j,C⟩:=c.gj E;have l:br e=I/\es.all br=I:=by simpa using F
 refine⟨?_⟩;show ME X _ (λZ h=>(sa.m Z h).bind o.k)
 cases B with
 |fn id f h d q=>rw[q];exact rV c.g j C d (c.n z) h u.h (aK l.1) (gB l.2)
 |ty G f h d q=>rw[q];exact pj c.g j C d (c.n z) h u.h (aK l.1) (gB l.2)
def Mc:BB X "min" PU.sj:=.fn _ _ sE (rB c.g)
def Md:BB X "max" PU.sB:=.fn _ _ HM (Gn c.g)
def Me:BB X "any" PU.DB:=.fn _ _ HN (GG c.g)
def Qr(f:z_ X [a] sa.m)(l:Zn K "sorted")(u:Zn K "set")(C:gm sc "sorted")(z:gm sc "set")(B:br a=I):kx X (.Call (.Name "sorted" p) [.Call (.Name "set" p') [a] [] spos] [] pos) (qp PU.P1 sa).m :=
 let⟨_,i⟩:=c.gj C;let⟨_,j⟩:=c.gj z
 ⟨sJ c.g i (c.n l) j (c.n u) f.h (aK B)⟩
def Qs(f:z_ X [a] sa.m)(l:Zn K "len")(u:Zn K "set")(C:gm sc "len")(z:gm sc "set")(B:br a=I):kx X (.Call (.Name "len" p) [.Call (.Name "set" p') [a] [] spos] [] pos) (qp PU.Qe sa).m :=
 let⟨_,i⟩:=c.gj C;let⟨_,j⟩:=c.gj z
 ⟨xY c.g _ _ (c.n l) (c.n u) f.h i j (aK B)⟩
end
structure BT(x:Str)(T:String):Prop where
 h:bootBuiltins x=J (.type T)
 o:Jp T
def Mf:BT "int" "int":=⟨xV,CG⟩
def Ia:BT "bool" "bool":=⟨DI,Ah⟩
def Ib:BT "list" "list":=⟨og,sI⟩
section
variable(c:Wc X P w K mg base N W k sc)
include c
def Mh{f:String}(B:BT x f)(l:kx X a xa.m)(u:Zn K "isinstance")(z:Zn K x)(F:gm sc "isinstance")(C:gm sc x)(E:br a=I):kx X (.Call (.Name "isinstance" p) [a,.Name x p'] [] pos) (y4 (PU.oD [f]) xa).m :=
 let⟨_,i⟩:=c.gj F;let⟨_,j⟩:=c.gj C
 ⟨wW c.g i (c.n u) j (c.n z) B.h B.o l.h (aK E)⟩
end
abbrev MJ(X:Cx)(name:Str)(f:Nat->SM->MH->S4):Prop:=∃id,Slot "list" name id/\typeOf (.builtin id)=pure (.type "method_descriptor")/\FS X id (GC X f)
section
variable{name:Str}{f:Nat->SM->MH->S4}{o:BG}{m:Mx PV}
def Qt{l:Mx (SM)}(M:MJ X name f)(B:kx X a m)(u:z_ X (e::es) l)(h:(((backTo pos (starEach (e::es) X.env)).all (λx=>!x.1)&&(backToKw pos (keywordEach [] X.env)).all (λx=>x.1.isSome)&&decide ((e::es).length+([]:List Keyword).length+(if([]:List Keyword).isEmpty then 0 else 1)<30))=I/\(p.endLine==pos.line)=I)/\attributeBase a name X.env (eval a X.env)=eval a X.env/\starEach (e::es) X.env=(T,eval e X.env)::starEach es X.env/\(backTo pos (starEach es X.env)).any (·.1)=T):kx X (.Call (.Attribute a name p) (e::es) [] pos) (x_ f m l) :=
 let⟨_,x,y,z⟩:=M
 ⟨nr x y z B.h u.h h.2.1 h.1.1 h.1.2 h.2.2.1 h.2.2.2⟩
def Qu{hi hz}(h:kx X e (x_ o.m (aa (ws:=ws) i).m sa.m))(l:swapsWith e none pos.line X.env=pure T):zl X (.Expr e pos) (vp o i sa hi hz).m:=⟨gT h.h l⟩
def Mi{hi hj hz}(c:Wc X P w K mg base N W k sc)(h:kx X e (x_ o.m (aa (ws:=ws) i).m sa.m))(z:swapsWith e (J (.Name y p)) pos.line X.env=pure T)(l:N[j]?=J y)(u:W[j]?=J y):zl X (.Assign [.Name y p] e pos) (qV j o i sa hi hj hz).m:=⟨nK c.g j l u h.h z⟩
end
def yW:MJ X "append" PU.j3.m:=⟨_,fR,gf,f9⟩
def yD:MJ X "extend" PU.ky.m:=⟨_,x4,yo,wJ⟩
def Ai:MJ X "insert" PU.yx.m:=⟨_,xF,xN,x6⟩
def Ic:MJ X "pop" PU.AQ.m:=⟨_,HP,HQ,Dv⟩
def Ie{f:CmpOp}{o:yX}(B:OJ X (compareOp f) o)(l:kx X a xa.m)(u:kx X b xb.m)(z:behindInMarks f b=T):Bj X (.Compare a [f] [b] pos) (xB (ad o xa xb)).m:=⟨yi B.h l.h u.h z⟩
def Ig(h:Bj X a ta.m):Bj X (.UnaryOp .Not a pos) (lY ta).m:=⟨xp h.h⟩
def Qw{f:BoolOp}(h:HV X (.BoolOp f es pos) ta.m):Bj X (.BoolOp f es pos) ta.m:=⟨MW.mt h.h⟩
def Ih(h:Bj X a ta.m):HV X (.BoolOp .And [a] pos) ta.m:=⟨Cu h.h⟩
def Mj(h:Bj X a ta.m):HV X (.BoolOp .Or [a] pos) ta.m:=⟨qQ h.h⟩
def w_and(h:Bj X a ta.m)(f:HV X (.BoolOp .And (b::es) pos) tb.m):HV X (.BoolOp .And (a::b::es) pos) (b9 ta tb).m:=⟨F6 h.h f.h⟩
def w_or(h:Bj X a ta.m)(f:HV X (.BoolOp .Or (b::es) pos) tb.m):HV X (.BoolOp .Or (a::b::es) pos) (BX ta tb).m:=⟨qm h.h f.h⟩
def Mk(h:kx X e xa.m)(l:∀f,isTrue e X.env f=(do let v <-f;standAt e.pos;holding [v] (truthy v))):Bj X e (HJ xa).m:=⟨Hg h.h l⟩
def Ml(h:kx X e xa.m)(l:∀f,isTrue e X.env f=(do let v <-f;standAt e.pos;holding [v] (truthy v))):Bj X e (xB xa).m:=⟨yk h.h l⟩
def Mm:Qf X [] (ka (ws:=ws)).m:=⟨nX⟩
def Mn(h:Bj X a ta.m):Qf X [a] ta.m:=⟨CQ h.h⟩
def Qx:NX X [] (Ax (ws:=ws)).m:=⟨tY⟩
def Qy{ga:Xg ws}{f:EN ws}(z:LP X e ga.m)(l:NX X es f.m)(u:(assignEach (e::es) X.env).map (·.2)=assign e X.env::(assignEach es X.env).map (·.2)):NX X (e::es) (t0 ga f).m:=⟨lC z.h l.h u⟩
def Mo(h:kx X a xa.m):LN X tg a (aT xa).m:=⟨yb h.h⟩
section
variable(c:Wc X P w K mg base N W k sc)
include c
def Qz{hi}(h:N[i]?=J x)(f:W[i]?=J x):LP X (.Name x pos) (i_ (ws:=ws) i hi).m:=⟨ug c.g i h f⟩
def QA{l:EN ws}{n:Nat}(h:NX X es l.m)(u:(assignEach es X.env).length=n)(f:(assignEach es X.env).findIdx? (·.1)=none):LP X (.Tuple es j pos) (Ay l n).m:=⟨wT c.g h.h u f⟩
def Mp(h:z_ X [a] sa.m)(z:Zn K "range")(l:gm sc "range")(f:br a=I):LN X tg (.Call (.Name "range" p) [a] [] pos) (bJ PU.vv sa).m:=⟨pf (c.g.gl _ l) (c.n z) h.h (aK f)⟩
end
structure CB(Y:Cx)(tg elt:Expr)(ifs:S3)(gt:Mg)(mt:Mx Bool)(me:Mx PV):Prop where
 g:LP Y tg gt
 t:Qf Y ifs mt
 e:kx Y elt me
section
variable{iter elt:Expr}{ifs:S3}{scope:Scope}{nv:Nat}{fm ws':SV}{xi:Xi ws}{gt:Xg ws'}{xt:Xt ws'}{xe:Xe ws'}{hw:PU.Bo nv fm ws=ws'}{hz:xe.fz=true}
abbrev R3(N:SQ)(tg:Expr)(nv:Nat)(fm:SV)(scope sc:Scope):Prop:=NV scope sc (EU tg) (JE N fm)/\(EU tg++JE N fm).Nodup/\(∀x∈HW (LM scope sc),scope.names.lookup x=J .globalImplicit)/\(∀x∈(EU tg++JE N fm)++HW (LM scope sc),(x==("__debug__":Str))=T/\(x==("__classdict__":Str))=T/\x≠"__name__")/\fm.map (λi=>N[i]?)=(JE N fm).map J/\(EU tg).length=nv
section
variable(c:Wc X P w K mg base N W k sc)
include c
def Ii(F:LN X tg iter xi.m)(f:∀Y:Cx,Wc Y P w K mg base (EU tg++JE N fm) (EU tg) k (LM scope sc)->CB Y tg elt ifs gt.m xt.m xe.m)(O:scope.kind=.function)(h:R3 N tg nv fm scope sc)(H:∀x,foldedSetIterable iter X.env x=pure x):kx X (.ListComp elt [⟨tg,iter,ifs,0⟩] scope pos) (aH nv fm xi gt xt xe hw hz).m:=by
 obtain⟨C,nd,B,dbg,L,rfl⟩:=h;exact⟨uZ c.g (kB c.s O L C) nd B dbg F.h (λY z l M E G u g=>let q:=f Y ⟨g,⟨z.trans c.e.e1,l.trans c.e.e2,M.trans c.e.e3,E.trans c.e.e4,G.trans c.e.e5,c.e.b⟩,u.trans (xQ c.s)⟩;⟨q.g.h,q.t.h,q.e.h⟩) H⟩
end
section
variable(c:Wc X P w K mg base N W k sc)(hsw:∀env:Env,env.scope=sc->swapsWith (.ListComp elt [⟨tg,iter,ifs,0⟩] scope pos) (some (.Name y p)) spos.line env=pure true)(hi:LN X tg iter xi.m)(hY:∀Y:Cx,Wc Y P w K mg base (EU tg++JE N fm) (EU tg) k (LM scope sc)->CB Y tg elt ifs gt.m xt.m xe.m)(hyi:N[i]?=some y)(hyw:W[i]?=some y)(h1:scope.kind=.function)(h:R3 N tg nv fm scope sc)(hs:∀x,foldedSetIterable iter X.env x=pure x)
include hsw hi hY c hyi hyw h1 h hs
def DL:zl X (.Assign [.Name y p] (.ListComp elt [⟨tg,iter,ifs,0⟩] scope pos) spos) (bf i (d6 nv fm xi.m gt.m xt.m xe.m)):=by
 try clear hw
 obtain⟨u,nd,f,dbg,B,rfl⟩:=h;exact⟨tQ c.g i hyi hyw (hsw X.env c.s) (kB c.s h1 B u) nd f dbg hi.h (λY G l C E z F g=>let q:=hY Y ⟨g,⟨G.trans c.e.e1,l.trans c.e.e2,C.trans c.e.e3,E.trans c.e.e4,z.trans c.e.e5,c.e.b⟩,F.trans (xQ c.s)⟩;⟨q.g.h,q.t.h,q.e.h⟩) hs⟩
def Ij{hi' hz'}:zl X (.Assign [.Name y p] (.ListComp elt [⟨tg,iter,ifs,0⟩] scope pos) spos) (bp i (aH nv fm xi gt xt xe hw hz) hi' hz').m:=DL c hsw hi hY hyi hyw h1 h hs
end
end
def QB:oI X [] (ia (ws:=ws)).m:=⟨fw⟩
def jv(h:zl X st da.m):oI X [st] da.m:=A3 h
def gv(l:zl X st da.m)(f:oI X rest db.m):oI X (st::rest) (aE da db).m:=v2 l f
def Mq(h:kx X e xa.m):zl X (.Return (J e) pos) (bR xa).m:=BW h
def Ik{hi}(h:kx X e (aa (ws:=ws) i).m):zl X (.Return (J e) pos) (mE (ws:=ws) i hi).m:=BW h
def Il(h:kx X e xa.m)(f:swapsWith e none pos.line X.env=pure T):zl X (.Expr e pos) (bZ xa).m:=⟨gT h.h f⟩
def QC(u:Bj X e ta.m)(f:oI X body da.m)(l:oI X rest db.m):zl X (.If e body rest pos) (pk ta da db).m:=⟨iD u.h f.h l.h⟩
section
variable(c:Wc X P w K mg base N W k sc)
include c
def Mr{l:Xi ws}{f:Xg ws}{hz}(z:LN X tg e l.m)(B:LP X tg f.m)(u:oI X body da.m)(C:∀x,foldedSetIterable e X.env x=pure x):zl X (.For tg e body [] pos) (gu l f da hz).m:=⟨nD c.g z.h B.h u.h C⟩
def QD{n hm}(l:Bj X e ta.m)(f:oI X body da.m):zl X (.While e body [] pos) (JB n ta da hm).m:=⟨zR c.g l.h f.h⟩
def Im{hi' hz}(u:kx X e xa.m)(f:swapsWith e (J (.Name x p)) pos.line X.env=pure T)(l:N[i]?=J x)(z:W[i]?=J x):zl X (.Assign [.Name x p] e pos) (gH i xa hi' hz).m:=⟨nK c.g i l z u.h f⟩
def Io{hi' hz}(l:∀env:Env,env.scope=sc->swapsWith e (J (.Name x p)) pos.line env=pure T)(u:kx X e xa.m)(f:N[i]?=J x)(z:W[i]?=J x):zl X (.Assign [.Name x p] e pos) (bp i xa hi' hz).m:=⟨nK c.g i f z u.h (l _ c.s)⟩
end
def Af{F:Fn}{f:Nat}{ws:SV}{B:Xd ws}{hw}(N:SQ)(b:Ba P w K mg base)(D:g_ K x st)(H:∀X:Cx,Wc X P w K mg base N N k (ah st)->ip X->oI X (aJ st) B.m)(C:F=cD N.length f B hw:=by rfl)(E:iS x st (N.take f):=by first | exact λ_ _ _ _ _ _=>Qc λ_=>rfl | exact λ_ _ _ _ _ _=>RY λ_ _=>rfl | exact λ_ _ _ _ _ _=>RZ λ_ _ _=>rfl | exact λ_ _ _ _ _ _=>R0 λ_ _ _ _=>rfl | exact λ_ _ _ _ _ _=>ar5 λ_ _ _ _ _=>rfl)(S:s_ N (N.take f) (ah st):=by exact⟨rfl,rfl,rfl,by decide +kernel,rfl,by decide +kernel,by decide +kernel⟩)(G:∀y∈N,(ah st).names.lookup y=J .local\/(ah st).names.lookup y=J .cell:=by decide +kernel)(l:∀y∈HW (ah st),(ah st).names.lookup y=J .globalImplicit:=by decide +kernel)(dbg:∀x∈N++HW (ah st),(x==("__debug__":Str))=T/\(x==("__classdict__":Str))=T/\x≠"__name__":=by decide +kernel)(z:(N.take f).length=f:=by rfl):
  FnAt P w K mg base x (N.take f) F.m (k+1):=by
 have q:=wO b.kin b.ns D S E G l dbg λX e1 e2 e3 e4 e5 u g L=>(H X ⟨g,⟨e1,e2,e3,e4,e5,b⟩,u⟩ L).h;rw[z]at q;subst C;exact q
end
end MM
namespace SetT
open PySem.SetTable PyProof.Rows
def dz(a:SS)(k:Int):SS:=if k∈a then a else a++[k]
def cw(l:SS):SS:=l.foldl dz []
def yu{l:SS}{i:Nat}{k:Int}(h:l[i]?=J k):cw (l.take (i+1))=dz (cw (l.take i)) k:=by rw[Fj,h];unfold cw;rw[Nd];rfl
def zj(l:SS):∀a:SS,(l.foldl dz a).length<=a.length+l.length:=by
 induction l with
 |nil=>intro a;exact iv _
 |cons k l f =>
  intro a
  have:=f (dz a k)
  have e:(dz a k).length<=a.length+1:=by unfold dz;split<;>simp
  rw[JV,AU];lia
def DM(l:SS):(cw l).length<=l.length:=by have:=zj l [];simpa [cw]using this
def Lw(ns:SS):Prop:=∀n∈ns,0<=n/\n<12
abbrev tn(p:Int×Tok):Nat:=p.1.toNat
def BJ:SV->List (SV)
 |[]=>[[]]
 |a::r=>BJ r++(BJ r).map (a::·)
def zA{l r:SV}(h:l.Sublist r):l∈BJ r:=by
 induction h with
 |slnil=>simp[BJ]
 |cons a _ f=>exact vK _ f
 |cons_cons a _ f=>exact pu _ (k6.mpr ⟨_,f,rfl⟩)
def lr:∀(m a:Nat)(l:SV),l.Pairwise (·<·)->(∀x∈l,a<=x/\x<a+m)->l.Sublist (List.range' a m)
 |_,_,[],_,_=>List.nil_sublist _
 |0,a,x::l,_,h=>by have:=h x (by simp);lia
 |m+1,a,x::l,i,h=>by
  have j:=h x (by simp);by_cases e:x=a
  .subst e
   exact (lr m (x+1) l (Bl.mp i).2 λy f=>by
    have:=(Bl.mp i).1 y f
    have:=h y (by simp[f])
    lia).cons_cons x
  .exact (lr m (a+1) (x::l) i λy f=>by
    have:=h y f
    rcases j_.mp f with rfl|f
    .lia
    .have:=(Bl.mp i).1 y f;lia).cons a
def QE(f v:Nat)(l p:Bool):Bool:=((BJ (List.range' 0 8)).filter (·.length<=4)).all λa=>(List.range 12).all λk=>match SetTable.freeSlot ⟨7,a.toArray,#[],f,l,v,p⟩ (hashInt (k:Nat)) with
 |some (j,T)=>decide (j<=7) && !a.contains j
 |_=>T
set_option maxHeartbeats 8000000 in
theorem Ip(f v:Nat)(l p:Bool):QE f v l p=I:=by kernel_rfl
def DN{xs:Array Nat}(h:dh xs):xs.toList.Pairwise (·<·) :=
 Jc.mpr λi j f l a=>h i j _ _ a (by simp) (by simp)
def uP{xs:Array Nat}{j:Nat}:yS xs j↔j∈xs.toList:=by unfold yS;rw[zt];simp
def oZ{k:Int}(h:0<=k/\k<12):∃n:Nat,k=n/\n<12:=⟨k.toNat,⋯,⋯⟩
def Ms{t:SetTable}{k:Int}(u:t.mask=7)(hd:t.dummies=#[])(B:dh t.place)(y:t.place.size<=4)(G:∀x∈t.place.toList,x<=7)(C:0<=k/\k<12):
  ∃j,t.freeSlot (hashInt k)=J (j,T)/\j<=7/\¬yS t.place j:=by
 obtain⟨n,rfl,F⟩:=oZ C;obtain⟨m,E,d,f,l,v,p⟩:=t;subst u hd;have c:=Ip f v l p;have i:=Jh.mp c E.toList (As.mpr ⟨zA (lr 8 0 _ (DN B) λx z=>by have:=G x z;lia),by simpa using y⟩);have a:=Jh.mp i n (A9.mpr F)
 split at a
 .rename_i j e
  simp only[Jf,decide_eq_true_eq,Fa,List.contains_eq_mem,decide_eq_false_iff_not]at a;exact⟨j,e,a.1,λo=>a.2 (uP.mp o)⟩
 .cases a
def rg{n:Nat}(a:n<12):bits (hashInt n)=n:=by
 have:n=0\/n=1\/n=2\/n=3\/n=4\/n=5\/n=6\/n=7\/n=8\/n=9\/n=10\/n=11:=by lia
 rcases this with rfl|rfl|rfl|rfl|rfl|rfl|rfl|rfl|rfl|rfl|rfl|rfl<;>decide
def Iq{t:SetTable}{n:Nat}(i:t.mask=31)(hd:t.dummies=#[])(f:n<12)(a:¬yS t.place n):t.freeSlot (hashInt n)=J (n,T):=by unfold SetTable.freeSlot SetTable.probe SetTable.probeStart turns;rw[rg f,i,Nat.mod_eq_of_lt ⋯];unfold SetTable.probe.go;rw[mQ t hd n a];rfl
def Ir(ns:SV)(F:∀n∈ns,n<12)(hd:ns.Nodup):∃ow:Array (S8),layClean 31 (ns.map λn:Nat=>hashInt n).toArray=J ow/\ow.size=32/\∀j i:Nat,ow[j]?=J (J i)↔ns[i]?=J j:=by
 suffices H:∃ow:Array (S8),(ns.map λn:Nat=>hashInt n).foldl (init:=J (Array.replicate 32 Y,0)) (λy h=>do
  let(owner,k) <-y
  let j <-layClean.free 31 owner (turns 31) (bits h % (31+1)) (bits h)
  pure (owner.setIfInBounds j (J k),k+1))=J (ow,ns.length)/\ow.size=32/\∀j i:Nat,ow[j]?=J (J i)↔ns[i]?=J j by
  obtain⟨ow,e,r⟩:=H;refine⟨ow,?_,r⟩;unfold layClean;rw[List.foldl_toArray];exact congrArg (Option.map (·.1)) e
 generalize f:ns.length=l
 induction l generalizing ns with
 |zero =>
  cases E5.mp f;refine⟨_,rfl,by simp,λj i=>?_⟩;simp[Q4]
 |succ l M =>
  obtain Q|⟨ns,k,rfl⟩:=List.eq_nil_or_concat ns
  .rw[Q]at f;cases f
  rw[List.concat_eq_append]at *;have C:ns.length=l:=by simpa using f
  subst C;obtain⟨u,_,B⟩:=A4.mp hd;obtain⟨ow,e,z,r⟩:=M ns (λn h=>F n (by simp[h])) u rfl;have L:k<12:=F k (by simp);have a:k∉ns:=λh=>B k h k (by simp) rfl;have P:ow[k]?=J Y:=by
   cases q:ow[k]? with
   |none=>simp at q;lia
   |some x =>
    cases x with
    |none=>rfl
    |some i=>exact absurd (AC ((r k i).mp q)) a
  refine⟨ow.setIfInBounds k (J ns.length),?_,by simpa using z,λj i=>?_⟩
  .rw[Bv,Nd,e]
   show (do
    let j <-layClean.free 31 ow (turns 31) (bits (hashInt k) % (31+1)) (bits (hashInt k))
    pure (ow.setIfInBounds j (J ns.length),ns.length+1))=_
   have:layClean.free 31 ow (turns 31) (bits (hashInt k) % (31+1)) (bits (hashInt k))=J k:=by rw[rg L,Nat.mod_eq_of_lt ⋯,show turns 31=45+1 by rfl];unfold layClean.free;obtain⟨m,G⟩:∃m,runEnd 31 k+1-k=m+1:=⟨runEnd 31 k-k,by unfold runEnd;split<;>lia⟩;rw[G,Oh,List.find?_cons];simp[P]
   rw[this];simp
  .rw[Array.getElem?_setIfInBounds];by_cases q:k=j
   .subst q;simp only[if_true,z];rw[b_ ⋯];constructor
    .intro h;cases h;simp
    .intro h;by_cases E:i<ns.length
     .rw[vj E]at h;exact absurd (AC h) a
     .by_cases O:i=ns.length
      .rw[O]
      .rw[Br (by simp;lia)]at h;cases h
   .rw[c_ q,r j i];by_cases E:i<ns.length
    .rw[vj E]
    .rw[Br ⋯,AX ⋯];constructor
     .intro h;cases h
     .intro h;rw[List.getElem?_singleton]at h
      split at h
      .cases h;exact absurd rfl q
      .cases h
def Is(l:List (Int×Tok))(F:Array (Int×Value))(G:F.toList=l.map λp=>(hashInt p.1,Value.int p.1 p.2))(hl:Lw (l.map (·.1)))(hd:(l.map (·.1)).Nodup)(fin mv:Nat)(led C:Bool):
  ∃(B:Array Nat)(P:List (Int×Tok)),laid 31 fin mv led C (F.map (·.1))=J ({ mask:=31,place:=(P.map tn).toArray,dummies:=#[],finger:=fin,led:=led,moves:=mv,plain:=C},B)
   /\ B.toList.Perm (List.range F.size)/\(B.filterMap (F[·]?)).toList=P.map (λp=>(hashInt p.1,Value.int p.1 p.2))/\P.Perm l/\(P.map tn).Pairwise (·<·):=by
 have Q:∀p∈l,0<=p.1/\p.1<12:=λp E=>hl p.1 (k6.mpr ⟨p,E,rfl⟩);have e0:F.map (·.1)=((l.map tn).map λn:Nat=>hashInt n).toArray:=by
  apply Bu.mp;rw[Oq,G,xg,xg];exact E9 λp E=>by
   have:=Q p E
   show hashInt p.1=hashInt ((p.1.toNat:Nat):Int);rw[Int.toNat_of_nonneg this.1]
 have nd:(l.map tn).Nodup:=by rw[Q1,A5]at hd ⊢;exact hd.imp_of_mem λ{a b} X M h q=>h (by have:=Q a X;have:=Q b M;have q:a.1.toNat=b.1.toNat:=q;lia)
 obtain⟨ow,e1,z,r⟩:=Ir (l.map tn) (λn h=>by obtain⟨p,E,rfl⟩:=k6.mp h;have:=Q p E;show p.1.toNat<12;lia) nd;have L:F.size=l.length:=by rw[<-wh,G,oh]
 let f:Nat->Option (Nat×Nat):=λj=>(ow.getD j Y).map (j,·)
 have hf:∀j x,f j=J x->x.1=j/\(l.map tn)[x.2]?=J x.1:=λj x h=>by
  have h:(ow.getD j Y).map (j,·)=J x:=h;rw[QZ]at h
  cases q:ow[j]? with
  |none=>rw[q]at h;cases h
  |some y =>
   cases y with
   |none=>rw[q]at h;cases h
   |some i=>rw[q]at h;cases h;exact⟨rfl,(r j i).mp q⟩
 have O:=(Oi (n:=32)).filterMap f (S:=λa b:Nat×Nat=>a.1<b.1) λa a' H b M b' W=>by rw[(hf a b M).1,(hf a' b' W).1];exact H
 have mem:∀x,x∈(List.range 32).filterMap f↔(l.map tn)[x.2]?=J x.1:=λx=>by
  rw[BS];constructor
  .rintro⟨j,_,h⟩;exact(hf j x h).2
  .intro h;have q:=(r x.1 x.2).mpr h;have H:x.1<ow.size:=by rw[Jb]at q;exact q.1
   refine⟨x.1,A9.mpr ⋯,?_⟩;show(ow.getD x.1 Y).map (x.1,·)=_;rw[QZ,q];rfl
 generalize hL:(List.range 32).filterMap f=u at O mem;have U:(u.map (·.2)).Perm (List.range F.size):=by
  refine(Q0 ?_ JS).mpr λi=>?_
  .rw[Q1,A5];exact O.imp_of_mem λ{a b} X M h q=>by
    have Z:=(mem a).mp X;rw[q,(mem b).mp M]at Z
    have:=Option.some.inj Z
    lia
  .rw[k6,A9,L];constructor
   .rintro⟨x,R,rfl⟩
    have:=(r_.mp ((mem x).mp R)).1
    simpa using this
   .intro h;exact⟨((l.map tn)[i]'(by simpa using h),i),(mem _).mpr (AY _),rfl⟩
 have gl:∀x∈u,∃p,l[x.2]?=J p/\tn p=x.1:=λx R=>by
  have:=(mem x).mp R
  rw[wl,y_]at this;exact this
 have e3:((u.map (·.2)).filterMap (l[·]?)).map tn=u.map (·.1):=by
  clear U O mem hL
  induction u with
  |nil=>rfl
  |cons x u ih =>
   obtain⟨p,E,e⟩:=gl x (by simp);rw[mO,JM,E,mO,mO,e,ih λy hy=>gl y (by simp[hy])]
 refine⟨(u.map (·.2)).toArray,(u.map (·.2)).filterMap (l[·]?),?_,U,?_,?_,?_⟩
 .rw[e0];unfold laid;rw[e1];show J (_,_)=J (_,_);show J (({ mask:=31,place:=(((List.range 32).filterMap f).map (·.1)).toArray,dummies:=#[],finger:=fin,led:=led,moves:=mv,plain:=C}:SetTable),(((List.range 32).filterMap f).map (·.2)).toArray)=_;rw[hL,e3]
 .rw[Array.toList_filterMap,List.map_filterMap];refine congrArg (List.filterMap · _) (funext λi=>?_);rw[<-v_,G,wl]
 .have:=U.filterMap (l[·]?)
  rw[L]at this;refine this.trans (List.Perm.of_eq ?_)
  have:=gA l.toArray
  simpa using this
 .rw[e3,A5];exact O
section
variable{prog:Program}{w:World}{A:Around}{E:S5}{s:Shared}
def IS(prog:Program)(w:World)(S:Addr)(ns:SS)(h:Heap):Prop :=
 ∃o a f t,h.get? S=J o/\o.ExactSet/\o.data=.set a f t/\t.dummies=#[]/\t.plain=I/\t.led=aW w/\dh t.place/\t.place.size=a.size/\∃l:List (Int×Tok),a.toList=l.map (λp=>(hashInt p.1,Value.int p.1 p.2))/\(l.map (·.1)).Perm ns/\ns.Nodup/\Lw ns /\
  (t.mask=7/\a.size<=4/\(∀x∈t.place.toList,x<=7)\/t.mask=31/\t.place.toList=l.map tn)
def kf{S:Addr}{ns:SS}{f a:Heap}(p:IS prog w S ns f)(k:∀o,f.get? S=J o->a.get? S=J o):IS prog w S ns a:=by obtain⟨o,j,l,t,i,r⟩:=p;exact⟨o,j,l,t,k o i,r⟩
def oo{ns:SS}(h:Lw ns)(hd:ns.Nodup):ns.length<=12:=by
 have:=List.Nodup.length_le_of_subset hd λx f=>by
  obtain⟨n,rfl,a⟩:=oZ (h x f);exact k6.mpr ⟨n,A9.mpr a,rfl⟩
 simpa using this
def zm{l:List (Int×Tok)}:ElemsOf (intKind prog w) (l.map (λp=>(hashInt p.1,Value.int p.1 p.2))):=λe a=>by
 obtain⟨p,_,rfl⟩:=k6.mp a;exact⟨⟨p.1,intKind_is _ _ _ _,rfl⟩,rfl⟩
def tj{a:Array (Int×Value)}{l:List (Int×Tok)}(e:a.toList=l.map (λp=>(hashInt p.1,Value.int p.1 p.2)))(p:Nat)(k:Int)(f:Tok):
  (insertAt a p (hashInt k,.int k f)).toList=(l.take p++(k,f)::l.drop p).map (λp=>(hashInt p.1,Value.int p.1 p.2)):=by
 rw[SetTable.toList_insertAt,e,<-OB,<-OC,Bv,mO]
def QF{S:Addr}{ns:SS}{k:Int}{H:Tok}{Q:Bool->Shared->Prop}(a9:IS prog w S ns s.heap)(R:0<=k/\k<12)(h:∀b h',Heap.SameBut S s.heap h'->IS prog w S (dz ns k) h'->Q b { s with heap:=h'}):
  wpAny (model prog w) A (setAddHashed S (.int k H) (hashInt k)) Q E s:=by
 obtain⟨o,F,ep,t,ho,a6,hd,G,ay,an,ax,a0,l,hl,P,bi,as,O⟩:=id a9;have b5:F.size=ns.length:=by rw[<-wh,hl,oh,<-P.length_eq,oh]
 have ch:=oo as bi;have a5:F.size<=t.mask:=by rcases O with⟨e,_,_⟩|⟨e,_⟩<;>lia
 have hf:t.fits F.size=I:=by unfold SetTable.fits SetTable.fill;simp[a0,G];exact a5
 have a7:ElemsOf (intKind prog w) F.toList:=by rw[hl];exact zm
 have AV:F.size<scanBound:=by unfold scanBound;lia
 refine wpAny_holding (d_ (wpAny_setState_of ho hd hf ?_));dsimp only;rw[byScan_of (knd:=intKind prog w) (show(Value.int k H).scannable=I from rfl) AV a7];refine d_ ?_;refine d_ (wpAny_rule ?_);refine d_ (wpAny_setScan_of (knd:=intKind prog w) (k:=k) (intKind_is _ _ _ _) ho hd hf a7 ?_)
 cases hq:List.findIdx? (λe=>(intKind prog w).is k e.2) F.toList with
 |some j =>
  obtain⟨hj,a2,_⟩:=List.findIdx?_eq_some_iff_getElem.mp hq;have hk:k∈ns:=by
   refine P.mem_iff.mp ?_;obtain⟨p,hp,e⟩:=k6.mp (show F.toList[j]∈l.map (λp=>(hashInt p.1,Value.int p.1 p.2))from(congrArg (F.toList[j]∈·) hl).mp (Ov hj));refine k6.mpr ⟨p,hp,?_⟩;have e2:(F.toList[j]).2=Value.int p.1 p.2:=by rw[<-e]
   rw[e2]at a2;exact(intKind prog w).inj _ _ _ (intKind_is _ _ _ _) a2
  refine il (il ?_)
  have:=h T s.heap (Heap.SameBut.refl _ _)
  unfold dz at this;rw[b_ hk]at this;exact this a9
 |none =>
  dsimp only;have hk:k∉ns:=λhk=>by
   obtain⟨p,hp,e⟩:=k6.mp (P.mem_iff.mpr hk)
   have:=List.findIdx?_eq_none_iff.mp hq (hashInt p.1,Value.int p.1 p.2) (by rw[hl];exact k6.mpr ⟨p,hp,rfl⟩)
   rw[e,intKind_is]at this;cases this
  have hj:∃j,t.freeSlot (hashInt k)=J (j,T)/\¬yS t.place j/\(t.mask=7/\j<=7\/t.mask=31/\j=k.toNat):=by
   rcases O with⟨e,h4,h7⟩|⟨e,hp⟩
   .obtain⟨j,a,b,c⟩:=Ms e G ax ⋯ h7 R;exact⟨j,a,c,.inl ⟨e,b⟩⟩
   .obtain⟨n,rfl,hn⟩:=oZ R;have Z:¬yS t.place n:=λo=>by
     rw[uP,hp]at o;obtain⟨p,bm,e'⟩:=k6.mp o;have m:=P.mem_iff.mp (k6.mpr ⟨p,bm,rfl⟩)
     have:=as _ m
     have e':p.1.toNat=n:=e';exact hk (by rw[show(n:Int)=p.1 by lia];exact m)
    exact⟨n,Iq e G hn Z,Z,.inr ⟨e,rfl⟩⟩
  obtain⟨j,ap,Z,ca⟩:=hj;have hp:=(cZ t.place j ax).1;have W:=ce F (below t.place j) (hashInt k,Value.int k H) ⋯;have a4:=ce t.place (below t.place j) j hp;have b3:=rP t.place j ax Z;have U:=tj hl (below t.place j) k H;have b0:(insertAt t.place (below t.place j) j).toList=t.place.toList.take (below t.place j)++j::t.place.toList.drop (below t.place j):=SetTable.toList_insertAt _ _ _;have a8:t.put j=({ t with place:=insertAt t.place (below t.place j) j},below t.place j):=by unfold SetTable.put;simp only[G,oA,n_,if_false]
  generalize cn:below t.place j=b at *;have B:((l.take b++(k,H)::l.drop b).map (·.1)).Perm (ns++[k]):=by
   have a:(l.take b++(k,H)::l.drop b).Perm (l++[(k,H)]):=by have h1:=Ji (a:=(k,H)) (l₁:=l.take b) (l₂:=l.drop b);rw[BQ]at h1;exact h1.trans (N_ _ l).symm
   have b:=a.map (·.1);rw[Bv (l₁:=l)]at b;exact b.trans (P.append_right [k])
  have M:(ns++[k]).Nodup:=by
   rw[A4];refine⟨bi,by simp,λx C y hy=>?_⟩
   have:y=k:=by simpa using hy
   subst this;rintro rfl;exact hk C
  have L:Lw (ns++[k]):=λx C=>by
   rcases nw.mp C with C|C
   .exact as x C
   .rw[AD.mp C];exact R
  have b2:=oo L M;rw[zv,M9]at b2;have am:t.mask=7/\F.size<=4/\(∀x∈(insertAt t.place b j).toList,x<=7)\/t.mask=31/\(insertAt t.place b j).toList=(l.take b++(k,H)::l.drop b).map tn:=by
   rw[b0];rcases O with⟨e,h4,h7⟩|⟨e,hp⟩
   .refine .inl ⟨e,h4,λx C=>?_⟩;rcases nw.mp C with C|C
    .exact h7 x (JL C)
    .rcases j_.mp C with rfl|C
     .lia
     .exact h7 x (Oj C)
   .refine .inr ⟨e,?_⟩;rw[hp,Bv,mO,OB,OC,show j=tn (k,H) by show j=k.toNat;lia]
  generalize b4:insertAt F b (hashInt k,Value.int k H)=i at W U;generalize cb:insertAt t.place b j=u at *;generalize cc:l.take b++(k,H)::l.drop b=l1 at B U am;have cd:i.size<=t.mask:=by rcases O with⟨e,_,_⟩|⟨e,_⟩<;>lia
  have a3:({ t with place:=u}:SetTable).fits i.size=I:=by unfold SetTable.fits SetTable.fill;simp[a4,W,a0,G];lia
  have be:layNew t F (hashInt k) (.int k H)=(i,{ t with place:=u},T,T):=by unfold layNew;rw[ap];dsimp only;rw[a8];dsimp only;rw[b4];unfold SetTable.orStandIn;rw[b_ a3,a3];rfl
  rw[be];dsimp only;refine d_ (il (a:=()) ?_);rw[b_ ay];refine d_ ?_;rw[hashByValue_scannable 8 (show(Value.int k H).scannable=I from rfl)];refine il ?_;rw[b_ (by rfl)];refine d_ (wpAny_storeSet_of ho hd ?_ (by rw[W,sizeLine_eq];lia));have sb:=Heap.SameBut.update s.heap S (Obj.putSet i { t with place:=u});have hg:=iu (es':=i) (t':={ t with place:=u}) ho hd;have b1:dz ns k=ns++[k]:=by unfold dz;rw[c_ hk]
  rw[b1]at h;have X:({ t with place:=u}:SetTable).fill=F.size+1:=by unfold SetTable.fill;show u.size+t.dummies.size=_;rw[G,a4,a0];rfl
  by_cases f:({ t with place:=u}:SetTable).tooFull=I
  .have ab:(F.size+1)*5>=t.mask*3:=by
    unfold SetTable.tooFull at f;rw[X]at f;simpa using f
   rw[b_ (by rw[f];rfl)];have b6:t.mask=7:=by rcases O with⟨e,_,_⟩|⟨e,_⟩<;>lia
   have h5:i.size=5:=by rcases O with⟨e,_,_⟩|⟨e,_⟩<;>lia
   obtain⟨z,l2,e1,p2,al,a1,bj⟩:=Is l1 i U (λx C=>L x (B.mem_iff.mp C)) (B.nodup_iff.mpr M) t.finger (({ t with place:=u}:SetTable).movedTo 31) t.led t.plain;have z1:(z.filterMap (i[·]?)).size=i.size:=by rw[<-wh,al,oh,a1.length_eq,<-wh,U,oh]
   have bq:relayAll { t with place:=u} i (SetTable.grown i.size)=(z.filterMap (i[·]?),{ mask:=31,place:=(l2.map tn).toArray,dummies:=#[],finger:=t.finger,led:=t.led,moves:=({ t with place:=u}:SetTable).movedTo 31,plain:=t.plain},T):=by
    unfold relayAll SetTable.relaid;rw[h5,EI,show 32-1=31 from rfl];show(match laid 31 t.finger _ t.led t.plain (i.map λe=>e.1)with | some (t',z)=>_ | none=>_)=_;rw[e1];dsimp only;rw[h5]at p2 z1;rw[b_];have c1:coversAll z 5=I:=by unfold coversAll;exact List.isPerm_iff.mpr p2
    have c2:l2.length=5:=by rw[<-z1,<-wh,al,oh]
    rw[c1,Bool.true_and,z1];unfold SetTable.fits SetTable.fill;simp[c2]
   rw[bq];dsimp only;refine d_ (il (a:=()) ?_);refine d_ (wpAny_storeSet_of hg rfl ?_ (by rw[z1,W,sizeLine_eq];lia));refine il (il (h I _ (sb.trans (Heap.SameBut.update _ _ _)) ?_));refine⟨_,_,_,_,iu hg rfl,a6,rfl,rfl,ay,an,uK bj,?_,l2,al,(a1.map (·.1)).trans B,M,L,.inr ⟨rfl,rfl⟩⟩;rw[<-wh (xs:=Array.filterMap _ _),al];simp
  .have ab:(F.size+1)*5<t.mask*3:=by
    unfold SetTable.tooFull at f;rw[X]at f;simpa using f
   rw[c_ (by simpa using f)];refine il (il (h I _ sb ⟨_,_,_,_,hg,a6,rfl,G,ay,an,b3,by rw[W];show u.size=_;lia,_,U,B,M,L,?_⟩));rcases am with⟨e,_,h7⟩|q
   .exact .inl ⟨e,⋯,h7⟩
   .exact .inr q
def yz{h:Heap}{S:Addr}(f:h.get? S=J (cA (aW w))):IS prog w S [] h :=
 ⟨_,#[],0,.fresh 0 0 (aW w),f,⟨rfl,rfl,rfl⟩,rfl,rfl,rfl,rfl,λa b u v _ i=>by simp[SetTable.fresh]at i,rfl,[],rfl,List.Perm.nil,Ni,(λ_ h=>nomatch h),.inl ⟨rfl,by simp,λx h=>by simp[SetTable.fresh]at h⟩⟩
def rA{R:Result->Shared->Prop}{l:Addr}{fp M:SX}{G:Array GenState->Array GenState->Prop}{n:Nat}{P:Nat->Value->Prop}{St:Nat->Shared->Prop}(W:WalksS prog w A.in1 l fp M G n P St)(S:Addr)(H:S∉fp)(ns:SS)(hn:ns.length=n)(C:∀i v k,P i v->ns[i]?=J k->∃t,v=.int k t)(Z:Lw ns):
  ∀(c i:Nat)(s:Shared),n-i=c->i<=n->St i s->IS prog w S (cw (ns.take i)) s.heap ->
   (∀a,Moved (S::M) G s a->IS prog w S (cw ns) a.heap->R (.ok (.ret .none)) a) ->
   codeAny (model prog w) A (.builtin "set.update.loop" ⟨[.ref S,.ref l],[]⟩) R s:=by
 have y:S∉M:=λh=>H (W.sub _ h);have f:∀b∈M,b∈S::M:=λb O=>nt _ O;intro c
 induction c with
 |zero =>
  intro i s hc hi u X j;have e:i=n:=by lia
  subst e;refine codeAny_builtin F.entry_set_update_loop ?_;refine d_ (W.done s _ _ u λa z=>?_);rw[<-hn,Jj]at X;exact il (j a (z.mono f) (kf X λo e=>z.heap S o y e))
 |succ c ih =>
  intro i s hc hi u X j;have B:i<n:=by lia
  refine codeAny_builtin F.entry_set_update_loop ?_;rw[Around.under_plainId F.plain_set_update_loop _];show wpAny _ A.in1 (pyNext (.ref l) >>= _) _ _ s;refine d_ (W.item i s _ _ B u λv a hP L z=>?_);obtain⟨k,hk⟩:∃k,ns[i]?=J k:=⟨_,AY ⋯⟩;obtain⟨t,rfl⟩:=C i v k hP hk;have ab:=kf X λo e=>z.heap S o y e;show wpAny _ A.in1 (holding [Value.int k t] (setAdd S (.int k t)) >>= _) _ _ a;refine d_ (wpAny_holding ?_);unfold setAdd;refine wpAny_holding ?_;refine d_ ((intKind prog w).pyHash (k:=k) (intKind_is _ _ _ _) ?_);refine QF (s:={ a with toks:=a.toks+1}) ab (Z k (AC hk)) λb h' sb U=>?_;rw[<-yu hk]at U;refine il ⟨plainId_quiet F.plain_set_update_loop _,ih (i+1) _ ⋯ B (W.frame _ a _ _ L (B4 _) λb O o e=>?_) U λam Q al=>?_⟩
  .exact (sb.2 b (λq:b=S=>H (by rw[<-q];exact O))).trans e
  .refine j am (Moved.trans W.gtrans ((z.mono f).then_heap (B4 _) λb o O e=>?_) Q) al;exact(sb.2 b (λq:b=S=>O (by rw[q];exact mu))).trans e
set_option maxHeartbeats 3200000 in
theorem qf{l:Addr}{items:Array Value}{ns:SS}{Q:S5}(hh:A.handled=Y)(hl:s.heap.IsList l items)(hI:IntsAre items.toList ns)(al:Lw ns)(h:∀(f:Heap)(Z:Nat),IS prog w s.heap.objs.size (cw ns) f->zx s.heap f->Q (.ref s.heap.objs.size) { s with heap:=f,toks:=Z}):
  wpAny (model prog w) A (call (.type "set") [.ref l]) Q E s:=by
 obtain⟨c,tl,a5⟩:=PySem.F.called_set.mro;have as:=PySem.F.called_set.made;have a4:=PySem.F.called_set.sub;refine wpAny_call (codeAny_of_tree ?_);show wpAny _ _ (callAny (.type "set") _) _ _ _;refine il ⟨Code.quiet_builtin _ (by decide +kernel),codeAny_builtin PySem.F.entry_type_call ?_⟩;rw[Around.under_plain (weight_type_call_type "set" [.ref l] []) rfl];have h1:=PySem.F.called_set.notType;have h2:=PySem.F.called_set.canCreate;have a9:=PySem.F.typeCall_set_1 (.ref l)
 repeat (any_goals (first | assumption | wp_step))
 refine codeAny_mono (qT (.ref l) (E:=E) (Q₁:=λobj u=>obj=.ref s.heap.objs.size/\u={ s with heap:=s.heap.push (cA (aW w))}) ⟨rfl,rfl⟩) λr u hr=>?_
 cases r with
 |error e=>exact hr
 |ok fl =>
  cases fl with
  |ret obj =>
   obtain⟨rfl,rfl⟩:=hr;have hS:(s.heap.push (cA (aW w))).get? s.heap.objs.size=J (cA (aW w)):=yM _ rfl;have hT:Shared.TypeIs { s with heap:=s.heap.push (cA (aW w))} (.ref s.heap.objs.size) "set":=⟨_,hS,rfl⟩;have bj:=PySem.F.called_set.init.lookup;have be:=PySem.F.called_set.init.bind (.ref s.heap.objs.size)
   repeat (any_goals (first | assumption | wp_step))
   refine codeAny_mono (codeAny_call_builtin (R:=wants (λr y=>r=.none/\∃f Z,y={ s with heap:=f,toks:=Z} /\
     IS prog w s.heap.objs.size (cw ns) f/\zx s.heap f) E) PySem.F.called_set.init.plain PySem.F.entry_set_init (check_set_init_1 hT ?_)) λP y a=>?_
   .have bi:=hl;obtain⟨ol,G,L,nl,S⟩:=hl;obtain⟨a3,z,an,j⟩:=ol;simp only at L S;subst L;subst S;have U:(s.heap.push (cA (aW w))).get? l=J { cls:=.type "list",dict:=z,data:=.seq items nl,slots:=j}:=n6 _ G;have a6:=PySem.F.sub_list_set;have a7:=PySem.F.sub_list_frozenset;have a8:(Value.type "list" == Value.type "dict")=T:=by decide
    have W:(s.heap.push (cA (aW w))).IsList l items:=⟨_,U,rfl,nl,rfl⟩;unfold Builtin.«set.__init__» noKeywords Builtin.Frozenset.updateFrom;generalize ap:pyIter=PI
    wp_walk
    subst ap;refine wpAny_pyIter_list W ?_;refine d_ (wpAny_runValue ?_);have O:l<s.heap.objs.size:=nj G;have a0:A.in1.in1.in1.handled=Y:=by simp[hh]
    have B:(s.heap.push (cA (aW w))).objs.size=s.heap.objs.size+1:=by rw[Fi]
    have H:l≠(s.heap.push (cA (aW w))).objs.size:=by rw[B];exact sv (Fb O)
    have a1:s.heap.objs.size∉[(s.heap.push (cA (aW w))).objs.size,l]:=by rw[B];simp only[j_,Bs,or_false,not_or];exact⟨sv (Jg _),Jm O⟩
    have M:ns.length=items.size:=by have:=IntsAre.length hI;rw[wh]at this;exact this.symm
    refine rA ((Walks.list a0 _ l H items).toS) s.heap.objs.size a1 ns M
     (λi v k hv ay=>by
      obtain⟨t,e⟩:=IntsAre.int_at hI i v (by rw[v_];exact hv);rw[List.getD_eq_getElem?_getD,ay]at e
      exact⟨t,e⟩) al (items.size-0) 0 _ ⋯ (u0 _) ⟨⟨_,yM _ rfl,rfl,rfl⟩,(W.push _)⟩ ?_ ?_
    .exact yz (n6 _ hS)
    .intro s' X C;obtain⟨f,g',d',am,ax⟩:=s';have eg:g'=s.gens:=X.gens;have ed:d'=s.drawn:=X.drawn;have eo:ax=s.os:=X.os;subst eg;subst ed;subst eo;show wpAny _ _ _ _ _ _;refine il ?_;show wpAny _ _ (ret Value.none) _ _ _;refine il ⟨rfl,f,am,rfl,C,λb o e=>?_⟩;have hb:=nj e;have ab:b≠s.heap.objs.size:=sv hb;have a2:b≠(s.heap.push (cA (aW w))).objs.size:=by rw[B];exact sv (Fb hb)
     exact X.heap b o (by simp only[j_,Bs,or_false,not_or];exact⟨ab,a2⟩) (n6 _ (n6 _ e))
   .cases P with
    |error e=>exact a
    |ok F =>
     cases F with
     |ret r =>
      obtain⟨rfl,f,Z,rfl,C,hx⟩:=a
      repeat (any_goals (first | assumption | wp_step))
      exact h _ _ C hx
     |_=>exact a.elim
  |_=>exact hr.elim
def DO(l:List (Int×Tok)):IntsAre (l.map λp=>Value.int p.1 p.2) (l.map (·.1)):=by
 induction l with
 |nil=>exact .nil
 |cons p l a=>exact .cons p.1 p.2 a
def qL{S:Addr}{ns:SS}{Q:SH->Shared->Prop}(hh:A.handled=Y)(C:IS prog w S ns s.heap)(hQ:∀j G W f,zx s.heap j->s.heap.objs.size<j.objs.size->IntsAre W f->f.Perm ns->Q W { s with heap:=j,toks:=G}):
  wpAny (model prog w) A (collect (.ref S)) Q E s:=by
 obtain⟨o,F,U,t,ho,R,hd,L,O,a,B,P,l,Z,i,M,z,H⟩:=id C;have ab:F.size=ns.length:=by rw[<-wh,Z,oh,<-i.length_eq,oh]
 have al:=oo z M;refine km hh ⟨R,hd,L,O,a,B,P,by rcases H with⟨e,_,_⟩|⟨e,_⟩<;>lia⟩ ho (by rw[sizeLine_eq];lia) λj G e1 e3 e2=>?_;have u:=fS w S U F;generalize (bW w S U F).toList=x at u ⊢;rw[Z]at u;have ex:x=(x.map λe=>(match e.2 with|.int k t=>(k,t)|_=>((0:Int),(0:Tok)))).map (λp=>(hashInt p.1,Value.int p.1 p.2)):=by
  rw[xg]
  conv=>lhs;rw[<-List.map_id x]
  refine E9 λy hy=>?_;obtain⟨p,_,rfl⟩:=k6.mp (u.mem_iff.mp hy);rfl
 have X:(x.map λe=>(match e.2 with|.int k t=>(k,t)|_=>((0:Int),(0:Tok)))).Perm l:=by
  have:=u.map λe:Int×Value=>(match e.2 with|.int k t=>(k,t)|_=>((0:Int),(0:Tok)))
  rw[xg]at this;refine this.trans (List.Perm.of_eq ?_)
  conv=>rhs;rw[<-List.map_id l]
  rfl
 generalize (x.map λe=>(match e.2 with|.int k t=>(k,t)|_=>((0:Int),(0:Tok))))=l' at ex X;subst ex;rw[xg];exact hQ j G _ _ e1 e3 (DO l') ((X.map (·.1)).trans i)
end
end SetT
namespace MM
open PySem.Spec PyProof.Rows L2 SetT SortT
section
variable{X:Cx}{N W G:SQ}{k:Nat}
def wP(L:X.calm=I):bK X (.type "set") (λxs H Q=>∃l ns,xs=[.ref l]/\SqL X.K H l (ns.map V.int)/\Lw ns/\∀S,H S=Y->Q (.ref S) (ls H S (.ext (IS X.prog X.w S (cw ns))))):=by intro Kh s Z H xs us Q f r ⟨l,ns,e,O,F,q⟩;subst e;obtain⟨u,rfl,z⟩:=c6 r;cases z;obtain⟨B,M,C,R⟩:=f.list O;have j:=f.hok.fresh (iv s.heap.objs.size);refine qf (f.ok.hd L) C.isList (by simpa using lS M) F λh' tk i x=>?_;obtain⟨o,U,P,t,E,y⟩:=id i;exact⟨.ref s.heap.objs.size,_,f.laid (o:=.ext (IS X.prog X.w s.heap.objs.size (cw ns))) x (iv _) ⟨i,⟨o,E⟩,λh1 h2 a b=>kf a b⟩,rfl,q _ j⟩
def qY(hh:X.calm=I):bK X (.builtin "sorted") (λxs H Q=>∃S ns,xs=[.ref S]/\H S=J (.ext (IS X.prog X.w S ns))/\ns.length<64/\∀l,H l=Y->Q (.ref l) (ls H l (.lst ((bF ns).map V.int)))):=by
 intro Kh s Z H xs us Q a r ⟨S,ns,e,hS,hz,q⟩;subst e;obtain⟨u,rfl,M⟩:=c6 r;cases M;obtain⟨B,_,_⟩:=(a.hok S _ hS);refine Calls.call_function_entry kind_sorted plain_sorted entry_sorted (args_sorted1 _) ?_;refine d_ (il ?_);refine d_ (qL (by simpa using a.ok.hd hh) B λC tk y O E j F pm=>?_);have U:y.length=ns.length:=by rw[IntsAre.length F,pm.length_eq]
 refine d_ (wpAny_newList ?_ (by rw[sizeLine_eq];lia));have f:(C.push (seqObj "list" y.toArray 0)).get? C.objs.size=J (seqObj "list" y.toArray 0):=yM _ rfl
 refine d_ (wpAny_holding (wpAny_call_entry slot_list_sort ⟨_,f,rfl⟩ entry_list_sort
  (list_sort_tree f F ⋯ λi ab a1 a2 P=>⟨_,rfl,?_⟩) (args_list_sort _)))
 refine il ⟨_,rfl,?_⟩;have e:=kY P (hJ ns) (a2.trans (pm.trans (bo ns).symm));subst e;obtain⟨c,R⟩:=dq f i;refine⟨.ref C.objs.size,_,a.laid (o:=.lst ((bF ns).map V.int)) (t':=tk) (λb o L=>?_) (vu j) (⟨?_,i.toList,c,lT a1,?_⟩),rfl,q _ (a.hok.fresh (vu j))⟩
 .have z:=nj (E b o L);exact c8 (sv z) (n6 _ (E b o L)) _
 .rw[oh,(bo ns).length_eq,sizeLine_eq];lia
 .rw[R]
def SD(m:Mx (SM)):Mx PV:=λZ h=>(m Z h).bind λxs a=>match xs with
 |[x]=>(match (b7 a x).bind eJ with
  |some ns=>if ns.length<64/\Lw ns then .ok (.loc a.length) (a++[.lst ((bF (cw ns)).map .int)])else .bad
  |none=>.bad)
 |_=>.bad
def qk(g:Good X N W G k){a:Expr}{m:Mx (SM)}{p F M u:Pos}(i j:Nat)(hm:X.mg "sorted"=Y)(L:X.mg "set"=Y)(ha:MA X [a] m)(hi:G[i]?=J "sorted":=by rfl)(hj:G[j]?=J "set":=by rfl)(hs:starEach [a] X.env=[(T,eval a X.env)]:=by rfl)(he:starEach [.Call (.Name "set" F) [a] [] u] X.env=[(T,eval (.Call (.Name "set" F) [a] [] u) X.env)]:=by rfl):
  ME X (.Call (.Name "sorted" p) [.Call (.Name "set" F) [a] [] u] [] M) (SD m):=by
 have d:=g.dbg _ (pu _ (az hi));have d':=g.dbg _ (pu _ (az hj));refine PE.imp (dD (qY g.calm) (g.gl _ (az hi)) hm PyProof.Rows.Boot.«sorted» (bY (fN (wP g.calm) (g.gl _ (az hj)) L PyProof.Rows.Boot.«set» ha d'.2.2 d'.1 hs rfl) dZ he) d.2.2 d.1 he rfl) λZ H Q ⟨U,P,h,rs,rh,q⟩=>?_;refine⟨U,P,h,rs,rh,Ful.bind q λU1 H1 x x' h1 ex l1 B rx f=>?_⟩
 cases rx with
 |nil=>exact f.elim
 |@cons y y' _ _ r1 t1 =>
  cases t1 with
  |cons _ _=>exact f.elim
  |nil =>
   dsimp only at f
   cases hl:b7 h1 y with
   |none=>rw[hl]at f;exact f.elim
   |some xs =>
    rw[hl]at f
    cases O:eJ xs with
    |none=>simp only[Ar,O]at f;exact f.elim
    |some ns =>
     simp only[Ar,O]at f;by_cases z:ns.length<64/\Lw ns
     .rw[b_ z]at f;obtain⟨la,zs,rfl,E,C⟩:=kH B r1 hl;rw[kI O]at C;rw[AO C]at E;refine⟨la,ns,rfl,E,z.2,λS hS=>?_⟩;obtain⟨al,l2⟩:=B.loose hS (.ext (IS X.prog X.w S (cw ns)));refine⟨S,cw ns,rfl,bL,JO (DM ns) z.1,λl ab=>?_⟩;obtain⟨R,l3⟩:=al.new ab (o:=.lst ((bF (cw ns)).map .int)) ⟨_,rfl,RPs.ints _⟩;exact f _ _ _ (l2.trans l3) R (.loc (by rw[<-B.len];simp))
     .rw[c_ z]at f;exact f.elim
end
end MM
namespace PU
open MM SetT
noncomputable section
def NZ:zn where
 k:=λj f=>match j with
  |[x]=>(match (b7 f x).bind eJ with
   |some ns=>if ns.length<64/\Lw ns then .ok (.loc f.length) (f++[.lst ((bF (cw ns)).map .int)])else .bad
   |none=>.bad)
  |_=>.bad
 p:=λa=>match a with
  |[.lst i]=>(bV i).bind λns=>if ns.length<64/\Lw ns then J (.lst ((bF (cw ns)).map .int))else Y
  |_=>Y
 fr:=I
 ok {q h L O a xs d} bd w e:=by
  match a,e with
  |[.lst i],e =>
   obtain⟨x,rfl,l⟩:=dU w;obtain⟨y,u,r⟩:=l.lstOf;rw[E4]at e;obtain⟨ns,e1,e2⟩:=e;by_cases z:ns.length<64/\Lw ns
   .rw[b_ z]at e2;cases e2;simp only[u,Ar,eA r e1,iB];rw[b_ z];exact Ly bd λ_ _=>fx _
   .rw[c_ z]at e2;cases e2
def eK(ns:SS):bV (ns.map .int)=J ns:=by
 induction ns with
 |nil=>rfl
 |cons i k a=>rw[mO,bV,a];rfl
def Mt{ns:SS}(h:ns.length<64/\Lw ns):NZ.p [.lst (ns.map .int)]=J (.lst ((bF (cw ns)).map .int)):=by show(bV (ns.map .int)).bind _=_;rw[eK,Ar,b_ h]
end
end PU
namespace PU
open MM
open L2 (xl n5 eS)
noncomputable section
def sK:zn where
 k:=λB f=>match B with
  |[.int i,.int j]=>if(-(2^62)<=i/\i<2^62) /\ -(2^62)<=j/\j<2^62/\(j-i).toNat<=sizeLine then .ok (.loc f.length) (f++[.lst (bM i (j-i).toNat)])else .bad
  |_=>.bad
 p:=λa=>match a with
  |[.int i,.int j]=>if(-10000<=i/\i<=10000) /\ -10000<=j/\j<=10000 then J (.lst (cP i (j-i).toNat))else Y
  |_=>Y
 fr:=I
 ok {q h L O a xs d} bd w e:=by
  match a,e with
  |[.int i,.int j],e =>
   obtain⟨x,y,rfl,l,u⟩:=Lu w;rw[l.int,u.int];dsimp only at e;by_cases z:(-10000<=i/\i<=10000) /\ -10000<=j/\j<=10000
   .rw[b_ z]at e;cases e;dsimp only
    have:=dG
    rw[b_ ⟨⟨by ext,by ext⟩,by ext,by ext,by ext⟩];exact Ly bd λ_ _=>u3
   .rw[c_ z]at e;cases e
end
end PU
namespace PU
open MM
def gC:D->S1
 |.lst (.int k::_)=>J k
 |_=>Y
def qr(d:D):Int:=(gC d).getD 0
section
variable{q:Nat}{h:MH}{O:SV}
def t8{d:D}{v:PV}(r:Rp q h O d v)(e:(gC d).isSome=I):jP h v=gC d:=by
 cases d with
 |lst f =>
  cases f with
  |nil=>cases e
  |cons i f =>
   cases i with
   |int k =>
    obtain⟨n,xs,rfl,j,g,x,t,rfl,a,b⟩:=r;rw[show x=.int k from a]at g;simp only[jP,Dt,g];rfl
   |_=>cases e
 |_=>cases e
def ua{d:D}{v:PV}(r:Rp q h O d v)(e:tw h v=qr d):∀{j:SW}{f:SM},Rps q h O j f->(∀(i:Nat) a b,j[i]?=J a->f[i]?=J b->tw h b=qr a)->Rps q h O (bP qr d j) (bP (tw h) v f)
 |[],f,l,_=>by
  rw[show f=[]from l];exact⟨v,[],rfl,r,rfl⟩
 |d'::j,f,l,u=>by
  obtain⟨x,t,rfl,a,b⟩:=l;unfold bP;rw[e,u 0 d' x rfl rfl];split
  .exact⟨v,x::t,rfl,r,x,t,rfl,a,b⟩
  .exact⟨x,_,rfl,a,ua r e b λi a b z y=>u (i+1) a b (by simpa using z) (by simpa using y)⟩
def tI{i:SW}{f:SM}(r:Rps q h O i f)(j:∀d∈i,(gC d).isSome=I):(∀v∈f,(jP h v).isSome=I)/\f.map (tw h)=i.map qr:=by
 induction i generalizing f with
 |nil=>rw[show f=[]from r];exact⟨(λv h=>by cases h),rfl⟩
 |cons d i y =>
  obtain⟨x,t,rfl,a,b⟩:=r;obtain⟨u,l⟩:=y b λd hd=>j d (nt _ hd);have e:=t8 a (j d mu);refine⟨λv hv=>?_,?_⟩
  .rcases j_.mp hv with rfl|hv
   .rw[e];exact j d mu
   .exact u v hv
  .rw[mO,mO,l];simp[tw,qr,e]
def DP{f:SW}{l:SM}(r:Rps q h O f l)(u:∀d∈f,(gC d).isSome=I):Rps q h O (aN qr f) (aN (tw h) l):=by
 induction f generalizing l with
 |nil=>rw[show l=[]from r];exact rfl
 |cons d f C =>
  obtain⟨x,t,rfl,a,b⟩:=r;have j:∀d∈f,(gC d).isSome=I:=λd hd=>u d (nt _ hd);have y:=C b j;show Rps q h O (bP qr d (aN qr f)) (bP (tw h) x (aN (tw h) t));have e2:=(tI y λz B=>j z ((cI qr f).mem_iff.mp B)).2;refine ua a (by simp[tw,qr,t8 a (u d mu)]) y λi a b F E=>?_
  have:=congrArg (·[i]?) e2
  simpa [F,E]using this
end
def qE:zn where
 k:=λxs h=>(vI xs h).ne
 p:=λf=>match f with
  |[.lst a]=>if(∀d∈a,(gC d).isSome=I)/\(a.map qr).Nodup/\a.length<=66 then J (.lst (aN qr a))else Y
  |_=>Y
 fr:=I
 ok {q h L O f xs d} bd w e:=by
  match f,e with
  |[.lst a],e =>
   obtain⟨x,rfl,C⟩:=dU w;dsimp only at e;by_cases z:(∀d∈a,(gC d).isSome=I)/\(a.map qr).Nodup/\a.length<=66
   .rw[b_ z]at e;cases e;obtain⟨n,ys,rfl,F,r⟩:=C.lst;have l:Dt h (.loc n)=J ys:=by simp only[Dt,F]
    obtain⟨H,E⟩:=tI r z.1
    have:vI [.loc n] h=.ok (.loc h.length) (h++[.lst (aN (tw h) ys)]):=by simp only[vI,l];rw[b_ ⟨H,E▸z.2.1,by rw[r.length];exact z.2.2⟩]
    show Gv q h O I (vI [.loc n] h).ne _;rw[this];have u:=DP r z.1;have g:(h++[MO.lst (aN (tw h) ys)])[h.length]?=J (.lst (aN (tw h) ys)):=by simp
    have B:Rps q (h++[MO.lst (aN (tw h) ys)]) O (aN qr a) (aN (tw h) ys):=u.mv ⟨λn j _=>vj j,λo i=>.inl i⟩;have y:Rps q (h++[MO.lst (aN (tw h) ys)]) (h.length::O) (aN qr a) (aN (tw h) ys):=u.mv ⟨λn j _=>vj j,λo i=>(j_.mp i).elim (λz=>.inr (Nk z.symm)) .inl⟩;exact⟨_,_,rfl,⟨_,_,rfl,λz=>by have:=bd _ z;lia,g,B⟩,λ_ G e=>by cases e;exact⟨_,_,rfl,iv _,g,y⟩⟩
   .rw[c_ z]at e;cases e
end PU
namespace MM
open PySem.Spec PyProof.Rows L2
open PU (Xe Xs Xt Xi Xg Xd Fn y4 ad aa xC ac a_ qp ik oE)
inductive N0(K:h8)(mg:S6)(x:Str)(cs sup:SQ):Prop
 |e(h:∃D,mg x=J (.ref D)/\om K mg (.ref D) cs sup)
 |b(T:String)(z:Zn K x)(hv:bootBuiltins x=J (.type T))(h:om K mg (.type T) cs sup)
structure BK(K:h8)(mg:S6)(x:Str)(cs sup:SQ):Prop where
 h:∃D,mg x=J (.ref D)/\om K mg (.ref D) cs sup
structure QG(K:h8)(mg:S6)(x:Str):Prop where
 h:∃C,AJ K mg x C
structure R6(K:h8)(mg:S6)(x:Str)(cs:SQ):Prop where
 h:∃D,AJ K mg x D/\∀x∈cs,∃C,AJ K mg x C/\PySem.W.mroIn K C (.ref D)=J I
structure N3(X:Cx)(cs:SQ)(es:S3)(sups:SQ):Prop where
 h:Lk X cs es sups
section
variable{X:Cx}{P:Program}{w:World}{K:h8}{mg:S6}{base:Heap}{N W:SQ}{k:Nat}{sc:Scope}{ws:SV}{x y z n:Str}{p p' q cp yp np sp hp pos cpos pt spos:Pos}{e a b:Expr}{es:S3}{sa:Xs ws}{xa:Xe ws}{i j l kt:Nat}{body:S9}{da:Xd ws}{cs sup sups:SQ}
def DQ(c:Wc X P w K mg base N W k sc)(R:QG K mg x)(f:z_ X [e] sa.m)(u:gm sc x)(hp:br e=I):zl X (.Raise (J (.Call (.Name x p) [e] [] cpos)) Y pos) (ik x sa).m:=by obtain⟨j,B⟩:=c.gj u;have R:=R.h;rw[<-c.e.e3,<-c.e.e4]at R;exact⟨xW c.g B R f.h (aK hp) rfl⟩
def Mu{h1 h2}(c:Wc X P w K mg base N W k sc)(d:ip X)(u:R6 K mg x cs)(M:gm sc x)(B:N[i]?=J y)(F:W[i]?=J y)(E:N[l]?=J n)(G:W[l]?=J n)(C:sc.names.lookup n=J .local)(U:∀f:Cx,Wc f P w K mg base N W k sc->ip f->oI f body da.m)(H:swapsWith (.Name n np) (J (.Name y yp)) sp.line X.env=pure T):zl X (.Try body [.ExceptHandler (J (.Name x cp)) (J n) [.Assign [.Name y yp] (.Name n np) sp] hp] [] [] pos) (oE cs i l da h1 h2).m:=by
 obtain⟨j0,O⟩:=c.gj M;have s:=c.s;have u:=u.h;rw[<-c.e.e3,<-c.e.e4]at u;exact⟨CZ c.g d O u i l B F E G (by rw[s];exact C) (λf R L y3 S y5 Q g Z=>(U f ⟨g,⟨R.trans c.e.e1,L.trans c.e.e2,y3.trans c.e.e3,S.trans c.e.e4,y5.trans c.e.e5,c.e.b⟩,(congrArg Env.scope Q).trans c.s⟩ Z).h) H⟩
def Mw(c:Wc X P w K mg base N W k sc)(f:N0 K mg x cs sup)(u:kx X a xa.m)(B:Zn K "isinstance")(F:gm sc "isinstance")(C:gm sc x)(hp:br a=I):kx X (.Call (.Name "isinstance" p) [a,.Name x q] [] pos) (y4 (PU.fH cs sup) xa).m:=by
 obtain⟨_,i⟩:=c.gj F;obtain⟨_,j⟩:=c.gj C
 cases f with
 |e h=>rw[<-c.e.e3,<-c.e.e4]at h;exact⟨C0 c.g i (c.n B) j h u.h (aK hp)⟩
 |b E z hv h=>rw[<-c.e.e3,<-c.e.e4]at h;exact⟨CY c.g i (c.n B) j (c.n z) hv h u.h (aK hp)⟩
def My:N3 X cs [] []:=⟨Dr⟩
def EV(c:Wc X P w K mg base N W k sc)(f:BK K mg x cs sup)(t:N3 X cs es sups)(u:gm sc x):N3 X cs (.Name x q::es) (sup++sups):=by obtain⟨_,j⟩:=c.gj u;have h:=f.h;rw[<-c.e.e3,<-c.e.e4]at h;exact⟨Ak c.g j h t.h⟩
def Iu(c:Wc X P w K mg base N W k sc)(f:BK K mg x cs sup)(t:N3 X cs es sups)(E:(.Name x q::es:S3).length<=100)(u:kx X a xa.m)(B:Zn K "isinstance")(F:gm sc "isinstance")(C:gm sc x)(hp:br a=I):kx X (.Call (.Name "isinstance" p) [a,.Tuple (.Name x q::es) kt pt] [] pos) (y4 (PU.fH cs (sup++sups)) xa).m:=by obtain⟨_,i⟩:=c.gj F;have h:=f.h;rw[<-c.e.e3,<-c.e.e4]at h;exact⟨zJ c.g i (c.n B) (EV c f t C).h h E u.h (aK hp)⟩
def QH(c:Wc X P w K mg base N W k sc)(f:z_ X [a] sa.m)(u:Zn K "sorted")(B:Zn K "set")(E:gm sc "sorted")(C:gm sc "set")(hp:br a=I):kx X (.Call (.Name "sorted" p) [.Call (.Name "set" p') [a] [] spos] [] pos) (qp PU.NZ sa).m :=
 let⟨_,i⟩:=c.gj E;let⟨_,j⟩:=c.gj C
 ⟨qk c.g _ _ (c.n u) (c.n B) f.h i j (aK hp)⟩
def Mz(c:Wc X P w K mg base N W k sc)(B:z_ X [a,b] sa.m)(C:Zn K "list")(E:Zn K "range")(G:gm sc "list")(F:gm sc "range")(hp:br a=I)(f:br b=I):kx X (.Call (.Name "list" p) [.Call (.Name "range" p') [a,b] [] spos] [] pos) (qp PU.sK sa).m :=
 let⟨_,i⟩:=c.gj G;let⟨_,j⟩:=c.gj F
 have u:starEach [b] X.env=[(T,eval b X.env)]:=aK f
 ⟨xI c.g i (c.n C) j (c.n E) B.h ((aK hp).trans (by rw[u])) u⟩
def Iv{f:S9}:oI X f (PU.HK (ws:=ws)).m:=⟨Dq⟩
def DR(c:Wc X P w K mg base N W k sc):BB X "sorted" PU.qE:=.fn _ _ pc (yY c.g.room)
end
end MM
namespace Law
open PySem.Spec PyProof.Rows L2 MM
set_option maxHeartbeats 4000000
noncomputable section
def yE:l_:=(aL (bf 2 (ao li (ao jj (mC (.int 7919)) (af 1)) (mC (.int 11))))
 (aL (AF (mB (ao By (af 1) (vx AI (ae (vx u6 (ae (af 0) e_)) (ae (mC (.int 63)) e_))))) (bf 2 (ao bB (af 0) (af 1))) (AF (mB (ao Bz (vx u6 (ae (af 0) e_)) (mC (.int 0)))) (bf 2 (ao li (ao m_ (ao bB (af 0) (ao m_ (af 1) (vx AI (ae (vx u6 (ae (af 0) e_)) (ae (mC (.int 63)) e_))))) (ao q7 (mC (.int 10)) (mC (.int 15)))) (ao jj (mC (.int 48271)) (af 1)))) lg))
 (aL (AF (mB (ao BA (vx AH (ae (af 2) e_)) (ao q7 (mC (.int 10)) (mC (.int 18))))) (bO (dC (ae (mC (.int 1)) (ae (vx AH (ae (af 2) e_)) (ae (mC (.int 0)) e_))))) lg)
 (bO (dC (ae (mC (.int 0)) (ae (ao li (ao m_ (af 2) (mC (.int 2147483587))) (ao jj (mC (.int 40009)) (af 1))) (ae (mC (.int 0)) e_))))))))
def eP:SM->MH->S4:=eD 3 2 yE
def vt:l_:=(aL (lR (ao li (ao bB (af 0) (mC (.int 2))) (mC (.int 1))) (Kz (af 0) (mC (.int 2))))
 (aL (AF (mB (ao AG (ao bB (af 0) (mC (.int 0))) (mC (.int 1)))) (aL (bf 3 (ao m_ (ao bB (af 0) (mC (.int 1))) (af 1)))
 (aL (lR (ao A_ (ao bB (af 0) (mC (.int 1))) (af 1)) (Kz (af 0) (mC (.int 1))))
 (bO (af 3)))) lg)
 (aL (bf 2 (ao m_ (ao jj (ao li (ao li (ao bB (af 0) (mC (.int 1))) (ao jj (mC (.int 40503)) (ao bB (af 0) (mC (.int 2))))) (mC (.int 1))) (mC (.int 48271))) (mC (.int 2147483647))))
 (aL (bf 2 (ao m_ (ao jj (af 2) (ao li (ao li (ao m_ (af 2) (mC (.int 65521))) (ao bB (af 0) (mC (.int 2)))) (mC (.int 3)))) (mC (.int 2147483629))))
 (bO (ao m_ (ao A_ (ao m_ (ao jj (af 2) (ao li (ao m_ (af 2) (mC (.int 8191))) (mC (.int 7)))) (mC (.int 2147483563))) (mC (.int 64))) (af 1)))))))
def de:SM->MH->S4:=eD 4 2 vt
end
end Law
namespace Law
open MM PU
open SetT SortT
open L2 (xl n5 eS)
set_option maxHeartbeats 4000000
noncomputable section
def dO:Xd []:=(bR (nN (y4 (oD ["int"]) (aa 0)) (qo (y4 (oD ["bool"]) (aa 0)))))
def dJ:Fn:=cD 1 1 dO
def k8{a:SW}{s:f_}(h:a.length=1):dJ.p a s=(dO.p (mm 1 a) s).fin:=bN h
def dI:Xd []:=(bR (nN (aq dJ (ac (aa 1) a_)) (mz P0 Bq (xC (.int 0)) (aa 1) (aa 0))))
def dR:Fn:=cD 2 2 dI
def lf{a:SW}{s:f_}(h:a.length=2):dR.p a s=(dI.p (mm 2 a) s).fin:=bN h
def cF:Xd []:=(pk (lY (xB (aq dR (ac (aa 0) (ac (aa 1) a_))))) (ik "NoPlace" (ac (xC (.str "this is no place")) a_)) ia)
def bc:Fn:=cD 2 2 cF
def iV{a:SW}{s:f_}(h:a.length=2):bc.p a s=(cF.p (mm 2 a) s).fin:=bN h
def cv:Xd []:=(gu (aT (aa 1)) (i_ 2) (bZ (aq bc (ac (aa 0) (ac (aa 2) a_)))))
def cr:Fn:=cD 3 2 cv
def iw{a:SW}{s:f_}(h:a.length=2):cr.p a s=(cv.p (mm 3 a) s).fin:=bN h
def dw:Xd []:=(aE (bZ (aq bc (ac (ad o_ (aa 0) (xC (.int 0))) (ac (aa 1) a_))))
 (aE (bp 2 (aH 2 [1] (aT (ad o_ (aa 0) (xC (.int 1)))) (ws':=[]) (Ay (t0 (i_ 0) (t0 (i_ 1) Ax)) 2) (xB (ad sh (aa 1) (aa 2))) (aa 0)))
 (aE (bp 3 (aH 2 [1] (aT (ad o_ (aa 0) (xC (.int 1)))) (ws':=[]) (Ay (t0 (i_ 0) (t0 (i_ 1) Ax)) 2) (xB (ad sh (aa 0) (aa 2))) (aa 1)))
 (bR (ad aX (aa 2) (aa 3))))))
def bC:Fn:=cD 4 2 dw
def pU{a:SW}{s:f_}(h:a.length=2):bC.p a s=(dw.p (mm 4 a) s).fin:=bN h
def cN:Xd [4,5]:=(aE (gH 4 (bu (ac (bu (ac (aa 2) a_)) a_)))
 (aE (gH 5 (bu (ac (aa 2) a_)))
 (aE (JB 400 (HJ (aa 4)) (aE (qV 6 AQ 4 (ac (xC (.int 0)) a_))
 (aE (pk (xB (ad sh (ad o_ (aa 6) (y4 ki (xC (.int 1)))) (aa 3))) (bR (aa 6)) ia)
 (gu (aT (aq bC (ac (aa 0) (ac (ad o_ (aa 6) (y4 ki (xC (.int 1)))) a_)))) (i_ 7) (pk (b9 (xB (ad (pa T) (aa 7) (aa 1))) (xB (ad (pa I) (aa 7) (aa 5)))) (aE (vp j3 5 (ac (aa 7) a_))
 (vp j3 4 (ac (ad aX (aa 6) (bu (ac (aa 7) a_))) a_))) ia)))) iL)
 (bR (xC .non)))))
def ba:Fn:=cD 8 4 cN
def nT{a:SW}{s:f_}(h:a.length=4):ba.p a s=(cN.p (mm 8 a) s).fin:=bN h
def bz:Xd []:=(aE (pk (lY (xB (y4 (oD ["list"]) (aa 1)))) (ik "NoParting" (ac (xC (.str "a parting is a list of places")) a_)) ia)
 (aE (bZ (aq cr (ac (ad o_ (aa 0) (xC (.int 0))) (ac (aa 1) a_))))
 (pk (xB (ad v8 (qp Qe (ac (aa 1) a_)) (qp lQ (ac (aa 1) a_)))) (ik "NoParting" (ac (xC (.str "a parting has each of its places once")) a_)) ia)))
def bx:Fn:=cD 2 2 bz
def cY{a:SW}{s:f_}(h:a.length=2):bx.p a s=(bz.p (mm 2 a) s).fin:=bN h
def fk:Xd [2]:=(aE (bZ (aq bx (ac (aa 0) (ac (aa 1) a_))))
 (aE (gH 2 (bu a_))
 (aE (bp 3 (aH 1 [1] (bJ vv (ac (ad o_ (aa 0) (xC (.int 0))) a_)) (ws':=[]) (i_ 0) (xB (ad (pa I) (aa 0) (aa 1))) (aa 0)))
 (aE (JB 400 (HJ (aa 3)) (aE (bp 4 (aH 1 [0,3] (aT (aa 3)) (ws':=[]) (i_ 0) (xB (ad (JC I) (aq ba (ac (aa 1) (ac (aa 2) (ac (ad o_ (aa 2) (xC (.int 0))) (ac (aa 0) a_))))) (xC .non))) (aa 0)))
 (aE (vp j3 2 (ac (aa 4) a_))
 (bp 3 (aH 1 [4] (aT (aa 3)) (ws':=[]) (i_ 0) (xB (ad (pa I) (aa 0) (aa 1))) (aa 0))))) iL)
 (mE 2)))))
def bh:Fn:=cD 5 2 fk
def pg{a:SW}{s:f_}(h:a.length=2):bh.p a s=(fk.p (mm 5 a) s).fin:=bN h
def eV:Xd []:=(bR (aH 1 [2,0] (aT (qp gO (ac (aa 1) a_))) (ws':=[]) (i_ 0) (xB (qp DB (ac (aH 1 [1] (aT (aq bC (ac (aa 2) (ac (aa 0) a_)))) (ws':=[]) (i_ 0) ka (ad (pa T) (aa 0) (aa 1))) a_))) (aa 0)))
def bS:Fn:=cD 3 3 eV
def sZ{a:SW}{s:f_}(h:a.length=3):bS.p a s=(eV.p (mm 3 a) s).fin:=bN h
def gZ:Xd []:=(bR (aH 1 [0,1] (aT (aq bh (ac (aa 0) (ac (aa 1) a_)))) (ws':=[]) (i_ 0) ka (aq bS (ac (aa 1) (ac (aa 2) (ac (aa 0) a_))))))
def cf:Fn:=cD 2 2 gZ
def yh{a:SW}{s:f_}(h:a.length=2):cf.p a s=(gZ.p (mm 2 a) s).fin:=bN h
def eW:Xd [2]:=(aE (bZ (aq bx (ac (aa 0) (ac (aa 1) a_))))
 HK)
def cX:Fn:=cD 4 2 eW
def sO{a:SW}{s:f_}(h:a.length=2):cX.p a s=(eW.p (mm 4 a) s).fin:=bN h
def oW{h:MH}{p:Nat}{o:MO}(a:p<h.length):(h.set p o)[p]?=J o:=y9 a
def R7:xl 3 2=J 2:=uk (n:=3) (m:=2) (by decide)
def SF:xl 3 1=J 1:=uk (n:=3) (m:=1) (by decide)
def iJ(s:f_)(size:Int)(M:0<size)(L:size.natAbs.log2<9000):∃x:Int×Int,(0<=x.1/\x.1<size)/\∀(h:MH)(p:Nat),aY h p s->de [.loc p,.int size] h=.ok (.int x.1) (h.set p (.lst [.int s.1,.int x.2,.int (s.2.2+1)])):=by
 obtain⟨m,c,t⟩:=s;have a:size≠0:=by ext
 have st:∀n:Int,0<=n.fmod size/\n.fmod size<size:=λn=>by
  rw[Ob n (by ext)];exact⟨Int.emod_nonneg n a,Int.emod_lt_of_pos n M⟩
 by_cases l:m=1
 .subst l;refine⟨(c.fmod size,c.fdiv size),st c,λh p e=>?_⟩;have e:h[p]?=J (.lst [.int 1,.int c,.int t]):=e;have j:p<h.length:=(r_.mp e).1;have e2:(h.set p (.lst [.int 1,.int c,.int (t+1)]))[p]?=J (.lst [.int 1,.int c,.int (t+1)]):=oW j;unfold de;refine(iX (by rfl)).trans ?_;unfold vt;simp[ci,List.replicate,ic e,lx e,R7,ic e2,fu a,tE a L,lx e2,SF]
 .have f:∀n k:Int,0<k->0<=n.fmod k/\n.fmod k<k:=λn k F=>by
   rw[Ob n (by ext)];exact⟨Int.emod_nonneg n (by ext),Int.emod_lt_of_pos n F⟩
  generalize y:((c+40503*(t+1)+1)*48271).fmod 2147483647=A;have H:=f ((c+40503*(t+1)+1)*48271) 2147483647 (by decide);rw[y]at H;generalize u:(A*(A.fmod 65521+(t+1)+3)).fmod 2147483629=C;have z:=f (A*(A.fmod 65521+(t+1)+3)) 2147483629 (by decide);rw[u]at z;refine⟨((((C*(C.fmod 8191+7)).fmod 2147483563).fdiv 64).fmod size,c),st _,λh p e=>?_⟩;have e:h[p]?=J (.lst [.int m,.int c,.int t]):=e;have j:p<h.length:=(r_.mp e).1;have e2:(h.set p (.lst [.int m,.int c,.int (t+1)]))[p]?=J (.lst [.int m,.int c,.int (t+1)]):=oW j;have B:-(2^64)<A/\A<2^64:=by ext
  have E:-(2^64)<C/\C<2^64:=by ext
  have O:∀{i:Int}{h:MH},jj (.int 40503) (.int i) h=.ok (.int (40503*i)) h:=gN (by decide);have G:∀{i:Int}{h:MH},jj (.int i) (.int 48271) h=.ok (.int (i*48271)) h:=CN (by decide);unfold de;refine(iX (by rfl)).trans ?_;unfold vt;simp[ci,List.replicate,ic e,lx e,R7,ic e2,l,O,G,fu,y,gN B,u,gN E,tE (show(64:Int)≠0 by decide) (show(64:Int).natAbs.log2<9000 by decide +kernel),fu a]
open Classical in
def kE(s:f_)(size:Int):Int×Int:=if z:0<size/\size.natAbs.log2<9000 then(iJ s size z.1 z.2).choose else(0,0)
def mY(a:SW):S1:=match a with
 |[.pen,.int i]=>J i
 |_=>Y
def wt{a:SW}{i:Int}(e:mY a=J i):a=[.pen,.int i]:=by
 unfold mY at e
 split at e
 .cases e;rfl
 .cases e
open Classical in
def aI:Fn where
 m:=de
 p:=λa s=>match mY a with
  |some size=>if 0<size/\size.natAbs.log2<9000 then .ok (.int (kE s size).1) (s.1,(kE s size).2,s.2.2+1)else .bad
  |none=>.bad
 fr:=I
 ok {q h O vs a s} bd hq pn r:=by
  cases e:mY a with
  |none=>trivial
  |some size =>
   have:=wt e
   subst this;dsimp only;by_cases z:0<size/\size.natAbs.log2<9000
   .rw[b_ z];obtain⟨x,t,rfl,j,y,B,rfl,l,i⟩:=r;rw[show x=PV.loc q from j,show y=PV.int size from l,show B=[]from i];have k:=(iJ s size z.1 z.2).choose_spec.2 h q pn;have f:kE s size=(iJ s size z.1 z.2).choose:=by unfold kE;rw[dif_pos z]
    rw[<-f]at k;refine⟨_,_,k,⟨by simp,λn C u=>o0 (Ne.symm u)⟩,oW (aF pn),rfl,λ_ a e=>by cases e⟩
   .rw[c_ z];trivial
open Classical in
theorem cz{s:f_}{size:Int}(i:0<size)(u:size<=2000000000):∃d j,0<=d/\d<size/\aI.p [.pen,.int size] s=.ok (.int d) j:=by
 have a:size.natAbs.log2<9000:=by
  have y:size.natAbs<=2000000000:=by ext
  have l:size.natAbs.log2<31:=(Nat.log2_lt (by ext)).mpr (by ext);ext
 have z:0<size/\size.natAbs.log2<9000:=⟨i,a⟩;have f:kE s size=(iJ s size z.1 z.2).choose:=by unfold kE;rw[dif_pos z]
 have k:=(iJ s size z.1 z.2).choose_spec.1;rw[<-f]at k;exact⟨_,_,k.1,k.2,by show(if 0<size/\size.natAbs.log2<9000 then _ else _)=_;rw[b_ z]⟩
def fP:Xd [2]:=(aE (gH 2 (bu a_))
 (aE (gu (bJ vv (ac (aa 1) a_)) (i_ 3) (vp yx 2 (ac (aq aI (ac (aa 0) (ac (ad aX (aa 3) (xC (.int 1))) a_))) (ac (aa 3) a_))))
 (mE 2)))
def cV:Fn:=cD 4 2 fP
def wz{a:SW}{s:f_}(h:a.length=2):cV.p a s=(fP.p (mm 4 a) s).fin:=bN h
def ie:Xd []:=(bR (bg (ac (aa 0) (ac (qp iK (ac (qp P1 (ac (aH 2 [] (aT (aa 1)) (ws':=[]) (Ay (t0 (i_ 0) (t0 (i_ 1) Ax)) 2) ka (bg (ac (qp sj (ac (aa 0) (ac (aa 1) a_))) (ac (qp sB (ac (aa 0) (ac (aa 1) a_))) a_)))) a_)) a_)) a_))))
def gU:Fn:=cD 2 2 ie
def xU{a:SW}{s:f_}(h:a.length=2):gU.p a s=(ie.p (mm 2 a) s).fin:=bN h
def fY:Xd []:=(bR (aH 1 [0] (bJ vv (ac (qp lQ (ac (aa 0) a_)) a_)) (ws':=[]) (i_ 0) ka (bg (ac (ad o_ (aa 1) (ad dS (aa 0) (xC (.int 1)))) (ac (ad o_ (aa 1) (aa 0)) a_)))))
def eQ:Fn:=cD 1 1 fY
def vm{a:SW}{s:f_}(h:a.length=1):eQ.p a s=(fY.p (mm 1 a) s).fin:=bN h
def iU:Xd [6]:=(aE (bp 2 (aq aI (ac (aa 0) (ac (ad aX (aa 1) (xC (.int 1))) a_))))
 (aE (bp 3 (aq cV (ac (aa 0) (ac (aa 2) a_))))
 (aE (bp 4 (aq aI (ac (aa 0) (ac (xC (.int 5)) a_))))
 (aE (bp 5 (aq aI (ac (aa 0) (ac (ad aX (aa 2) (xC (.int 1))) a_))))
 (aE (gH 6 (bu a_))
 (aE (gu (bJ vv (ac (aa 2) a_)) (i_ 7) (aE (pk (xB (ad Bq (aa 4) (xC (.int 2)))) (vp ky 6 (ac (aH 1 [7,0,4] (bJ vv (ac (aa 7) a_)) (ws':=[]) (i_ 0) (xB (ad sh (aq aI (ac (aa 2) (ac (ad aX (xC (.int 2)) (aa 3)) a_))) (xC (.int 0)))) (bg (ac (aa 1) (ac (aa 0) a_)))) a_)) ia)
 (aE (pk (xB (ad sh (aa 4) (xC (.int 2)))) (vp ky 6 (ac (aH 1 [7,5] (bJ vv (ac (aa 7) a_)) (ws':=[]) (i_ 0) (xB (ad v8 (ad Bq (aa 1) (aa 2)) (ad Bq (aa 0) (aa 2)))) (bg (ac (aa 1) (ac (aa 0) a_)))) a_)) ia)
 (pk (xB (ad sh (aa 4) (xC (.int 4)))) (vp ky 6 (ac (aH 1 [7,0,2] (bJ vv (ac (aa 7) a_)) (ws':=[]) (i_ 0) (BX (xB (ad (pa T) (ad dS (aa 1) (aa 0)) (bg (ac (xC (.int 1)) (ac (ad dS (aa 3) (xC (.int 1))) a_))))) (xB (ad sh (aq aI (ac (aa 2) (ac (xC (.int 6)) a_))) (xC (.int 0))))) (bg (ac (aa 1) (ac (aa 0) a_)))) a_)) ia))))
 (aE (bp 8 (xC (.int 0)))
 (aE (JB 400 (b9 (xB (ad sh (aa 4) (xC (.int 3)))) (xB (ad Hr (ad dS (aa 2) (aa 8)) (xC (.int 2))))) (aE (bp 9 (ad aX (xC (.int 3)) (aq aI (ac (aa 0) (ac (ad dS (ad dS (aa 2) (aa 8)) (xC (.int 2))) a_)))))
 (aE (vp ky 6 (ac (aq eQ (ac (qp sK (ac (aa 8) (ac (ad aX (aa 8) (aa 9)) a_))) a_)) a_))
 (bp 8 (ad aX (aa 8) (aa 9))))) iL)
 (aE (pk (xB (ad Hr (aa 2) (xC (.int 1)))) (aE (bp 10 (aH 1 [0,2] (bJ vv (ac (aq aI (ac (aa 0) (ac (xC (.int 3)) a_))) a_)) (ws':=[]) (i_ 0) ka (bg (ac (aq aI (ac (aa 1) (ac (aa 2) a_))) (ac (aq aI (ac (aa 1) (ac (aa 2) a_))) a_)))))
 (vp ky 6 (ac (aH 2 [] (aT (aa 10)) (ws':=[]) (Ay (t0 (i_ 0) (t0 (i_ 1) Ax)) 2) (xB (ad v8 (aa 0) (aa 1))) (bg (ac (aa 0) (ac (aa 1) a_)))) a_))) ia)
 (bR (aq gU (ac (aa 2) (ac (aH 2 [3] (aT (aa 6)) (ws':=[]) (Ay (t0 (i_ 0) (t0 (i_ 1) Ax)) 2) ka (bg (ac (ad o_ (aa 2) (aa 0)) (ac (ad o_ (aa 2) (aa 1)) a_)))) a_)))))))))))))
def gS:Fn:=cD 11 2 iU
def zg{a:SW}{s:f_}(h:a.length=2):gS.p a s=(iU.p (mm 11 a) s).fin:=bN h
def eX:Xd []:=(aE (bp 2 (aH 1 [1] (bJ vv (ac (ad o_ (aa 0) (xC (.int 0))) a_)) (ws':=[]) (i_ 0) (xB (ad (pa I) (aa 0) (aa 1))) (bu (ac (aa 0) a_))))
 (aE (gu (aT (ad o_ (aa 0) (xC (.int 1)))) (Ay (t0 (i_ 3) (t0 (i_ 4) Ax)) 2) (aE (bp 5 (aH 1 [3] (aT (aa 2)) (ws':=[]) (i_ 0) (xB (ad (pa T) (aa 1) (aa 0))) (aa 0)))
 (aE (bp 6 (aH 1 [4] (aT (aa 2)) (ws':=[]) (i_ 0) (xB (ad (pa T) (aa 1) (aa 0))) (aa 0)))
 (pk (b9 (xB (ad v8 (aa 5) (aa 6))) (b9 (xB (ad v8 (aa 5) (bu a_))) (xB (ad v8 (aa 6) (bu a_))))) (bp 2 (ad aX (aH 1 [5,6] (aT (aa 2)) (ws':=[]) (i_ 0) (xB (ad (pa I) (aa 0) (ad aX (aa 1) (aa 2)))) (aa 0)) (bu (ac (qp gO (ac (ad aX (ad o_ (aa 5) (xC (.int 0))) (ad o_ (aa 6) (xC (.int 0)))) a_)) a_)))) ia))))
 (bR (qp qE (ac (aa 2) a_)))))
def dM:Fn:=cD 7 2 eX
def sX{a:SW}{s:f_}(h:a.length=2):dM.p a s=(eX.p (mm 7 a) s).fin:=bN h
def fX:Xd [3]:=(aE (gH 3 (bu a_))
 (aE (gu (aT (ad o_ (aa 0) (xC (.int 1)))) (Ay (t0 (i_ 4) (t0 (i_ 5) Ax)) 2) (aE (pk (b9 (xB (ad (pa T) (aa 4) (aa 2))) (xB (ad (pa T) (aa 5) (aa 1)))) (vp j3 3 (ac (aa 5) a_)) ia)
 (pk (b9 (xB (ad (pa T) (aa 5) (aa 2))) (xB (ad (pa T) (aa 4) (aa 1)))) (vp j3 3 (ac (aa 4) a_)) ia)))
 (bR (qp NZ (ac (aa 3) a_)))))
def dE:Fn:=cD 6 3 fX
def vD{a:SW}{s:f_}(h:a.length=3):dE.p a s=(fX.p (mm 6 a) s).fin:=bN h
def ij:Xd []:=(aE (bp 3 (xC .non))
 (aE (oE ["NoParting","NoPlace"] 3 4 (pk (xB (ad sh (aa 0) (xC (.int 0)))) (bZ (aq bh (ac (aa 1) (ac (aa 2) a_)))) (pk (xB (ad sh (aa 0) (xC (.int 1)))) (bZ (aq cf (ac (aa 1) (ac (aa 2) a_)))) (bZ (aq cX (ac (aa 1) (ac (aa 2) a_)))))))
 (aE (pk (BX (lY (xB (y4 (fH ["NoParting","NoPlace"] ["NoParting","NoPlace"]) (aa 3)))) (xB (y4 (fH ["NoParting","NoPlace"] ([]++([]++([]++([]++[]))))) (aa 3)))) (bR (xC (.str "other"))) ia)
 (aE (pk (xB (y4 (fH ["NoParting","NoPlace"] ([]++([]++([]++([]++([]++[])))))) (aa 3))) (bR (xC (.str "other"))) ia)
 (aE (pk (xB (ad sh (y4 (fH ["NoParting","NoPlace"] ["NoPlace"]) (aa 3)) (y4 (fH ["NoParting","NoPlace"] ["NoParting"]) (aa 3)))) (bR (xC (.str "other"))) ia)
 (bR (ad o_ (bu (ac (xC (.str "parting")) (ac (xC (.str "place")) a_))) (qp DA (ac (y4 (fH ["NoParting","NoPlace"] ["NoPlace"]) (aa 3)) a_)))))))))
def dB:Fn:=cD 5 3 ij
def x5{a:SW}{s:f_}(h:a.length=3):dB.p a s=(ij.p (mm 5 a) s).fin:=bN h
def hZ:Xd []:=(aE (bp 3 (ad o_ (bu (ac (y4 ki (xC (.int 1))) (ac (ad o_ (aa 1) (xC (.int 0))) (ac (xC (.bl I)) (ac (xC .non) (ac (xC (.str "0")) (ac (bg (ac (xC (.int 0)) a_)) (ac (bu a_) (ac (ad Ht (xC (.int 10)) (xC (.int 20))) a_))))))))) (aq aI (ac (aa 0) (ac (xC (.int 8)) a_)))))
 (aE (bp 4 (aq aI (ac (aa 0) (ac (ad aX (qp lQ (ac (aa 2) a_)) (xC (.int 1))) a_))))
 (aE (bp 5 (ad aX (ad aX (DE (aa 2) DC (DD (aa 4))) (bu (ac (aa 3) a_))) (DE (aa 2) (DD (aa 4)) DC)))
 (aE (bp 6 (ad aX (ad aX (DE (aa 2) DC (DD (aa 4))) (DE (aa 2) DC (DD (xC (.int 1))))) (DE (aa 2) (DD (aa 4)) DC)))
 (aE (bp 7 (aq aI (ac (aa 0) (ac (xC (.int 4)) a_))))
 (aE (pk (xB (ad sh (aa 7) (xC (.int 0)))) (bR (bg (ac (ad o_ (bu (ac (qp iK (ac (aa 2) a_)) (ac (xC .non) (ac (xC (.str "")) (ac (xC (.int 3)) (ac Dx (ac (qp iK (ac (aa 5) a_)) (ac (xC (.bl I)) a_)))))))) (aq aI (ac (aa 0) (ac (xC (.int 7)) a_)))) (ac (xC (.str "parting")) a_)))) ia)
 (aE (pk (b9 (xB (ad sh (aa 7) (xC (.int 1)))) (xB (ad v8 (aa 2) (bu a_)))) (bR (bg (ac (aa 6) (ac (xC (.str "parting")) a_)))) ia)
 (aE (pk (b9 (xB (ad sh (aa 7) (xC (.int 2)))) (xB (ad v8 (aa 2) (bu a_)))) (bR (bg (ac (ad aX (aa 6) (bu (ac (aa 3) a_))) (ac (xC (.str "place")) a_)))) ia)
 (bR (bg (ac (aa 5) (ac (xC (.str "place")) a_))))))))))))
def fC:Fn:=cD 8 3 hZ
def wF{a:SW}{s:f_}(h:a.length=3):fC.p a s=(hZ.p (mm 8 a) s).fin:=bN h
def BL:l_:=(aL (jl (eR (ae (mC (.int 3)) e_)) (wo 1) (aL (bf 2 (bE eP (ae (af 0) (ae (af 1) e_))))
 (aL (bf 3 (bE gS.m (ae (af 2) (ae (mC (.int 12)) e_))))
 (aL (bf 4 (Py (bE cV.m (ae (af 2) (ae (ao bB (af 3) (mC (.int 0))) e_))) Pw (Px (bE de (ae (af 2) (ae (ao li (ao bB (af 3) (mC (.int 0))) (mC (.int 1))) e_))))))
 (aL (bf 5 (bE dM.m (ae (af 3) (ae (af 4) e_))))
 (aL (bf 6 (vx AM (ae (af 4) e_)))
 (aL (jl (eR (ae (mC (.int 2)) e_)) (wo 7) (aL (bf 9 (bE bh.m (ae (af 3) (ae (af 6) e_))))
 (aL (AF (Jo (Ct (mB (Cs (oQ ["list"]) (af 9)))) (Jo (mB (ao v1 (vx jp (ae (af 9) e_)) (vx jp (ae (af 5) e_)))) (mB (ao vw (af 6) (af 4))))) (bO (mC (.bl T))) lg)
 (aL (cj (x_ bn (af 9) (ae (dC (ae (mC (.int 99)) e_)) e_)))
 (aL (cj (x_ bn (ao bB (af 9) (mC (.int 0))) (ae (mC (.int 99)) e_)))
 (aL (bf 10 (bE cf.m (ae (af 3) (ae (af 6) e_))))
 (aL (bf 11 (d6 1 [3,4] (kq (af 5)) (wo 0) vU (bE dE.m (ae (af 1) (ae (af 2) (ae (af 0) e_))))))
 (aL (AF (Jo (mB (ao v1 (vx jp (ae (af 10) e_)) (vx jp (ae (af 11) e_)))) (mB (ao vw (af 6) (af 4)))) (bO (mC (.bl T))) lg)
 (aL (cj (x_ bn (af 10) (ae (dC e_) e_)))
 (cj (x_ bn (ao bB (af 10) (mC (.int 0))) (ae (mC (.int 99)) e_))))))))))))
 (jl (eR (ae (mC (.int 3)) e_)) (wo 8) (aL (lR (bE fC.m (ae (af 2) (ae (af 3) (ae (af 4) e_)))) (Gf (Es (wo 12) (Es (wo 13) Ge)) 2))
 (AF (mB (ao vw (d6 1 [3,12] (eR (ae (mC (.int 3)) e_)) (wo 0) vU (bE dB.m (ae (af 0) (ae (af 1) (ae (af 2) e_))))) (ao jj (dC (ae (af 13) e_)) (mC (.int 3))))) (bO (mC (.bl T))) lg))))))))))
 (bO (mC (.bl I))))
def A8:SM->MH->S4:=eD 14 1 BL
end
end Law
namespace Law
open MM PU SetT SortT
open L2 (xl n5 eS)
set_option maxHeartbeats 1000000
def DT{i:Int}{s:f_}:dJ.p [.int i] s=.ok (.bl I) s:=by rw[k8 (by rfl)];unfold dO;simp[mm,cQ]
def tV{n i:Int}{s:f_}:dR.p [.int n,.int i] s=.ok (.bl (decide (0<=i)&&decide (i<n))) s:=by rw[lf (by rfl)];unfold dI;by_cases z:0<=i<;>simp[mm,DT,z]
def oB{n i:Int}{s:f_}(a:0<=i)(f:i<n):bc.p [.int n,.int i] s=.ok .non s:=by rw[iV (by rfl)];unfold cF;simp[mm,tV,a,f]
def jM:∀(a:SU),ff (a.map kD)=J a
 |[]=>rfl
 |k::a=>by
  have:ju (kD k)=J k:=by
   show bV (k.map .int)=J k
   induction k with
   |nil=>rfl
   |cons i k f=>rw[mO,bV,f];rfl
  rw[mO,ff,this,jM a]
open Classical in
theorem MB{ks:SU}(h:(∀k∈ks,k≠[])/\(SetT.qb ks).length<=66):P1.p [.lst (ks.map kD)]=J (.lst ((cT (SetT.qb ks)).map kD)):=by show(ff (ks.map kD)).bind _=_;rw[jM,Ar,b_ h]
def aw(n:Int)(a:SU):D:=.tup [.int n,.tup (a.map kD)]
def vQ{n v:Int}:∀(f:SU),(∀k∈f,∃a b:Int,k=[a,b]/\0<=a/\a<b/\b<n)->(((f.map kD).filter λx=>match x with|.tup [.int a,.int b]=>decide (b=v)|_=>T).map λx=>match x with|.tup [.int a,.int b]=>.int a|_=>.non)=(below v f).map D.int:=by
 intro f
 induction f with
 |nil=>intro _;rfl
 |cons k f l =>
  intro j;obtain⟨a,b,rfl,_⟩:=j k (by simp)
  have:=l λk i=>j k (nt _ i)
  by_cases z:b=v<;>simp[below,kD,z]at this ⊢<;>exact this
def u7{n v:Int}:∀(f:SU),(∀k∈f,∃a b:Int,k=[a,b]/\0<=a/\a<b/\b<n)->(((f.map kD).filter λx=>match x with|.tup [.int a,.int b]=>decide (a=v)|_=>T).map λx=>match x with|.tup [.int a,.int b]=>.int b|_=>.non)=(above v f).map D.int:=by
 intro f
 induction f with
 |nil=>intro _;rfl
 |cons k f l =>
  intro j;obtain⟨a,b,rfl,_⟩:=j k (by simp)
  have:=l λk i=>j k (nt _ i)
  by_cases z:a=v<;>simp[above,kD,z]at this ⊢<;>exact this
def Ao(v:Int)(a:SU):SS:=below v a++above v a
def EW{n v:Int}{f:SU}{s:f_}(w:n9 n f)(E:0<=v)(hv:v<n):bC.p [aw n f,.int v] s=.ok (.lst ((Ao v f).map .int)) s:=by
 have B:f.length<=66:=wA w.n12 w.tie w.nd;rw[pU (by rfl)];unfold dw
 have z:=mS (ws:=[]) (ws':=[]) (env:=[J (aw n f),J (.int v),Y,Y]) (s:=s) (fm:=[1]) (i:=aT (ad o_ (aa 0) (xC (.int 1)))) (t:=xB (ad sh (aa 1) (aa 2))) (e:=aa 0) (ds:=f.map kD) (λx=>match x with|.tup [.int a,.int b]=>decide (b=v)|_=>T) (λx=>match x with|.tup [.int a,.int b]=>.int a|_=>.non) (by simp[aw]) (by simp;ext) (λx j=>by
   obtain⟨k,l,rfl⟩:=k6.mp j;obtain⟨a,b,rfl,_⟩:=w.tie k l
   exact⟨.int a,.int b,rfl,by simp[kD],λ_=>by simp[kD]⟩)
 have u:=mS (ws:=[]) (ws':=[]) (env:=[J (aw n f),J (.int v),J (.lst ((below v f).map .int)),Y]) (s:=s) (fm:=[1]) (i:=aT (ad o_ (aa 0) (xC (.int 1)))) (t:=xB (ad sh (aa 0) (aa 2))) (e:=aa 1) (ds:=f.map kD) (λx=>match x with|.tup [.int a,.int b]=>decide (a=v)|_=>T) (λx=>match x with|.tup [.int a,.int b]=>.int b|_=>.non) (by simp[aw]) (by simp;ext) (λx j=>by
   obtain⟨k,l,rfl⟩:=k6.mp j;obtain⟨a,b,rfl,_⟩:=w.tie k l
   exact⟨.int a,.int b,rfl,by simp[kD],λ_=>by simp[kD]⟩)
 rw[vQ f w.tie]at z;rw[u7 f w.tie]at u;have bl:(below v f).length<=66:=mh (Q5 _ _) B;have F:(above v f).length<=66:=mh (Q5 _ _) B;have C:(bZ (aq bc (ac (ad o_ (aa 0) (xC (.int 0))) (ac (aa 1) a_))):Xd []).p (mm 4 [aw n f,.int v]) s=.nx [J (aw n f),J (.int v),Y,Y] s:=by simp[mm,aw,oB E hv]
 rw[aA,C,PU.ag,aA,bt,z,Pg,PU.ag,aA,bt];show(((aH 2 [1] _ _ _ _ _ _).p [J (aw n f),J (.int v),J (.lst ((below v f).map .int)),Y] s).go _ _ |>.then _).fin=_;rw[u];simp[cG (x:=(below v f).map .int) (y:=(above v f).map .int) (by simp;ext),Ao]
def ph(n:Nat):cP 0 n=(kj n).map .int:=by simp[cP,kj]
def pe{ns:SS}(f:ns.length<64):gO.p [.lst (ns.map .int)]=J (.lst ((bF ns).map .int)):=by
 have e:∀ns:SS,bV (ns.map .int)=J ns:=λns=>by
  induction ns with
  |nil=>rfl
  |cons i k a=>rw[mO,bV,a];rfl
 show(qq (ns.map .int)).map _=_;simp only[qq,e];rw[b_ f];rfl
def zM{ns:SS}{j:Nat}(a:j<=ns.length):i6 (ns.map D.int) (J (j:Int)) Y=(ns.drop j).map .int:=by unfold i6;rw[HT.sF,oh,HT.uV,Fg a,OC];exact E6 (by simp)
def dN{f:SV}{env:ar}{s s1:f_}{o:BG}{i:Nat}{a:Xs f}{j:f.contains i=I}{l:a.fz=I}{as ds ds':SW}{r:D}(e1:a.p env s=.ok as s1)(e2:env[i]?=J (J (.lst ds)))(e3:o.p ds as=J (r,ds')):(vp o i a j l).p env s=.nx (env.set i (J (.lst ds'))) s1:=by rw[LK,sk e1 e2 e3]
def zE{ns:SS}{j:Nat}{x:D}(e:(ns.map D.int)[j]?=J x):x=.int (ns.getD j 0)/\j<ns.length:=by rw[wl,y_]at e;obtain⟨i,e1,rfl⟩:=e;obtain⟨a,f⟩:=r_.mp e1;exact⟨by simp[List.getD,e1],a⟩
local macro_rules | `(tactic| simp! [$a,*]) => `(tactic| simp only [$a,*, Pb, aj, ak])
def rL{n:Int}{left:SS}{s:f_}(h:∀x∈left,0<=x/\x<n):cr.p [.int n,.lst (left.map .int)] s=.ok .non s:=by
 rw[iw (by rfl)];unfold cv;obtain⟨f,a,e,z,rfl,B⟩:=eN (g:=(i_ 2:Xg []).p) (b:=(bZ (aq bc (ac (aa 0) (ac (aa 2) a_))):Xd []).p)
  (λj env a=>∃z,env=[J (.int n),J (.lst (left.map .int)),z]/\a=s) (left.map .int) 0 [J (.int n),J (.lst (left.map .int)),Y] s ⟨Y,rfl,rfl⟩ (λj env a d ⟨z,u,y⟩ hd=>by
   subst u y;obtain⟨i,l,rfl⟩:=k6.mp (AC hd)
   exact⟨[J (.int n),J (.lst (left.map .int)),J (.int i)],[J (.int n),J (.lst (left.map .int)),J (.int i)],a,rfl,by simp[oB (h i l).1 (h i l).2],_,rfl,rfl⟩)
 rw[B]at e;rw[show mm 3 [D.int n,.lst (left.map .int)]=[J (.int n),J (.lst (left.map .int)),Y]from rfl,fL,g8];simp![show(D.lst (left.map D.int)).items=J (left.map D.int)from rfl,Pf,Pg];rw[e];rfl
def DU{n:Int}{f:SU}(u:0<=n)(i:n<=12)(j:∀k∈f,∃a b:Int,k=[a,b]/\0<=a/\a<b/\b<n):n9 n (cT (SetT.qb f)) :=
 ⟨u,i,λk l=>j k ((SetT.n4 k f).mp ((fM _).mem_iff.mp l)),ja _,(fM _).symm.nodup (jW f)⟩
def Ix{n:Int}{f:SU}(i:n<=12)(j:∀k∈f,∃a b:Int,k=[a,b]/\0<=a/\a<b/\b<n):(SetT.qb f).length<=66 :=
 wA i (λk l=>j k ((SetT.n4 k f).mp l)) (jW f)
structure Ord(n:Nat)(qs:SS):Prop where
 n12:n<=12
 pm:qs.Perm (kj n)
def Ord.len{n:Nat}{a:SS}(o:Ord n a):a.length=n:=by have:=o.pm.length_eq;simpa [kj]using this
def Ord.bd{n:Nat}{a:SS}(o:Ord n a):∀q∈a,0<=q/\q<(n:Int):=λq f=>dy.mp (o.pm.mem_iff.mp f)
def Ord.at{n:Nat}{a:SS}(o:Ord n a){j:Nat}(f:j<a.length):0<=a.getD j 0/\a.getD j 0<(n:Int):=o.bd _ (by
 have:a.getD j 0=a[j]:=by simp[List.getD,f]
 rw[this];exact Ov f)
def iZ{g:D->ar->Option ar}{t:ar->f_->PR Bool}{e:ar->f_->PR D}(S:ar->Prop)(P:D->Prop):∀(j:SW)(env:ar)(s:f_),S env ->
  (∀x∈j,∀env s,S env->∃a,g x env=J a/\S a/\∃b u,t a s=.ok b u/\(b=I->∃y C,e a u=.ok y C/\P y))->∃r M,d8 g t e j env s=.ok r M/\r.length<=j.length/\∀y∈r,P y
 |[],env,s,G,f=>⟨[],s,rfl,by simp,by simp⟩
 |x::j,env,s,G,f=>by
  obtain⟨a,e1,l,b,u,e2,e3⟩:=f x (by simp) env s G;have i:=λy H=>f y (nt x H);rw[d8,e1];dsimp only;rw[e2,Pb]
  cases b with
  |true =>
   obtain⟨y,C,e4,py⟩:=e3 rfl;obtain⟨r,B,e5,L,E⟩:=iZ S P j a C l i;refine⟨y::r,B,by simp only[if_true,e4,Pb,e5],by simp;ext,λz F=>?_⟩;rcases j_.mp F with rfl|F
   .exact py
   .exact E z F
  |false =>
   obtain⟨r,B,e5,L,E⟩:=iZ S P j a u l i;exact⟨r,B,by simp only[n_,if_false,e5],by simp;ext,E⟩
def je{ws ws':SV}{env:ar}{s s0:f_}{fm:SV}{i:Xi ws}{t:Xt ws'}{e:Xe ws'}{ds:SW}(P:D->Prop)(E:i.p env s=.ok ds s0)(G:ds.length<=100000)(a:∀x∈ds,∀s,∃b f,t.p (J x::fm.map λi=>(env[i]?).getD Y) s=.ok b f/\(b=I->∃y C,e.p (J x::fm.map λi=>(env[i]?).getD Y) f=.ok y C/\P y))(u:ws'.contains 0=T:=by exact ys rfl)(hw:Bo 1 fm ws=ws':=by exact ys rfl)(hz:e.fz=I:=by exact ys rfl):
  ∃r j,(aH 1 fm i (i_ 0 u) t e hw hz).p env s=.ok (.lst r) j/\r.length<=ds.length/\∀y∈r,P y:=by
 obtain⟨r,j,e1,H,F⟩:=iZ (g:=(i_ 0 u:Xg ws').p) (t:=t.p) (e:=e.p) (λv=>∃z,v=z::fm.map λi=>(env[i]?).getD Y) P ds (w_ 1 fm env) s0 ⟨Y,rfl⟩ λx B l s ⟨z,hz⟩=>by
  subst hz;obtain⟨b,f,e2,e3⟩:=a x B s;exact⟨_,rfl,⟨J x,rfl⟩,b,f,e2,e3⟩
 refine⟨r,j,?_,H,F⟩;rw[uy,E,Pb,b_ G,e1]
def cW{lo:Int}{c:Nat}:(cP lo c).length=c:=by simp[cP]
def lH{lo:Int}{c:Nat}{x:D}(h:x∈cP lo c):∃i:Int,x=.int i/\lo<=i/\i<lo+c:=by unfold cP at h;obtain⟨k,a,rfl⟩:=k6.mp h;rw[A9]at a;exact⟨_,rfl,by ext,by ext⟩
def rH{c i:Nat}{x:D}(h:(cP 0 c)[i]?=J x):x=.int (i:Int)/\i<c:=by unfold cP at h;rw[wl,y_]at h;obtain⟨k,f,rfl⟩:=h;obtain⟨a,b⟩:=r_.mp f;simp at a b;subst b;exact⟨by simp,a⟩
def uF{n:Nat}{s:f_}(F:n<=12):∃f i,cV.p [.pen,.int n] s=.ok (.lst (f.map .int)) i/\Ord n f:=by
 rw[wz (by rfl)];unfold fP;have E:mm 4 [D.pen,.int n]=[J .pen,J (.int n),Y,Y]:=rfl;obtain⟨l,i,e,z,f,rfl,pm⟩:=eN (g:=(i_ 3:Xg [2]).p) (b:=(vp yx 2 (ac (aq aI (ac (aa 0) (ac (ad aX (aa 3) (xC (.int 1))) a_))) (ac (aa 3) a_)):Xd [2]).p)
  (λj env i=>∃z f,env=[J .pen,J (.int n),J (.lst ((f:SS).map .int)),z]/\f.Perm (kj j)) (cP 0 n) 0 [J .pen,J (.int n),J (.lst []),Y] s ⟨Y,[],rfl,by simp[kj]⟩ (λj env i d ⟨z,f,y,pm⟩ hd=>by
   rw[yV]at pm ⊢;subst y;obtain⟨rfl,H⟩:=rH hd;have C:f.length=j:=by have:=pm.length_eq;simpa [kj]using this
   obtain⟨d,u,B,L,G⟩:=cz (s:=i) (size:=(j:Int)+1) (by ext) (by ext);obtain⟨k,rfl⟩:=cS B;refine⟨[J .pen,J (.int n),J (.lst (f.map .int)),J (.int (j:Int))],[J .pen,J (.int n),J (.lst ((f.take k++(j:Int)::f.drop k).map .int)),J (.int (j:Int))],u,rfl,?_,_,f.take k++(j:Int)::f.drop k,rfl,?_⟩
   .rw[dN (s1:=u) (as:=[.int (k:Int),.int (j:Int)]) (ds:=f.map .int) (ds':=(f.take k++(j:Int)::f.drop k).map .int) (r:=.non) (by simp[G]) rfl (by
     rw[wQ (by simp;ext) (by simp;ext)];simp)]
    rfl
   .have:(f.take k++((j:Int))::f.drop k).Perm (((j:Int))::f):=by
     have:=Ji (a:=(j:Int)) (l₁:=f.take k) (l₂:=f.drop k)
     rwa [BQ]at this
    refine this.trans ((pm.cons _).trans ?_);have e1:kj (j+1)=kj j++[(j:Int)]:=by simp[kj,List.range_succ]
    rw[e1]
    exact(N_ _ _).symm)
 rw[cW,yV]at pm;refine⟨f,i,?_,F,pm⟩;rw[E,aA,gP];simp![bQ,av,Fh,u0,if_true,Pg,tp,si,PU.ag,aA,fL,eT,ai];rw[gI (by ext),Ap,Pf,Pg,e,PU.ag,uj (d:=.lst (f.map .int)) rfl,PU.cR]
def yd{n:Int}{i:SU}(h:∀k∈i,IsT n k):∀k∈i.map BH,∃a b:Int,k=[a,b]/\0<=a/\a<b/\b<n:=λk B=>by
 obtain⟨j,f,rfl⟩:=k6.mp B;obtain⟨a,b,rfl,C,u,y,l,ne⟩:=h j f;rcases Int.lt_or_gt_of_ne ne with z|z
 .rw[HG z];exact⟨a,b,rfl,C,z,l⟩
 .rw[HH z];exact⟨b,a,rfl,y,z,u⟩
def AW(n:Nat)(y:D):Prop:=∃k,y=kD k/\IsT n k
def xo{n:Nat}:∀{ys:SW},(∀y∈ys,AW n y)->∃a:SU,ys=a.map kD/\∀k∈a,IsT n k
 |[],_=>⟨[],rfl,(λ_ h=>nomatch h)⟩
 |y::ys,h=>by
  obtain⟨a,e,i⟩:=xo (ys:=ys) λy j=>h y (nt _ j);obtain⟨k,rfl,l⟩:=h y (by simp);exact⟨k::a,by rw[e];rfl,λx f=>(j_.mp f).elim (λq=>q▸l) (i x)⟩
def DV{ws:SV}{env:ar}{i:Nat}{ks:SU}{n:Int}{s:f_}(e:env[i]?=J (J (.lst (ks.map kD))))(j:∀k∈ks,IsT n k)(y:ks.length<=100000)(l:Bo 2 [] ws=[]){hz}:
  (aH 2 [] (aT (aa i)) (ws':=[]) (Ay (t0 (i_ 0) (t0 (i_ 1) Ax)) 2) ka (bg (ac (qp sj (ac (aa 0) (ac (aa 1) a_))) (ac (qp sB (ac (aa 0) (ac (aa 1) a_))) a_))) l hz:Xe ws).p env s=.ok (.lst ((ks.map BH).map kD)) s:=by
 have q:=mS (ws:=ws) (ws':=[]) (env:=env) (s:=s) (fm:=[]) (i:=aT (aa i)) (t:=ka) (e:=(bg (ac (qp sj (ac (aa 0) (ac (aa 1) a_))) (ac (qp sB (ac (aa 0) (ac (aa 1) a_))) a_)))) (ds:=ks.map kD) (λ_=>I) (λx=>match ju x with|some k=>kD (BH k)|none=>.non) (by
  rw[g8,tN e];rfl) (by simpa using y) (λx u=>by
   obtain⟨k,f,rfl⟩:=k6.mp u;obtain⟨a,b,rfl,_⟩:=j k f;refine⟨.int a,.int b,rfl,rfl,λ_=>?_⟩
   simp[kD,ju,bV,BH]) (hw:=l) (hz:=hz)
 rw[fV,xg]at q;rw[q,xg];congr 2;refine E9 λk f=>?_;obtain⟨a,b,rfl,_⟩:=j k f;rfl
def Iy{n:Nat}{f:SU}{s:f_}(C:n<=12)(j:∀k∈f,IsT n k)(B:f.length<=100000):gU.p [.int (n:Int),.lst (f.map kD)] s=.ok (aw n (cT (SetT.qb (f.map BH)))) s:=by have mt:=yd j;have l:=MB (ks:=f.map BH) ⟨λk z=>by obtain⟨a,b,rfl,_⟩:=mt k z;simp,Ix (by ext) mt⟩;have u:∀{x y:D}{s:f_},(if [x,y].length<=100000 then PR.ok (D.tup [x,y]) s else .bad)=.ok (.tup [x,y]) s:=λ{x y s}=>b_ (by simp);rw[xU (by rfl)];unfold ie;rw[show mm 2 [.int (n:Int),D.lst (f.map kD)]=[J (.int (n:Int)),J (.lst (f.map kD))]from rfl];rw[cU,dH,ai,aj,Pb,ai,c5,ai,c5,ai,DV (ws:=[]) (i:=1) (ks:=f) rfl j B rfl];simp only[aj,Pb,av,l,Pf,sA,u,Pg,PU.cR,aw]
def sw{ns:SS}{k:Int}(a:0<=k):i6 (ns.map D.int) Y (J k)=(ns.take k.toNat).map .int:=by
 obtain⟨j,rfl⟩:=cS a;unfold i6;rw[HT.sF,oh,HT.uV,Ap,List.drop_zero,Nat.sub_zero,OB];by_cases z:j<=ns.length
 .rw[Fg z]
 .rw[Nf (by ext),E6 (by simp),E6 (by simp;ext)]
def xK{ds:SW}{i:Int}(f:0<=i)(j:i<(ds.length:Int)):∃d,n5 ds i=J d/\d∈ds:=by
 obtain⟨k,rfl⟩:=cS f;have a:k<ds.length:=by ext
 exact⟨ds[k],L2.fh (by simp[a]),Ov a⟩
structure Rg(n:Nat)(rs:SS):Prop where
 nd:rs.Nodup
 bd:∀x∈rs,0<=x/\x<(n:Int)
 n12:n<=12
 l3:3<=rs.length
def Rg.len{n:Nat}{a:SS}(g:Rg n a):a.length<=12:=by
 have:=List.Nodup.length_le_of_subset (l₂:=kj 12) g.nd λx f=>by
  rw[dy];have:=g.bd x f;have:=g.n12;ext
 simpa [kj]using this
def EX{a:SS}(nd:a.Nodup){i j:Nat}(f:i<a.length)(l:j<a.length)(e:a.getD i 0=a.getD j 0):i=j :=
 (List.getElem?_inj (i:=i) (j:=j) f nd).mp (by simp only[List.getD]at e;simp[f,l]at e ⊢;exact e)
def Iz{n:Nat}{a:SS}(g:Rg n a){i j:Nat}(l:i<a.length)(u:j<a.length)(ne:i≠j):IsT n [a.getD i 0,a.getD j 0]:=by have f:=g.bd (a.getD i 0) (by simp[List.getD,l]);have y:=g.bd (a.getD j 0) (by simp[List.getD,u]);exact⟨_,_,rfl,f.1,f.2,y.1,y.2,λe=>ne (EX g.nd l u e)⟩
def mU{a:SS}{i:Nat}(f:i<a.length):n5 (a.map D.int) (i:Int)=J (.int (a.getD i 0)):=L2.fh (by simp[List.getD,f])
def DW{a:SS}{k:Nat}(f:k<a.length):n5 (a.map D.int) ((k:Int)-1)=J (.int (a.getD (if k=0 then a.length-1 else k-1) 0)):=by
 by_cases z:k=0
 .subst z;rw[b_ rfl];unfold n5 xl;rw[c_ (by ext),b_ (by simp;ext),Ar]
  have:(((0:Nat):Int)-1+((a.map D.int).length:Int)).toNat=a.length-1:=by simp;ext
  rw[this];simp[List.getD,show a.length-1<a.length by ext]
 .rw[c_ z,show(k:Int)-1=((k-1:Nat):Int) by ext];exact mU (by ext)
def DX{n:Nat}{a:SS}{s:f_}(g:Rg n a):∃f l,eQ.p [.lst (a.map .int)] s=.ok (.lst f) l/\f.length<=12/\∀y∈f,AW n y:=by
 have E:=g.len;have l3:=g.l3;have z:∀{x y:D}{s:f_},(if [x,y].length<=100000 then PR.ok (D.tup [x,y]) s else .bad)=.ok (.tup [x,y]) s:=λ{x y s}=>b_ (by simp)
 obtain⟨r,l,q,C,B⟩:=je (ws:=[]) (ws':=[]) (env:=[J (.lst (a.map .int))]) (s:=s) (s0:=s) (fm:=[0]) (i:=bJ vv (ac (qp lQ (ac (aa 0) a_)) a_)) (t:=ka) (e:=bg (ac (ad o_ (aa 1) (ad dS (aa 0) (xC (.int 1)))) (ac (ad o_ (aa 1) (aa 0)) a_))) (ds:=cP 0 a.length) (AW n) (by
  simp only[eT,ai,c5,aj,Pb,av,xy,oh,Pf]
  rw[gI (by ext),Ap];rfl) (by rw[cW];ext) (λx u s=>by
   obtain⟨i,rfl,F,G⟩:=lH u;obtain⟨k,rfl⟩:=cS F;refine⟨I,s,rfl,λ_=>⟨_,s,?_,_,rfl,Iz g (i:=if k=0 then a.length-1 else k-1) (j:=k) (by split<;>ext) (by ext) (by split<;>ext)⟩⟩;simp![dH,ai,aG,mO,Au,AT,Aq,bv,aV,oG,Pf,fb,DW (show k<a.length by ext),mU (show k<a.length by ext),av,z]
   rfl)
 refine⟨r,l,?_,by rw[cW]at C;ext,B⟩;rw[vm (by rfl)];unfold fY;rw[show mm 1 [D.lst (a.map .int)]=[J (.lst (a.map .int))]from rfl,cU,q];rfl
def iF{x y:D}{s:f_}:(if [x,y].length<=100000 then PR.ok (D.tup [x,y]) s else .bad)=.ok (.tup [x,y]) s:=b_ (by simp)
abbrev wE(n:Nat)(qs:SS)(way cut:Int)(ps:SW)(z7 z8 z9 z10:S7):ar:=[J .pen,J (.int 12),J (.int n),J (.lst (qs.map .int)),J (.int way),J (.int cut),J (.lst ps),z7,z8,z9,z10]
def vT{n:Nat}{qs:SS}{way cut:Int}{ps:SW}{z7 z8 z9 z10:S7}{t:Xt [6]}{c:Xe [6]}{b:Bool}{s:f_}{hi hz}(i:t.p (wE n qs way cut ps z7 z8 z9 z10) s=.ok b s)(j:b=I->∃r f,c.p (wE n qs way cut ps z7 z8 z9 z10) s=.ok (.lst r) f/\r.length<=12/\∀y∈r,AW n y)(z:ps.length<=1000)(pt:∀y∈ps,AW n y):
  ∃a f,(pk t (vp ky 6 (ac c a_) hi hz) ia:Xd [6]).p (wE n qs way cut ps z7 z8 z9 z10) s=.nx (wE n qs way cut a z7 z8 z9 z10) f/\a.length<=ps.length+12/\∀y∈a,AW n y:=by
 rw[cM,i,Pg]
 cases b with
 |false=>exact⟨ps,s,rfl,by ext,pt⟩
 |true =>
  obtain⟨r,f,e,B,l⟩:=j rfl;exact⟨ps++r,f,dN (s1:=f) (as:=[.lst r]) (ds:=ps) (ds':=ps++r) (r:=.non) (by rw[ai,e];rfl) rfl (jR (by ext)),by rw[zv];ext,λy u=>(nw.mp u).elim (pt y) (l y)⟩
def MC{n j k:Nat}(a:j<n)(f:k<j):AW n (.tup [.int (j:Int),.int (k:Int)]):=⟨[(j:Int),(k:Int)],rfl,_,_,rfl,by ext,by ext,by ext,by ext,by ext⟩
def sD{n j:Nat}{B:SS}{a f:Int}{E:SW}{z C l:S7}{fm:SV}{t:Xt []}{hw hz}{s:f_}(H:j<n)(n12:n<=12)(F:∀k:Nat,k<j->∀s,∃b u,t.p (J (.int (k:Int))::J (.int (j:Int))::fm.map λi=>((wE n B a f E (J (.int (j:Int))) z C l)[i]?).getD Y) s=.ok b u):
  ∃r O,(aH 1 (7::fm) (bJ vv (ac (aa 7) a_)) (ws':=[]) (i_ 0) t (bg (ac (aa 1) (ac (aa 0) a_))) hw hz:Xe [6]).p (wE n B a f E (J (.int (j:Int))) z C l) s=.ok (.lst r) O/\r.length<=12/\∀y∈r,AW n y:=by
 obtain⟨r,u,q,M,L⟩:=je (ws:=[6]) (ws':=[]) (env:=wE n B a f E (J (.int (j:Int))) z C l) (s:=s) (s0:=s) (fm:=7::fm) (i:=bJ vv (ac (aa 7) a_)) (t:=t) (e:=bg (ac (aa 1) (ac (aa 0) a_))) (ds:=cP 0 j) (AW n) (by
  simp![eT,ai,av]
  rw[gI (by ext),Ap];rfl) (by rw[cW];ext) (λx G s=>by
   obtain⟨i,rfl,P,Q⟩:=lH G;obtain⟨k,rfl⟩:=cS P;obtain⟨b,u,e⟩:=F k (by ext) s;refine⟨b,u,e,λ_=>⟨_,u,?_,MC H (k:=k) (by ext)⟩⟩
   simp![dH,ai,mO,AR,AT,Aq,av,iF]) (hw:=hw) (hz:=hz)
 rw[cW]at M;exact⟨r,u,q,by ext,L⟩
abbrev R8:Xd [6]:=(aE (pk (xB (ad Bq (aa 4) (xC (.int 2)))) (vp ky 6 (ac (aH 1 [7,0,4] (bJ vv (ac (aa 7) a_)) (ws':=[]) (i_ 0) (xB (ad sh (aq aI (ac (aa 2) (ac (ad aX (xC (.int 2)) (aa 3)) a_))) (xC (.int 0)))) (bg (ac (aa 1) (ac (aa 0) a_)))) a_)) ia)
 (aE (pk (xB (ad sh (aa 4) (xC (.int 2)))) (vp ky 6 (ac (aH 1 [7,5] (bJ vv (ac (aa 7) a_)) (ws':=[]) (i_ 0) (xB (ad v8 (ad Bq (aa 1) (aa 2)) (ad Bq (aa 0) (aa 2)))) (bg (ac (aa 1) (ac (aa 0) a_)))) a_)) ia)
 (pk (xB (ad sh (aa 4) (xC (.int 4)))) (vp ky 6 (ac (aH 1 [7,0,2] (bJ vv (ac (aa 7) a_)) (ws':=[]) (i_ 0) (BX (xB (ad (pa T) (ad dS (aa 1) (aa 0)) (bg (ac (xC (.int 1)) (ac (ad dS (aa 3) (xC (.int 1))) a_))))) (xB (ad sh (aq aI (ac (aa 2) (ac (xC (.int 6)) a_))) (xC (.int 0))))) (bg (ac (aa 1) (ac (aa 0) a_)))) a_)) ia)))
def QI{n j:Nat}{qs:SS}{a cut:Int}{l:SW}{z8 z9 z10:S7}{s:f_}(u:j<n)(n12:n<=12)(w0:0<=a)(pl:l.length<=900)(pt:∀y∈l,AW n y):
  ∃f W,R8.p (wE n qs a cut l (J (.int (j:Int))) z8 z9 z10) s=.nx (wE n qs a cut f (J (.int (j:Int))) z8 z9 z10) W/\f.length<=l.length+36/\∀y∈f,AW n y:=by
 obtain⟨F,i,L,l1,G⟩:=vT (n:=n) (qs:=qs) (way:=a) (cut:=cut) (ps:=l) (z7:=J (.int (j:Int))) (z8:=z8) (z9:=z9) (z10:=z10) (s:=s) (t:=xB (ad Bq (aa 4) (xC (.int 2)))) (c:=aH 1 [7,0,4] (bJ vv (ac (aa 7) a_)) (ws':=[]) (i_ 0) (xB (ad sh (aq aI (ac (aa 2) (ac (ad aX (xC (.int 2)) (aa 3)) a_))) (xC (.int 0)))) (bg (ac (aa 1) (ac (aa 0) a_)))) (b:=decide (a<2)) (hi:=rfl) (hz:=rfl) (by simp) (λz=>sD u n12 λk C s=>by
   have:a<2:=of_decide_eq_true z
   obtain⟨d,i,H,X,B⟩:=cz (s:=s) (size:=2+a) (by ext) (by ext)
   exact⟨_,i,by simp![bX,aG,aZ,ai,mO,Au,AR,AT,Aq,bv,aV,av,fj,Pf,B,fc,eU,Pl];rfl⟩) (by ext) pt
 obtain⟨S,O,E,l2,Q⟩:=vT (n:=n) (qs:=qs) (way:=a) (cut:=cut) (ps:=F) (z7:=J (.int (j:Int))) (z8:=z8) (z9:=z9) (z10:=z10) (s:=i) (t:=xB (ad sh (aa 4) (xC (.int 2)))) (c:=aH 1 [7,5] (bJ vv (ac (aa 7) a_)) (ws':=[]) (i_ 0) (xB (ad v8 (ad Bq (aa 1) (aa 2)) (ad Bq (aa 0) (aa 2)))) (bg (ac (aa 1) (ac (aa 0) a_)))) (b:=decide (a=2)) (hi:=rfl) (hz:=rfl) (by simp) (λz=>sD u n12 λk C s=>by
   exact⟨_,s,by simp![bX,aG,mO,Au,AR,AT,Aq,Hz,Pf,gD,rM,Pl];rfl⟩) (by ext) G
 obtain⟨R,M,P,l3,U⟩:=vT (n:=n) (qs:=qs) (way:=a) (cut:=cut) (ps:=S) (z7:=J (.int (j:Int))) (z8:=z8) (z9:=z9) (z10:=z10) (s:=O) (t:=xB (ad sh (aa 4) (xC (.int 4)))) (c:=aH 1 [7,0,2] (bJ vv (ac (aa 7) a_)) (ws':=[]) (i_ 0) (BX (xB (ad (pa T) (ad dS (aa 1) (aa 0)) (bg (ac (xC (.int 1)) (ac (ad dS (aa 3) (xC (.int 1))) a_))))) (xB (ad sh (aq aI (ac (aa 2) (ac (xC (.int 6)) a_))) (xC (.int 0))))) (bg (ac (aa 1) (ac (aa 0) a_)))) (b:=decide (a=4)) (hi:=rfl) (hz:=rfl) (by simp) (λz=>sD u n12 λk C s=>by
   have Z:=df (neg:=T) (x:=(j:Int)-(k:Int)) (d:=.tup [.int 1,.int ((n:Int)-1)]) (xs:=[1,(n:Int)-1]) rfl;obtain⟨d,i,H,X,B⟩:=cz (s:=s) (size:=6) (by decide) (by decide);have e:∀b:Bool,((if b=I then PR.ok I s else PR.ok (decide (d=0)) i):PR Bool)=.ok (if b=I then I else decide (d=0)) (if b=I then s else i):=λb=>by cases b<;>rfl
   refine⟨_,_,Eq.trans ?_ (e (decide ((j:Int)-(k:Int)∈[1,(n:Int)-1])))⟩
   simp![mV,bX,aG,aZ,ai,mO,Au,AR,AT,Aq,oG,Pf,dH,bv,aV,av,iF,fE,Z,Pl,B,fc,eU,n_,if_false]) (by ext) Q
 refine⟨R,M,?_,by ext,U⟩;rw[aA,L,PU.ag,aA,E,PU.ag,P]
def tS(k:SS):ju (kD k)=J k:=by
 have:=jM [k]
 simp only[mO,Au,ff]at this;revert this
 cases ju (kD k) with
 |none=>intro h;cases h
 |some y=>intro h;simp at h;rw[h]
def wu{a:SV}{N:Nat}{t:Xt a}{b:Xd a}(f:∀{Z h n},cm t.m b.m n Z h≠.bad->Gh t.m b.m Z h=cm t.m b.m n Z h){env:ar}{s:f_}:(JB N t b f).p env s=dW t.p b.p N env s:=rfl
def uo{n v:Int}{a:SU}(w:n9 n a):(below v a++above v a).length<=12:=by
 have:=List.Nodup.length_le_of_subset (l₂:=kj 12) (mD (v:=v) w).1 λx f=>by
  rw[dy]
  have:=(mD (v:=v) w).2 x f
  have:=w.n12
  ext
 simpa [kj]using this
abbrev R9:Xt [6]:=(b9 (xB (ad sh (aa 4) (xC (.int 3)))) (xB (ad Hr (ad dS (aa 2) (aa 8)) (xC (.int 2)))))
abbrev R_:Xd [6]:=(aE (bp 9 (ad aX (xC (.int 3)) (aq aI (ac (aa 0) (ac (ad dS (ad dS (aa 2) (aa 8)) (xC (.int 2))) a_)))))
 (aE (vp ky 6 (ac (aq eQ (ac (qp sK (ac (aa 8) (ac (ad aX (aa 8) (aa 9)) a_))) a_)) a_))
 (bp 8 (ad aX (aa 8) (aa 9)))))
def IA{i j:Int}(h:(-10000<=i/\i<=10000) /\ -10000<=j/\j<=10000):sK.p [.int i,.int j]=J (.lst (cP i (j-i).toNat)):=b_ h
def IB{n lo m:Nat}(n12:n<=12)(l:3<=m)(u:lo+m<=n):Rg n ((List.range m).map λi:Nat=>(lo:Int)+(i:Int)):=by
 refine⟨List.Pairwise.map (R:=λa b:Nat=>a≠b) _ (λa b h z=>h (by ext)) JS,λx j=>?_,n12,by simpa using l⟩;obtain⟨i,f,rfl⟩:=k6.mp j
 have:=A9.mp f
 ext
def ID{n:Nat}{qs:SS}{way cut:Int}{z7 z10:S7}(n12:n<=12):∀(N lo:Nat)(f:SW)(l:S7)(s:f_),n-lo+1<=N->lo<=n->f.length+12*(n-lo)<=900->(∀y∈f,AW n y) ->
  ∃a u j C,dW R9.p R_.p N (wE n qs way cut f z7 (J (.int (lo:Int))) l z10) s=.nx (wE n qs way cut a z7 u j z10) C/\a.length<=900/\∀y∈a,AW n y:=by
 intro N
 induction N with
 |zero=>intro _ _ _ _ h;ext
 |succ N L =>
  intro lo f l s hN R W pt;have H:R9.p (wE n qs way cut f z7 (J (.int (lo:Int))) l z10) s=.ok (decide (way=3)&&decide (2<(n:Int)-(lo:Int))) s:=by by_cases z:way=3<;>simp[z]
  rw[dW,H,Pg];by_cases z:way=3/\2<(n:Int)-(lo:Int)
  .rw[b_ (by simp[z.1,z.2])];obtain⟨d,Q,U,Z,S⟩:=cz (s:=s) (size:=(n:Int)-(lo:Int)-2) (by ext) (by ext);obtain⟨m,E⟩:=cS (i:=3+d) (by ext);obtain⟨r,B,F,X,rt⟩:=DX (s:=Q) (IB (lo:=lo) (m:=m) n12 (by ext) (by ext));have O:sK.p [.int (lo:Int),.int ((lo:Int)+(m:Int))]=J (.lst (((List.range m).map λi:Nat=>(lo:Int)+(i:Int)).map .int)):=by
    rw[IA ⟨⟨by ext,by ext⟩,by ext,by ext⟩,show((lo:Int)+(m:Int)-(lo:Int)).toNat=m by ext,xg];rfl
   obtain⟨a,u,j,C,e,M,P⟩:=L (lo+m) (f++r) (J (.int (m:Int))) B (by ext) (by ext) (by
    rw[zv];ext) λy G=>(nw.mp G).elim (pt y) (rt y)
   refine⟨a,u,j,C,?_,M,P⟩;rw[<-e];have st:R_.p (wE n qs way cut f z7 (J (.int (lo:Int))) l z10) s=.nx (wE n qs way cut (f++r) z7 (J (.int ((lo+m:Nat):Int))) (J (.int (m:Int))) z10) B:=by
    rw[aA,bt];simp![aG,bv,aV,aZ,ai,oG,Pf,av,S,fj,E,Pg,tp,si,PU.ag]
    rw[aA,dN (s1:=B) (as:=[.lst r]) (ds:=f) (ds':=f++r) (r:=.non) (by
     simp![ai,aZ,c5,aG,fj,Pf,av,O,F]) rfl (jR (by ext)),PU.ag]
    simp
   rw[st];rfl
  .refine⟨f,J (.int (lo:Int)),l,s,?_,by ext,pt⟩;rw[c_ (by simpa using z)]
abbrev SG:Xd [6]:=(pk (xB (ad Hr (aa 2) (xC (.int 1)))) (aE (bp 10 (aH 1 [0,2] (bJ vv (ac (aq aI (ac (aa 0) (ac (xC (.int 3)) a_))) a_)) (ws':=[]) (i_ 0) ka (bg (ac (aq aI (ac (aa 1) (ac (aa 2) a_))) (ac (aq aI (ac (aa 1) (ac (aa 2) a_))) a_)))))
 (vp ky 6 (ac (aH 2 [] (aT (aa 10)) (ws':=[]) (Ay (t0 (i_ 0) (t0 (i_ 1) Ax)) 2) (xB (ad v8 (aa 0) (aa 1))) (bg (ac (aa 0) (ac (aa 1) a_)))) a_))) ia)
def QJ{n:Nat}{qs:SS}{way cut:Int}{f:SW}{z7 z8 z9 z10:S7}{s:f_}(n12:n<=12)(pl:f.length<=900)(pt:∀y∈f,AW n y):
  ∃j l s',SG.p (wE n qs way cut f z7 z8 z9 z10) s=.nx (wE n qs way cut j z7 z8 z9 l) s'/\j.length<=902/\∀y∈j,AW n y:=by
 have S:(xB (ad Hr (aa 2) (xC (.int 1))):Xt [6]).p (wE n qs way cut f z7 z8 z9 z10) s=.ok (decide ((1:Int)<(n:Int))) s:=by simp
 rw[cM,S,Pg];by_cases z:(1:Int)<(n:Int)
 .rw[b_ (by simpa using z)];obtain⟨d,X,O,d1,qd⟩:=cz (s:=s) (size:=3) (by decide) (by decide);obtain⟨m,rfl⟩:=cS O
  obtain⟨r,u,q,Z,M⟩:=je (ws:=[6]) (ws':=[]) (env:=wE n qs way cut f z7 z8 z9 z10) (s:=s) (s0:=X) (fm:=[0,2]) (i:=bJ vv (ac (aq aI (ac (aa 0) (ac (xC (.int 3)) a_))) a_)) (t:=ka) (e:=bg (ac (aq aI (ac (aa 1) (ac (aa 2) a_))) (ac (aq aI (ac (aa 1) (ac (aa 2) a_))) a_))) (ds:=cP 0 m) (λy=>∃a b:Int,y=.tup [.int a,.int b]/\0<=a/\a<n/\0<=b/\b<n) (by
   simp![eT,aZ,ai,bv,aV,av,qd]
   rw[gI (by ext),Ap];rfl) (by rw[cW];ext) (λx L s=>by
    obtain⟨a,Q,G,F,R⟩:=cz (s:=s) (size:=(n:Int)) (by ext) (by ext);obtain⟨b,P,E,C,W⟩:=cz (s:=Q) (size:=(n:Int)) (by ext) (by ext);refine⟨I,s,rfl,λ_=>⟨_,P,?_,a,b,rfl,G,F,E,C⟩⟩
    simp![dH,ai,aZ,mO,Au,AR,AT,Aq,av,R,W,iF])
  rw[cW]at Z
  have H:=mS (ws:=[6]) (ws':=[]) (env:=wE n qs way cut f z7 z8 z9 (J (.lst r))) (s:=u) (fm:=[]) (i:=aT (aa 10)) (t:=xB (ad v8 (aa 0) (aa 1))) (e:=bg (ac (aa 0) (ac (aa 1) a_))) (ds:=r) (λx=>match x with|.tup [.int a,.int b]=>!decide (a=b)|_=>T) (λx=>x) (by simp) (by ext) (λx L=>by
   obtain⟨a,b,rfl,_⟩:=M x L
   exact⟨.int a,.int b,rfl,by simp,λ_=>by simp⟩)
  rw[List.map_id']at H;have fl:=BR (λx:D=>match x with|.tup [.int a,.int b]=>!decide (a=b)|_=>T) r;refine⟨f++r.filter λx=>match x with|.tup [.int a,.int b]=>!decide (a=b)|_=>T,J (.lst r),u,?_,by rw[zv];ext,λy B=>(nw.mp B).elim (pt y) λB=>?_⟩
  .rw[aA,bt,q,Pg];simp only[tp,si,PU.ag];exact dN (s1:=u) (as:=[.lst _]) (ds:=f) (ds':=f++_) (r:=.non) (by rw[ai,H];rfl) rfl (jR (by ext))
  .obtain⟨h1,U⟩:=As.mp B;obtain⟨a,b,rfl,G,F,E,C⟩:=M y h1;exact⟨[a,b],rfl,a,b,rfl,G,F,E,C,by simpa using U⟩
 .rw[c_ (by simpa using z)];exact⟨f,z10,s,rfl,by ext,pt⟩
def MD{n:Nat}{f:SS}{way cut:Int}{l:SU}{z7 z8 z9 z10:S7}{s:f_}(o:Ord n f)(E:∀k∈l,IsT n k)(Q:l.length<=902):
  ∃B:SU,(aH 2 [3] (aT (aa 6)) (ws':=[]) (Ay (t0 (i_ 0) (t0 (i_ 1) Ax)) 2) ka (bg (ac (ad o_ (aa 2) (aa 0)) (ac (ad o_ (aa 2) (aa 1)) a_))):Xe [6]).p (wE n f way cut (l.map kD) z7 z8 z9 z10) s=.ok (.lst (B.map kD)) s/\(∀k∈B,IsT n k)/\B.length<=902:=by
 have R:=o.len;have nd:f.Nodup:=o.pm.symm.nodup (uE n);refine⟨l.map λk=>match k with|[a,b]=>[f.getD a.toNat 0,f.getD b.toNat 0]|_=>[],?_,λk u=>?_,by simpa using Q⟩
 .have F:=mS (ws:=[6]) (ws':=[]) (env:=wE n f way cut (l.map kD) z7 z8 z9 z10) (s:=s) (fm:=[3]) (i:=aT (aa 6)) (t:=ka) (e:=bg (ac (ad o_ (aa 2) (aa 0)) (ac (ad o_ (aa 2) (aa 1)) a_))) (ds:=l.map kD) (λ_=>I) (λx=>match ju x with|some [a,b]=>kD [f.getD a.toNat 0,f.getD b.toNat 0]|_=>kD []) (by simp) (by simp;ext) (λx M=>by
   obtain⟨k,u,rfl⟩:=k6.mp M;obtain⟨a,b,rfl,C,P,y,O,_⟩:=E k u;obtain⟨a,rfl⟩:=cS C;obtain⟨b,rfl⟩:=cS y;refine⟨.int (a:Int),.int (b:Int),rfl,rfl,λ_=>?_⟩;rw[tS];simp![dH,ai,aG,mO,Au,AR,AT,Aq,fb,mU (show a<f.length by ext),mU (show b<f.length by ext),Pf,av,iF,Ap]
   rfl)
  rw[fV,xg]at F;rw[F,xg];congr 2;refine E9 λk u=>?_;obtain⟨a,b,rfl,_⟩:=E k u;simp[tS]
 .obtain⟨L,z,rfl⟩:=k6.mp u;obtain⟨a,b,rfl,C,P,y,O,ne⟩:=E L z;obtain⟨a,rfl⟩:=cS C;obtain⟨b,rfl⟩:=cS y;have H:=o.at (j:=a) (by ext);have G:=o.at (j:=b) (by ext);simp only[Ap];refine⟨_,_,rfl,H.1,H.2,G.1,G.2,λe=>ne ?_⟩;rw[EX nd (i:=a) (j:=b) (by ext) (by ext) e]
def MF{s:f_}:∃(n:Nat)(O:SU)(C:f_),gS.p [.pen,.int 12] s=.ok (aw n O) C/\n<=12/\n9 n O:=by
 obtain⟨a,s1,a0,a9,qa⟩:=cz (s:=s) (size:=13) (by decide) (by decide);obtain⟨n,rfl⟩:=cS a0;obtain⟨B,s2,X,o⟩:=uF (n:=n) (s:=s1) (by ext);obtain⟨i,s3,w0,w9,qw⟩:=cz (s:=s2) (size:=5) (by decide) (by decide);obtain⟨f,s4,c0,c9,Z⟩:=cz (s:=s3) (size:=(n:Int)+1) (by ext) (by ext);obtain⟨P,s5,e5,u,l,rfl,H,pt⟩:=eN (g:=(i_ 7:Xg [6]).p) (b:=R8.p)
  (λj env C=>∃u l,env=wE n B i f l u Y Y Y/\l.length<=36*j/\∀y∈l,AW n y) (cP 0 n) 0 _ s4 ⟨Y,[],rfl,by simp,by simp⟩ (λj env C d ⟨z,l,W,H,pt⟩ hd=>by
   rw[yV]at H ⊢;subst W;obtain⟨rfl,hj⟩:=rH hd;obtain⟨L,M,q,ab,E⟩:=QI (cut:=f) (z8:=Y) (z9:=Y) (z10:=Y) (s:=C) (qs:=B) hj (by ext) w0 (by ext) pt
   exact⟨_,_,M,rfl,q,_,L,rfl,by ext,E⟩)
 rw[cW,yV]at H;obtain⟨p6,R,U,s6,e6,l6,t6⟩:=ID (n:=n) (qs:=B) (way:=i) (cut:=f) (z7:=u) (z10:=Y) (by ext) 400 0 l Y s5 (by ext) (by ext) (by ext) pt;obtain⟨p7,F,G,e7,S,t7⟩:=QJ (n:=n) (qs:=B) (way:=i) (cut:=f) (z7:=u) (z8:=R) (z9:=U) (z10:=Y) (s:=s6) (by ext) l6 t6;obtain⟨O,rfl,kt⟩:=xo t7;rw[oh]at S;obtain⟨hs,e8,Q,hl⟩:=MD (way:=i) (cut:=f) (z7:=u) (z8:=R) (z9:=U) (z10:=F) (s:=G) o kt S;have mk:=Iy (s:=G) (n:=n) (by ext) Q (by ext);refine⟨n,cT (SetT.qb (hs.map BH)),G,?_,by ext,DU (by ext) (by ext) (yd Q)⟩;rw[zg (by rfl)];unfold iU;rw[show mm 11 [D.pen,.int 12]=[J .pen,J (.int 12),Y,Y,Y,Y,Y,Y,Y,Y,Y]from rfl];rw[aA,bt];simp![aG,bv,aV,aZ,ai,av,fj,Pf,show(12:Int)+1=13 from rfl,qa,Pg,tp,si,PU.ag];rw[aA,bt];simp![aZ,ai,av,X,Pg,tp,si,PU.ag];rw[aA,bt];simp![aZ,ai,bv,aV,av,qw,Pg,tp,si,PU.ag];rw[aA,bt];simp![aG,bv,aV,aZ,ai,av,fj,Pf,Z,Pg,tp,si,PU.ag];rw[aA,gP];simp only[bQ,av,Pb,Fh,u0,if_true,Pg,tp,si,PU.ag];rw[aA,fL,eT,ai];simp![av];rw[gI (by ext),Ap,Pf,Pg];refine(congrArg (λz:PS=>(z.then _).fin) e5).trans ?_;rw[PU.ag,aA,bt];simp only[bv,aV,Pg,tp,si,PU.ag];rw[aA,wu iL];refine(congrArg (λz:PS=>(z.then _).fin) e6).trans ?_;rw[PU.ag,aA];refine(congrArg (λz:PS=>(z.then _).fin) e7).trans ?_;rw[PU.ag,cU,aZ,ai];simp![Pb];rw[ai,e8];simp only[Pb,av,mk,Pg,PU.cR]
def Td(f:SU)(a b:Int):Prop:=[a,b]∈f\/[b,a]∈f
def Td.symm{f:SU}{a b:Int}(h:Td f a b):Td f b a:=h.elim .inr .inl
def MK{n:Int}{f:SU}(w:n9 n f){a b:Int}(h:Td f a b):a≠b/\(0<=a/\a<n)/\0<=b/\b<n:=by rcases h with h|h<;>obtain⟨x,y,e,l,i,j⟩:=w.tie _ h<;>injection e with e1 e<;>injection e with e2 _<;>subst e1 e2<;>ext
def iR{n v x:Int}{i:SU}(w:n9 n i):x∈Ao v i↔Td i v x:=by
 unfold Ao Td below above;rw[nw,BS,BS];constructor
 .rintro (⟨k,f,e⟩|⟨k,f,e⟩)<;>obtain⟨a,b,rfl,_⟩:=w.tie k f
  .by_cases z:b=v
   .simp[z]at e;subst e z;exact .inr f
   .simp[z]at e
  .by_cases z:a=v
   .simp[z]at e;subst e z;exact .inl f
   .simp[z]at e
 .rintro (h|h)
  .exact .inr ⟨_,h,by simp⟩
  .exact .inl ⟨_,h,by simp⟩
inductive Iw(ks:SU)(ps:SS)(a:Int):SS->Int->Prop where
 |one:Iw ks ps a [a] a
 |more{wy:SS}{e p:Int}:Iw ks ps a wy e->Td ks e p->p∈ps->p∉wy->(∀x∈wy,x≠e->¬Td ks x p)->Iw ks ps a (wy++[p]) p
inductive Rc(ks:SU)(ps:SS)(a:Int):Int->Prop where
 |base:Rc ks ps a a
 |step{x y:Int}:Rc ks ps a x->Td ks x y->y∈ps->Rc ks ps a y
def Iw.last{l:SU}{i:SS}{a e:Int}{f:SS}(h:Iw l i a f e):∃j,f=j++[e]:=by
 cases h with
 |one=>exact⟨[],rfl⟩
 |@more w e p=>exact⟨w,rfl⟩
def Iw.nd{C:SU}{i:SS}{a e:Int}{f:SS}(h:Iw C i a f e):f.Nodup:=by
 induction h with
 |one=>simp
 |@more f e p _ _ _ u _ j =>
  rw[A4];refine⟨j,by simp,λx l y B z=>u ?_⟩
  have:y=p:=by simpa using B
  rw[<-this,<-z];exact l
def yN{a:SW}{d:D}:n5 (a++[d]) (-1)=J d:=by
 unfold n5 xl;rw[c_ (by decide),b_ (by simp;ext),Ar]
 have:((-1:Int)+((a++[d]).length:Int)).toNat=a.length:=by simp;ext
 rw[this];simp
structure Bf(n:Nat)(ks:SU)(ps:SS)(a b:Int)(pd:SS)(qu:List (SS×Int))(sn:SS):Prop where
 eq:sn=pd++qu.map (·.2)
 nd:sn.Nodup
 bd:∀x∈sn,0<=x/\x<(n:Int)
 st:a∈sn
 gw:∀q∈qu,Iw ks ps a q.1 q.2/\∀x∈q.1,x≠q.2->x∈pd
 cl:∀x∈pd,∀y,Td ks x y->y∈ps->y∈sn
 nb:b∉pd
def bI(a f ns:SS):SS:=ns.filter λp=>decide (p∈a) && !decide (p∈f)
def ib{a f ns:SS}{p:Int}:p∈bI a f ns↔p∈ns/\p∈a/\p∉f:=by simp[bI]
def Bf.len{n:Nat}{u:SU}{j:SS}{a b:Int}{i:SS}{f:List (SS×Int)}{y:SS}(h:Bf n u j a b i f y):i.length+f.length<=n:=by
 have:=List.Nodup.length_le_of_subset (l₂:=kj n) h.nd λx l=>dy.mpr (h.bd x l)
 rw[h.eq]at this;simpa [kj]using this
def Bf.step{n:Nat}{l:SU}{u:SS}{a b e:Int}{F B:SS}{M:List (SS×Int)}{j:SS}(w:n9 n l)(h:Bf n l u a b F ((B,e)::M) j)(ne:e≠b):Bf n l u a b (F++[e]) (M++(bI u j (Ao e l)).map λp=>(B++[p],p)) (j++bI u j (Ao e l)):=by
 obtain⟨P,G⟩:Iw l u a B e/\∀x∈B,x≠e->x∈F:=h.gw (B,e) mu;have W:e∈j:=by rw[h.eq];simp
 have H:∀x∈F,x∈j:=λx f=>by rw[h.eq];exact vK _ f
 refine⟨?_,?_,λx f=>?_,vK _ h.st,λq E=>?_,λx f y t py=>?_,λC=>?_⟩
 .have e1:=h.eq;generalize bI u j (Ao e l)=Z;rw[e1];simp[Function.comp_def]
 .rw[A4];refine⟨h.nd,((mD (v:=e) w).1).filter _,λx f y R z=>?_⟩;subst z;exact(ib.mp R).2.2 f
 .rcases nw.mp f with f|f
  .exact h.bd x f
  .exact (MK w ((iR w).mp (ib.mp f).1)).2.2
 .rcases nw.mp E with E|E
  .obtain⟨Q,U⟩:=h.gw q (nt _ E);exact⟨Q,λx f i=>vK _ (U x f i)⟩
  .obtain⟨p,S,rfl⟩:=k6.mp E;obtain⟨X,O,L⟩:=ib.mp S;refine⟨.more P ((iR w).mp X) O (λz=>?_) λx f i t=>L (h.cl x (G x f i) p t O),λx f i=>?_⟩
   .by_cases y:p=e
    .exact L (y▸W)
    .exact L (H p (G p z y))
   .rcases nw.mp f with f|f
    .by_cases y:x=e
     .subst y;simp
     .exact vK _ (G x f y)
    .exact absurd (by simpa using f) i
 .rcases nw.mp f with f|f
  .exact vK _ (h.cl x f y t py)
  .have:x=e:=by simpa using f
   subst this;by_cases z:y∈j
   .exact vK _ z
   .exact pu _ (ib.mpr ⟨(iR w).mpr t,py,z⟩)
 .rcases nw.mp C with C|C
  .exact h.nb C
  .have:b=e:=by simpa using C
   exact ne this.symm
def Bf.stop{n:Nat}{i:SU}{f:SS}{a b:Int}{l j:SS}(h:Bf n i f a b l [] j):¬Rc i f a b:=λr=>by
 have e:j=l:=by rw[h.eq];simp
 have:∀y,Rc i f a y->y∈j:=λy r=>by
  induction r with
  |base=>exact h.st
  |step _ t py u=>exact h.cl _ (e▸u) _ t py
 exact h.nb (e▸this b r)
def EY(q:SS×Int):D:=.lst (q.1.map .int)
abbrev AA(n:Nat)(ks:SU)(ps:SS)(a b:Int)(qu:List (SS×Int))(sn:SS)(z6 z7:S7):ar:=[J (aw n ks),J (.lst (ps.map .int)),J (.int a),J (.int b),J (.lst (qu.map EY)),J (.lst (sn.map .int)),z6,z7]
abbrev QK:Xd [4,5]:=(pk (b9 (xB (ad (pa T) (aa 7) (aa 1))) (xB (ad (pa I) (aa 7) (aa 5)))) (aE (vp j3 5 (ac (aa 7) a_))
 (vp j3 4 (ac (ad aX (aa 6) (bu (ac (aa 7) a_))) a_))) ia)
abbrev N4:Xd [4,5]:=(aE (qV 6 AQ 4 (ac (xC (.int 0)) a_))
 (aE (pk (xB (ad sh (ad o_ (aa 6) (y4 ki (xC (.int 1)))) (aa 3))) (bR (aa 6)) ia)
 (gu (aT (aq bC (ac (aa 0) (ac (ad o_ (aa 6) (y4 ki (xC (.int 1)))) a_)))) (i_ 7) QK)))
abbrev ML:Xt [4,5]:=HJ (aa 4)
def IE{n:Nat}{ks:SU}{ps:SS}{a b:Int}{qu:List (SS×Int)}{sn wy ns:SS}{z7:S7}{s:f_}(nd:ns.Nodup)(W:ns.length<=12)(U:qu.length<=100)(l3:sn.length<=100)(Z:wy.length<=100):
  ∃i,Bg (i_ 7:Xg [4,5]).p QK.p (ns.map .int) (AA n ks ps a b qu sn (J (.lst (wy.map .int))) z7) s=.nx (AA n ks ps a b (qu++(bI ps sn ns).map λp=>(wy++[p],p)) (sn++bI ps sn ns) (J (.lst (wy.map .int))) i) s:=by
 obtain⟨E,f,e,i,rfl,rfl⟩:=eN (g:=(i_ 7:Xg [4,5]).p) (b:=QK.p)
  (λj env f=>∃i,env=AA n ks ps a b (qu++(bI ps sn (ns.take j)).map λp=>(wy++[p],p)) (sn++bI ps sn (ns.take j)) (J (.lst (wy.map .int))) i/\f=s) (ns.map .int) 0 (AA n ks ps a b qu sn (J (.lst (wy.map .int))) z7) s ⟨z7,by simp[bI],rfl⟩ (λj env f d ⟨i,C,Q⟩ hd=>by
   rw[yV]at C ⊢;subst C Q;obtain⟨rfl,B⟩:=zE hd;have R:ns.getD j 0=ns[j]:=by simp[List.getD,B]
   rw[R];have G:ns.take (j+1)=ns.take j++[ns[j]]:=by rw[Fj];simp[B]
   have F:ns[j]∉ns.take j:=λz=>by
    have:=nd
    rw[<-BQ j ns,A4]at this;exact this.2.2 _ z _ (by rw[Oc B];exact mu) rfl
   have X:(bI ps sn (ns.take j)).length<=12:=by
    have:=BR (λp=>decide (p∈ps) && !decide (p∈sn)) (ns.take j)
    have l:=Ol j ns;unfold bI;rw[Je]at this;ext
   have H:=df (neg:=T) (x:=ns[j]) (d:=.lst (ps.map .int)) (xs:=ps) rfl;have P:=df (neg:=I) (x:=ns[j]) (d:=.lst ((sn++bI ps sn (ns.take j)).map .int)) (xs:=sn++bI ps sn (ns.take j)) rfl;refine⟨AA n ks ps a b (qu++(bI ps sn (ns.take j)).map λp=>(wy++[p],p)) (sn++bI ps sn (ns.take j)) (J (.lst (wy.map .int))) (J (.int ns[j])),AA n ks ps a b (qu++(bI ps sn (ns.take (j+1))).map λp=>(wy++[p],p)) (sn++bI ps sn (ns.take (j+1))) (J (.lst (wy.map .int))) (J (.int ns[j])),f,rfl,?_,_,rfl,rfl⟩;have O:bI ps sn (ns.take (j+1))=bI ps sn (ns.take j)++(if ns[j]∈ps/\ns[j]∉sn then [ns[j]]else []):=by unfold bI;rw[G,List.filter_append];congr 1;by_cases u:ns[j]∈ps<;>by_cases y:ns[j]∈sn<;>simp[u,y]
   have M:ns[j]∈sn++bI ps sn (ns.take j)↔ns[j]∈sn:=by rw[nw];exact⟨λh=>h.elim id λh=>absurd (ib.mp h).1 F,.inl⟩
   have L:(b9 (xB (ad (pa T) (aa 7) (aa 1))) (xB (ad (pa I) (aa 7) (aa 5))):Xt [4,5]).p (AA n ks ps a b (qu++(bI ps sn (ns.take j)).map λp=>(wy++[p],p)) (sn++bI ps sn (ns.take j)) (J (.lst (wy.map .int))) (J (.int ns[j]))) f=.ok (decide (ns[j]∈ps/\ns[j]∉sn)) f:=by
    simp![fQ,bX,aG,fE,H,P,Pf,Pl,n_,if_false,if_true];by_cases u:ns[j]∈ps
    .simp only[u,decide_true,if_true,true_and,decide_not];by_cases y:ns[j]∈sn<;>simp[M,y]
    .simp[u]
   rw[cM,L,Pg,O];by_cases z:ns[j]∈ps/\ns[j]∉sn
   .rw[b_ (by simpa using z),b_ z,aA];rw[dN (s1:=f) (as:=[.int ns[j]]) (ds:=(sn++bI ps sn (ns.take j)).map .int) (ds':=(sn++(bI ps sn (ns.take j)++[ns[j]])).map .int) (r:=.non) (by simp) rfl (by rw[fZ (by simp;ext)];simp),PU.ag];have S:aX.p (.lst (wy.map .int)) (.lst [.int ns[j]])=J (.lst ((wy++[ns[j]]).map .int)):=by
     rw[cG (by simp;ext)];simp
    rw[dN (s1:=f) (as:=[.lst ((wy++[ns[j]]).map .int)]) (ds:=(qu++(bI ps sn (ns.take j)).map λp=>(wy++[p],p)).map EY) (ds':=(qu++(bI ps sn (ns.take j)++[ns[j]]).map λp=>(wy++[p],p)).map EY) (r:=.non) (by
     simp![tp,si,ai,aG,bQ,av,AU,Fh,show(0+1:Nat)<=100000 by decide,if_true,S,Pf]) rfl (by rw[fZ (by simp;ext)];simp[EY])]
    rfl
   .rw[c_ (by simpa using z),c_ z,En]
    rfl)
 rw[oh,yV,Jj]at e;exact⟨i,e⟩
def IF{n:Nat}{i:SU}{j:SS}{a b:Int}{s:f_}(w:n9 n i):∀(N:Nat)(G:SS)(B:List (SS×Int))(u:SS)(E C:S7),n-G.length+1<=N->Bf n i j a b G B u ->
  (∃f,dW ML.p N4.p N (AA n i j a b B u E C) s=.rt (.lst (f.map .int)) s/\Iw i j a f b)\/(∃F,dW ML.p N4.p N (AA n i j a b B u E C) s=.nx F s/\¬Rc i j a b):=by
 intro N
 induction N with
 |zero=>intro _ _ _ _ _ h;ext
 |succ N Z =>
  intro G B u E C hd h;have P:=h.len;have n12:=w.n12
  cases B with
  |nil=>exact .inr ⟨AA n i j a b [] u E C,by rw[dW,show ML.p (AA n i j a b [] u E C) s=.ok T s by simp[jh]];rfl,h.stop⟩
  |cons q B =>
   obtain⟨f,e⟩:=q;obtain⟨H,S⟩:Iw i j a f e/\∀x∈f,x≠e->x∈G:=h.gw (f,e) mu;have es:e∈u:=by rw[h.eq];simp
   have Q:=h.bd e es;have X:ML.p (AA n i j a b ((f,e)::B) u E C) s=.ok I s:=by simp[jh]
   rw[dW,X,Pg,b_ rfl];obtain⟨w0,L⟩:=H.last;have M:ki.p (.int 1)=J (.int (-1)):=rfl;have O:n5 (f.map D.int) (-1)=J (.int e):=by rw[L,Bv];exact yN
   have R:(qV 6 AQ 4 (ac (xC (.int 0)) a_):Xd [4,5]).p (AA n i j a b ((f,e)::B) u E C) s=.nx (AA n i j a b B u (J (.lst (f.map .int))) C) s:=by refine Eq.trans (show _=A6 AQ 4 (ac (xC (.int 0)) a_:Xs [4,5]).p (AA n i j a b ((f,e)::B) u E C) s (λr env s=>.nx (env.set 6 (J r)) s)from rfl) ?_;rw[sk (as:=[.int 0]) (s1:=s) (ds:=EY (f,e)::B.map EY) (r:=EY (f,e)) (ds':=B.map EY) (by simp) rfl rfl];rfl
   by_cases z:e=b
   .subst z;refine .inl ⟨f,?_,H⟩;rw[aA,R,PU.ag,aA,cM];simp![bX,aG,i5,bv,aV,M,Pf,fb,O,fc,eU,decide_true,Pl,Pg,if_true,cU,PU.iW,n_,if_false];rfl
   .have W:f.length<=100:=by
     have l:=List.Nodup.length_le_of_subset (l₂:=kj n) H.nd λx U=>dy.mpr (by
      by_cases y:x=e
      .subst y;exact Q
      .exact h.bd x (by rw[h.eq];exact vK _ (S x U y)))
     simp[kj]at l;ext
    have sl:u.length<=100:=by
     have:=congrArg List.length h.eq
     simp at this P;ext
    have nl:(Ao e i).length<=12:=uo (v:=e) w;obtain⟨y7,ef⟩:=IE (n:=n) (ks:=i) (ps:=j) (a:=a) (b:=b) (qu:=B) (sn:=u) (wy:=f) (z7:=C) (s:=s) (mD (v:=e) w).1 nl (by simp at P;ext) sl W;have st:N4.p (AA n i j a b ((f,e)::B) u E C) s=.nx (AA n i j a b (B++(bI j u (Ao e i)).map λp=>(f++[p],p)) (u++bI j u (Ao e i)) (J (.lst (f.map .int))) y7) s:=by rw[aA,R,PU.ag,aA,cM];simp![bX,aG,i5,bv,aV,M,Pf,fb,O,fc,eU,z,decide_false,Pl,Pg,n_,if_false,kO,PU.ag];rw[fL];simp![g8,aZ,ai,aG,i5,bv,aV,M,Pf,fb,O,av,EW w Q.1 Q.2,yn,Pg];exact ef
    rw[st];exact Z (G++[e]) _ _ _ _ (by simp at P ⊢;ext) (h.step w z)
def DY{n:Nat}{f:SU}{ps:SS}{a b:Int}{s:f_}(w:n9 n f)(z:0<=a/\a<(n:Int)):
  (∃i,ba.p [aw n f,.lst (ps.map .int),.int a,.int b] s=.ok (.lst (i.map .int)) s/\Iw f ps a i b)\/(ba.p [aw n f,.lst (ps.map .int),.int a,.int b] s=.ok .non s/\¬Rc f ps a b):=by
 have y:Bf n f ps a b [] [([a],a)] [a]:=by
  refine⟨rfl,by simp,λx j=>?_,by simp,λq B=>?_,by simp,by simp⟩
  .have:x=a:=by simpa using j
   subst this;exact z
  .have:q=([a],a):=by simpa using B
   subst this;exact⟨.one,λx j l=>absurd (by simpa using j) l⟩
 have r:=IF (s:=s) w 400 [] [([a],a)] [a] Y Y (by have:=w.n12;simp;ext) y;have pre:ba.p [aw n f,.lst (ps.map .int),.int a,.int b] s=((dW ML.p N4.p 400 (AA n f ps a b [([a],a)] [a] Y Y) s).then (bR (xC .non):Xd [4,5]).p).fin:=by rw[nT (by rfl)];unfold cN;rw[show mm 8 [aw n f,.lst (ps.map .int),.int a,.int b]=[J (aw n f),J (.lst (ps.map .int)),J (.int a),J (.int b),Y,Y,Y,Y]from rfl];rw[aA,gP];simp![bQ,ai,av,AU,Fh,show(0+1:Nat)<=100000 by decide,if_true,Pg,tp,si,PU.ag,aA,gP];rw[wu iL];rfl
 rw[pre];rcases r with⟨i,r,t⟩|⟨u,r,t⟩
 .refine .inl ⟨i,?_,t⟩;rw[r];rfl
 .refine .inr ⟨?_,t⟩;rw[r];rfl
def kR{α:Type}{f:α->Int}:∀{l m:List α},l.Pairwise (λa b=>f a<f b)->m.Pairwise (λa b=>f a<f b)->(∀x,x∈l↔x∈m)->l=m
 |[],[],_,_,_=>rfl
 |[],y::m,_,_,h=>absurd ((h y).mpr mu) (by simp)
 |x::l,[],_,_,h=>absurd ((h x).mp mu) (by simp)
 |x::l,y::m,u,j,h=>by
  rw[Bl]at u j;have e:x=y:=by
   rcases j_.mp ((h x).mp mu)with z|z
   .exact z
   .rcases j_.mp ((h y).mpr mu)with B|B
    .exact B.symm
    .have:=j.1 x z;have:=u.1 y B;ext
  subst e;rw[kR u.2 j.2 λz=>⟨λi=>?_,λi=>?_⟩]
  .rcases j_.mp ((h z).mp (nt _ i))with q|q
   .subst q;have:=u.1 z i;ext
   .exact q
  .rcases j_.mp ((h z).mpr (nt _ i))with q|q
   .subst q;have:=j.1 z i;ext
   .exact q
section
variable{ks:SU}{L M:SS}{a x y z:Int}{P Q:SU}
def Rc.trans(h:Rc ks L x y)(i:Rc ks L y z):Rc ks L x z:=by
 induction i with
 |base=>exact h
 |step _ t m f=>exact .step f t m
def Rc.mem(f:x∈L)(h:Rc ks L x y):y∈L:=by
 cases h with
 |base=>exact f
 |step _ _ m=>exact m
def Rc.symm(i:x∈L)(h:Rc ks L x y):Rc ks L y x:=by
 induction h with
 |base=>exact .base
 |step r t m f=>exact Rc.trans (.step .base t.symm (r.mem i)) f
def Rc.mono(s:∀x∈M,x∈L)(h:Rc ks M x y):Rc ks L x y:=by
 induction h with
 |base=>exact .base
 |step _ t m f=>exact .step f t (s _ m)
def Rc.back(c:∀x∈M,∀y,Rc ks L x y->y∈M)(i:x∈M)(h:Rc ks L x y):Rc ks M x y:=by
 induction h with
 |base=>exact .base
 |step r t m f=>exact .step f t (c x i _ (.step r t m))
structure Part(ks:SU)(L M:SS)(P:SU):Prop where
 ris:∀p∈P,p.Pairwise (·<·)
 ne:∀p∈P,p≠[]
 hd:P.Pairwise λp q=>p.headD 0<q.headD 0
 cl:∀p∈P,∀x∈p,∀y,y∈p↔Rc ks L x y
 all:∀x∈M,∃p∈P,x∈p
 sub:∀p∈P,∀x∈p,x∈M
def Part.le(h:Part ks L M P)(l:Part ks L M Q):∀p∈P,p∈Q:=λp i=>by
 cases p with
 |nil=>exact absurd rfl (h.ne _ i)
 |cons a p =>
  obtain⟨q,j,u⟩:=l.all a (h.sub _ i a mu);rw[kR (f:=id) (h.ris _ i) (l.ris _ j) λy=>(h.cl _ i a mu y).trans (l.cl _ j a u y).symm];exact j
def Part.uniq(h:Part ks L M P)(f:Part ks L M Q):P=Q:=kR h.hd f.hd λp=>⟨h.le f p,f.le h p⟩
def Part.len(h:Part ks L M P):P.length<=M.length:=by
 have nd:(P.map λp=>p.headD 0).Nodup:=A5.mpr (h.hd.imp λ{a b} h=>by ext)
 have:=List.Nodup.length_le_of_subset (l₂:=M) nd λx i=>by
  obtain⟨p,f,rfl⟩:=k6.mp i
  cases p with
  |nil=>exact absurd rfl (h.ne _ f)
  |cons a p=>exact h.sub _ f a mu
 simpa using this
open Classical in
def bG(ks:SU)(M:SS)(a:Int):SS:=M.filter λy=>decide (Rc ks M a y)
def AB(ks:SU):Nat->SS->SU
 |0,_=>[]
 |_+1,[]=>[]
 |f+1,a::l=>bG ks (a::l) a::AB ks f ((a::l).filter λy=>!decide (y∈bG ks (a::l) a))
def lm:y∈bG ks M a↔y∈M/\Rc ks M a y:=by simp[bG]
def o6{l:SS}:∃r,bG ks (a::l) a=a::r:=by unfold bG;rw[Of (by simpa using Rc.base)];exact⟨_,rfl⟩
def sL{l:SS}:((a::l).filter λy=>!decide (y∈bG ks (a::l) a))=l.filter λy=>!decide (y∈bG ks (a::l) a) :=
 Og (by simp[lm,Rc.base])
def zC:∀(f:Nat)(M:SS),M.length<=f->M.Pairwise (·<·)->(∀x∈M,x∈L)->(∀x∈M,∀y,Rc ks L x y->y∈M)->Part ks L M (AB ks f M):=by
 intro f
 induction f with
 |zero =>
  intro M U _ _ _
  have:M=[]:=E5.mp (by ext)
  subst this;exact⟨by simp[AB],by simp[AB],by simp[AB],by simp[AB],by simp,by simp[AB]⟩
 |succ f X =>
  intro M U O E H
  cases M with
  |nil=>exact⟨by simp[AB],by simp[AB],by simp[AB],by simp[AB],by simp,by simp[AB]⟩
  |cons a l =>
   have F:a∈a::l:=mu;have key:∀y,y∈bG ks (a::l) a↔Rc ks L a y:=λy=>lm.trans ⟨λh=>h.2.mono E,λh=>⟨H a F y h,h.back H F⟩⟩;have B:∀y,y∈((a::l).filter λy=>!decide (y∈bG ks (a::l) a))↔y∈a::l/\¬Rc ks L a y:=λy=>by
    rw[As,<-key];simp
   have j:=X ((a::l).filter λy=>!decide (y∈bG ks (a::l) a)) (by
    rw[sL]
    have:=BR (λy=>!decide (y∈bG ks (a::l) a)) l
    simp at U;ext) (O.filter _) (λx u=>E x ((B x).mp u).1) (λx u y r=>by
    obtain⟨C,R⟩:=(B x).mp u
    exact(B y).mpr ⟨H x C y r,λq=>R (q.trans (r.symm (E x C)))⟩)
   have G:∀x y,Rc ks L a x->(Rc ks L a y↔Rc ks L x y):=λx y h=>⟨λS=>(h.symm (E a F)).trans S,λS=>h.trans S⟩;unfold AB;refine⟨λp i=>?_,λp i=>?_,?_,λp i=>?_,λx u=>?_,λp i x u=>?_⟩
   .rcases j_.mp i with rfl|i
    .exact O.filter _
    .exact j.ris p i
   .rcases j_.mp i with rfl|i
    .obtain⟨r,e⟩:=o6 (ks:=ks) (a:=a) (l:=l);rw[e];simp
    .exact j.ne p i
   .refine Bl.mpr ⟨λq W=>?_,j.hd⟩;obtain⟨r,e⟩:=o6 (ks:=ks) (a:=a) (l:=l);rw[e]
    cases q with
    |nil=>exact absurd rfl (j.ne _ W)
    |cons b q =>
     obtain⟨C,R⟩:=(B b).mp (j.sub _ W b mu);show a<b;rcases j_.mp C with rfl|C
     .exact absurd .base R
     .exact (Bl.mp O).1 b C
   .rcases j_.mp i with rfl|i
    .exact λx u y=>(key y).trans (G x y ((key x).mp u))
    .exact j.cl p i
   .by_cases z:Rc ks L a x
    .exact⟨_,mu,(key x).mpr z⟩
    .obtain⟨p,i,h⟩:=j.all x ((B x).mpr ⟨u,z⟩);exact⟨p,nt _ i,h⟩
   .rcases j_.mp i with rfl|i
    .exact (lm.mp u).1
    .exact ((B x).mp (j.sub p i x u)).1
end
abbrev ii(p:SS):D:=.lst (p.map .int)
structure Sm(n:Nat)(qs:SS):Prop where
 n12:n<=12
 nd:qs.Nodup
 bd:∀x∈qs,0<=x/\x<(n:Int)
def Sm.len{n:Nat}{a:SS}(m:Sm n a):a.length<=n:=by
 have:=List.Nodup.length_le_of_subset (l₂:=kj n) m.nd λx f=>dy.mpr (m.bd x f)
 simpa [kj]using this
def zo(n:Nat)(a:SS):SS:=(kj n).filter λx=>!decide (x∈a)
def kN{n:Nat}{a:SS}{x:Int}:x∈zo n a↔(0<=x/\x<(n:Int))/\x∉a:=by simp[zo,dy]
def uQ{n:Nat}{f:SS}:(zo n f).Pairwise (·<·):=by unfold zo kj;exact(List.Pairwise.map (R:=λa b:Nat=>a<b) _ (λa b h=>by ext) Oi).filter _
def fB{n:Nat}{qs:SS}:(zo n qs).length<=n:=by
 have:=BR (λx=>!decide (x∈qs)) (kj n)
 unfold zo;simpa [kj]using this
def lw(n:Nat)(f:SU)(a:SS):SU:=AB f n (zo n a)
def fJ{n:Nat}{ks:SU}{qs:SS}:Part ks (zo n qs) (zo n qs) (lw n ks qs):=zC n _ fB uQ (λ_ h=>h) λ_ a _ r=>r.mem a
def xD{n:Nat}{f:SU}{a:SS}{s:f_}(m:Sm n a):bx.p [aw n f,.lst (a.map .int)] s=.ok .non s:=by have i:=m.len;have n12:=m.n12;have e1:=ET (ns:=a) (by ext);rw[ux.mpr m.nd]at e1;rw[cY (by rfl)];unfold bz;simp[mm,aw,rL m.bd,cQ,e1]
def eO(p:Int->Bool)(q:D->Bool):∀(ns:SS),(∀i∈ns,q (.int i)=p i)->(((ns.map D.int).filter q).map λx=>x)=(ns.filter p).map .int
 |[],_=>rfl
 |i::ns,h=>by
  have a:=eO p q ns λi f=>h i (nt _ f);rw[mO,JU,JU,h i mu]
  cases p i with
  |true=>simp only[if_true,mO,a]
  |false=>simpa using a
def DZ(p:Int->Bool):D->Bool
 |.int i=>p i
 |_=>T
open Classical in
theorem MN{n:Nat}{f:SU}{M:SS}{a b:Int}{s:f_}(w:n9 n f)(u:0<=a/\a<(n:Int)):((ba.p [aw n f,.lst (M.map .int),.int a,.int b] s).bind λx l=>PR.of ((JC I).p x .non) l)=.ok (.bl (decide (Rc f M a b))) s:=by
 have of:∀i e,Iw f M a i e->Rc f M a e:=λi e h=>by
  induction h with
  |one=>exact .base
  |more _ t m _ _ j=>exact .step j t m
 rcases DY (ps:=M) (b:=b) (s:=s) w u with⟨i,e,h⟩|⟨e,h⟩
 .rw[e,decide_eq_true (of _ _ h)];rfl
 .rw[e,decide_eq_false h];rfl
abbrev BM(n:Nat)(ks:SU)(qs:SS)(P:SU)(M:SS)(z:S7):ar:=[J (aw n ks),J (.lst (qs.map .int)),J (.lst (P.map ii)),J (.lst (M.map .int)),z]
abbrev N5:Xt [2]:=HJ (aa 3)
abbrev Sa:Xd [2]:=(aE (bp 4 (aH 1 [0,3] (aT (aa 3)) (ws':=[]) (i_ 0) (xB (ad (JC I) (aq ba (ac (aa 1) (ac (aa 2) (ac (ad o_ (aa 2) (xC (.int 0))) (ac (aa 0) a_))))) (xC .non))) (aa 0)))
 (aE (vp j3 2 (ac (aa 4) a_))
 (bp 3 (aH 1 [4] (aT (aa 3)) (ws':=[]) (i_ 0) (xB (ad (pa I) (aa 0) (aa 1))) (aa 0)))))
def IG{n:Nat}{j:SU}{qs:SS}{s:f_}(w:n9 n j)(n12:n<=12):∀(f N:Nat)(M:SS)(P:SU)(z:S7),f<N->M.length<=f->(∀x∈M,0<=x/\x<(n:Int))->P.length+f<=100->M.length<=12 ->
  ∃C,dW N5.p Sa.p N (BM n j qs P M z) s=.nx (BM n j qs (P++AB j f M) [] C) s:=by
 intro f
 induction f with
 |zero =>
  intro N M P z hN H _ _ _;obtain⟨N,rfl⟩:∃m,N=m+1:=⟨N-1,by ext⟩
  have:M=[]:=E5.mp (by ext)
  subst this;refine⟨z,?_⟩;rw[dW,show N5.p (BM n j qs P [] z) s=.ok T s by simp[jh]];simp[AB]
 |succ f Q =>
  intro N M P z hN H L U u;obtain⟨N,rfl⟩:∃m,N=m+1:=⟨N-1,by ext⟩
  cases M with
  |nil =>
   refine⟨z,?_⟩;rw[dW,show N5.p (BM n j qs P [] z) s=.ok T s by simp[jh]];simp[AB]
  |cons a l =>
   have O:N5.p (BM n j qs P (a::l) z) s=.ok I s:=by simp[jh]
   have E:=fG (ws:=[2]) (ws':=[]) (env:=BM n j qs P (a::l) z) (s:=s) (fm:=[0,3]) (i:=aT (aa 3)) (t:=xB (ad (JC I) (aq ba (ac (aa 1) (ac (aa 2) (ac (ad o_ (aa 2) (xC (.int 0))) (ac (aa 0) a_))))) (xC .non))) (e:=aa 0) (ds:=(a::l).map .int) (open Classical in DZ λy=>decide (Rc j (a::l) a y)) (λx=>x) (by simp) (by simp at u ⊢;ext) (λx B=>by
    obtain⟨i,R,rfl⟩:=k6.mp B;refine⟨?_,λ_=>by simp⟩;have e:=MN (M:=a::l) (b:=i) (s:=s) w (L a mu);have G:n5 ((a::l).map D.int) 0=J (.int a):=iz;simp only[bX,aG,aZ,ai,ak,aj,mO,Au,AR,AT,Aq,Pb,bv,aV,nQ,fb,Pf,av]at e G ⊢;rw[G];simp only[Pf,Pb];rw[e]
    rfl)
   rw[eO (open Classical in λy=>decide (Rc j (a::l) a y)) _ _ λi _=>rfl]at E;have E:(aH 1 [0,3] (aT (aa 3)) (ws':=[]) (i_ 0) (xB (ad (JC I) (aq ba (ac (aa 1) (ac (aa 2) (ac (ad o_ (aa 2) (xC (.int 0))) (ac (aa 0) a_))))) (xC .non))) (aa 0):Xe [2]).p (BM n j qs P (a::l) z) s=.ok (ii (bG j (a::l) a)) s:=E
   have F:=fG (ws:=[2]) (ws':=[]) (env:=BM n j qs (P++[bG j (a::l) a]) (a::l) (J (ii (bG j (a::l) a)))) (s:=s) (fm:=[4]) (i:=aT (aa 3)) (t:=xB (ad (pa I) (aa 0) (aa 1))) (e:=aa 0) (ds:=(a::l).map .int) (DZ λy=>!decide (y∈bG j (a::l) a)) (λx=>x) (by simp) (by simp at u ⊢;ext) (λx B=>by
    obtain⟨i,R,rfl⟩:=k6.mp B;have S:=df (neg:=I) (x:=i) (d:=ii (bG j (a::l) a)) (xs:=bG j (a::l) a) rfl;refine⟨?_,λ_=>by simp⟩;simp![bX,aG,mO,Au,AR,AT,Aq,fE,S,Pf,Pl]
    rfl)
   rw[eO (λy=>!decide (y∈bG j (a::l) a)) _ _ λi _=>rfl,sL]at F
   obtain⟨C,e⟩:=Q N (l.filter λy=>!decide (y∈bG j (a::l) a)) (P++[bG j (a::l) a]) (J (ii (bG j (a::l) a))) (by ext) (by
    have:=BR (λy=>!decide (y∈bG j (a::l) a)) l
    simp at H;ext) (λx B=>L x (nt _ (As.mp B).1)) (by rw[zv,M9];ext) (by
    have:=BR (λy=>!decide (y∈bG j (a::l) a)) l
    simp at u;ext)
   refine⟨C,?_⟩;rw[dW,O,Pg,b_ rfl];have st:Sa.p (BM n j qs P (a::l) z) s=.nx (BM n j qs (P++[bG j (a::l) a]) (l.filter λy=>!decide (y∈bG j (a::l) a)) (J (ii (bG j (a::l) a)))) s:=by rw[aA,bt,E,Pg];simp only[tp,si,PU.ag];rw[aA,dN (s1:=s) (as:=[ii (bG j (a::l) a)]) (ds:=P.map ii) (ds':=(P++[bG j (a::l) a]).map ii) (r:=.non) (by simp) rfl (by rw[fZ (by simp;ext)];simp),PU.ag,bt];refine(congrArg (λz:PR D=>z.go _ _) F).trans ?_;rfl
   rw[st];refine Eq.trans e ?_;rw[BU];show _=PS.nx (BM n j qs (P++bG j (a::l) a::AB j f ((a::l).filter λy=>!decide (y∈bG j (a::l) a))) [] C) s;rw[sL];rfl
def rn{n:Nat}{f:SU}{a:SS}{s:f_}(w:n9 n f)(m:Sm n a):bh.p [aw n f,.lst (a.map .int)] s=.ok (.lst ((lw n f a).map ii)) s:=by
 have n12:=m.n12;rw[pg (by rfl)];unfold fk;rw[show mm 5 [aw n f,.lst (a.map .int)]=[J (aw n f),J (.lst (a.map .int)),Y,Y,Y]from rfl]
 have l:=fG (ws:=[2]) (ws':=[]) (env:=[J (aw n f),J (.lst (a.map .int)),J (.lst []),Y,Y]) (s:=s) (fm:=[1]) (i:=bJ vv (ac (ad o_ (aa 0) (xC (.int 0))) a_)) (t:=xB (ad (pa I) (aa 0) (aa 1))) (e:=aa 0) (ds:=(kj n).map .int) (DZ λy=>!decide (y∈a)) (λx=>x) (by
  simp only[eT,ai,aG,aj,Pb,bv,aV,aw,qx,iz,Pf,av]
  rw[gI (by ext),Ap,ph];rfl) (by simp[kj];ext) (λx j=>by
   obtain⟨i,E,rfl⟩:=k6.mp j;have B:=df (neg:=I) (x:=i) (d:=.lst (a.map .int)) (xs:=a) rfl;refine⟨?_,λ_=>by simp⟩;simp![bX,aG,mO,Au,AR,AT,Aq,fE,B,Pf,Pl]
   rfl)
 rw[eO (λy=>!decide (y∈a)) _ _ λi _=>rfl]at l;have u:(zo n a).length<=n:=fB;obtain⟨C,e⟩:=IG (qs:=a) (s:=s) w n12 n 400 (zo n a) [] Y (by ext) u (λx j=>(kN.mp j).1) (by simp;ext) (by ext);rw[aA,DF,aZ,ai];simp![ai,av,xD m,Pg,PU.ag];rw[aA,gP];simp only[bQ,av,Pb,Fh,u0,if_true,Pg,tp,si,PU.ag];rw[aA,bt,l,Pg];simp only[tp,si,PU.ag];rw[aA,wu iL];refine(congrArg (λz:PS=>(z.then _).fin) e).trans ?_;rw[PU.ag,uj (d:=.lst ((lw n f a).map ii)) rfl,PU.cR]
def Ab{l:SS}{k x:Int}:x∈dz l k↔x∈l\/x=k:=by
 unfold dz;split
 .rename_i h
  exact⟨.inl,λz=>z.elim id λz=>by subst z;simpa using h⟩
 .simp
def D_{l:SS}{k:Int}(h:l.Nodup):(dz l k).Nodup:=by
 unfold dz;split
 .exact h
 .rename_i z
  rw[A4];refine⟨h,by simp,λx a y f e=>z ?_⟩
  have:y=k:=by simpa using f
  subst this e;simpa using a
def o8:∀(l a:SS),a.Nodup->(l.foldl dz a).Nodup/\∀x,x∈l.foldl dz a↔x∈a\/x∈l
 |[],a,h=>⟨h,by simp⟩
 |k::l,a,h=>by
  obtain⟨i,f⟩:=o8 l (dz a k) (D_ h);exact⟨i,λx=>by rw[JV,f,Ab,j_,or_assoc]⟩
def jU{l:SS}(h:l.Pairwise (·<=·))(nd:l.Nodup):l.Pairwise (·<·):=(h.and nd).imp λ{a b} h=>by
 have:=h.1
 have:=h.2
 ext
def Ea(l:SS):(bF (cw l)).Pairwise (·<·)/\∀x,x∈bF (cw l)↔x∈l:=by obtain⟨f,a⟩:=o8 l [] .nil;exact⟨jU (hJ _) ((bo _).symm.nodup f),λx=>by rw[(bo _).mem_iff];unfold cw;rw[a];simp⟩
def gq(f:SU)(a p:SS):SS:=(bF a).filter λx=>(Ao x f).any λy=>decide (y∈p)
def uf:∀(bs:List Bool),ln (bs.map .bl)=J bs
 |[]=>rfl
 |b::bs=>by rw[mO,ln,uf bs];rfl
def Eb{n:Nat}{a:SU}{f p:SS}{s:f_}(w:n9 n a)(m:Sm n f):bS.p [aw n a,.lst (f.map .int),ii p] s=.ok (ii (gq a f p)) s:=by
 have F:=m.len;have n12:=m.n12
 have q:=fG (ws:=[]) (ws':=[]) (env:=[J (aw n a),J (.lst (f.map .int)),J (ii p)]) (s:=s) (fm:=[2,0]) (i:=aT (qp gO (ac (aa 1) a_))) (t:=xB (qp DB (ac (aH 1 [1] (aT (aq bC (ac (aa 2) (ac (aa 0) a_)))) (ws':=[]) (i_ 0) ka (ad (pa T) (aa 0) (aa 1))) a_))) (e:=aa 0) (ds:=(bF f).map .int) (DZ λx=>(Ao x a).any λy=>decide (y∈p)) (λx=>x) (by
  simp![g8,c5,ai,av,pe (show f.length<64 by ext),Pf];rfl) (by rw[oh,(bo f).length_eq];ext) (λx u=>by
   obtain⟨i,B,rfl⟩:=k6.mp u;have z:=m.bd i ((bo f).mem_iff.mp B)
   have l:=fG (ws:=[]) (ws':=[]) (env:=[J (.int i),J (ii p),J (aw n a)]) (s:=s) (fm:=[1]) (i:=aT (aq bC (ac (aa 2) (ac (aa 0) a_)))) (t:=ka) (e:=ad (pa T) (aa 0) (aa 1)) (ds:=(Ao i a).map .int) (λ_=>I) (λx=>.bl (DZ (λy=>decide (y∈p)) x)) (by
    simp![g8,aZ,ai,av,EW w z.1 z.2];rfl) (by have:=uo (v:=i) w;rw[oh];exact mh this (by decide)) (λx u=>by
     obtain⟨j,E,rfl⟩:=k6.mp u;have C:=df (neg:=T) (x:=j) (d:=ii p) (xs:=p) rfl;refine⟨rfl,λ_=>?_⟩;simp![aG,mO,Au,AR,AT,Aq,fE,C,Pf]
     rfl)
   rw[fV,xg]at l;have e2:(Ao i a).map ((λx:D=>D.bl (DZ (λy=>decide (y∈p)) x))∘D.int)=((Ao i a).map λy=>decide (y∈p)).map .bl:=by rw[xg];rfl
   rw[e2]at l;have e3:DB.p [.lst (((Ao i a).map λy=>decide (y∈p)).map .bl)]=J (.bl ((Ao i a).any λy=>decide (y∈p))):=by show((J (((Ao i a).map λy=>decide (y∈p)).map D.bl)).bind ln).map _=_;rw[Ar,uf];simp
   refine⟨?_,λ_=>by simp⟩;simp only[bX,c5,ai,mO,Au,AR,AT,Aq];rw[l];simp only[Pb,av,e3,Pf,Pl]
   rfl)
 rw[eO (λx=>(Ao x a).any λy=>decide (y∈p)) _ _ λi _=>rfl]at q;rw[sZ (by rfl)];unfold eV;rw[show mm 3 [aw n a,.lst (f.map .int),ii p]=[J (aw n a),J (.lst (f.map .int)),J (ii p)]from rfl,cU,q];rfl
def fU:∀(f:SU),A7 (f.map ii)=J (f.map λk=>.list (k.map .int))/\t_ (f.map ii)<=1
 |[]=>⟨rfl,by simp[t_]⟩
 |k::f=>by
  obtain⟨a,b⟩:=fU f;obtain⟨c,d⟩:=fA k;constructor
  .simp[A7,py,a,c]
  .simp only[mO,t_,va,d];ext
def iG:∀(f:SU),PyData.canLayAll0 (f.map λk=>.list (k.map .int))=I/\PyData.depthAll (f.map λk=>.list (k.map .int))<=2
 |[]=>⟨rfl,by simp[PyData.depthAll]⟩
 |k::f=>by
  obtain⟨a,b⟩:=iG f;obtain⟨c,d⟩:=fv k;constructor
  .simp[PyData.canLayAll0,PyData.canLay0,a,c]
  .simp only[mO,PyData.depthAll,PyData.depth];ext
def o4{k:SS}:∀(a:SU),(a.map λk=>PyData.list (k.map .int)).any (λe=>PyData.eqv e (.list (k.map .int)))=decide (k∈a)
 |[]=>by simp
 |y::ys=>by
  rw[mO,Jl,o4 ys]
  have:PyData.eqv (.list (y.map .int)) (.list (k.map .int))=decide (y=k):=by simp only[PyData.eqv,fK]
  grind
def j6:∀(k f:SU),PyData.eqvAll (k.map λk=>.list (k.map .int)) (f.map λk=>.list (k.map .int))=decide (k=f)
 |[],[]=>by simp[PyData.eqvAll]
 |[],_::_=>by simp[PyData.eqvAll]
 |_::_,[]=>by simp[PyData.eqvAll]
 |a::k,b::f=>by
  simp only[mO,PyData.eqvAll,PyData.eqv,j6 k f,fK];by_cases z:a=b<;>simp[z]
def IH{neg:Bool}{k:SS}{ks:SU}:Hu neg (ii k) (.lst (ks.map ii))=J (.bl (if neg then !decide (k∈ks)else decide (k∈ks))):=by
 obtain⟨a,b⟩:=fU ks;obtain⟨c,f⟩:=fA k;have i:py (ii k)=J (.list (k.map .int)):=by simp[py,c]
 have j:(va (ii k)<=60/\t_ (ks.map ii)<=60)/\(PyData.list (k.map .int)).canLay0=I/\PyData.canLayAll0 (ks.map λk=>.list (k.map .int))=I:=⟨⟨by simp[va,f],by ext⟩,by simpa [PyData.canLay0]using(fv k).1,(iG ks).1⟩;unfold Hu;rw[show(D.lst (ks.map ii)).items=J (ks.map ii)from rfl];dsimp only;rw[i,a];dsimp only;rw[b_ j,o4]
def xX{f:Bool}{xs ys:SU}:Az f (.lst (xs.map ii)) (.lst (ys.map ii))=J (.bl (if f then !decide (xs=ys)else decide (xs=ys))):=by obtain⟨a,b⟩:=fU xs;obtain⟨c,d⟩:=fU ys;obtain⟨i,j⟩:=iG xs;obtain⟨l3,l⟩:=iG ys;simp only[Az,py,a,c,JW];rw[b_ ⟨⟨by simp only[va];ext,by simp only[va];ext⟩,gh (by simpa [PyData.canLay0]using i) (by simp only[PyData.depth];ext),gh (by simpa [PyData.canLay0]using l3) (by simp only[PyData.depth];ext)⟩];simp only[PyData.eqv,j6]
def one(f p:SS):SS->SS
 |[a,b]=>(if a∈p/\b∈f then [b]else [])++(if b∈p/\a∈f then [a]else [])
 |_=>[]
def JF(f p:SS):SS->Bool
 |[a,b]=>decide (a∈p/\b∈f)||decide (b∈p/\a∈f)
 |_=>T
def Ec{f p k:SS}(l:∀x∈p,x∉f):(one f p k).length<=if JF f p k then 1 else 0:=by
 unfold one JF;split
 .rename_i a b
  by_cases j:a∈p/\b∈f
  .have i:¬(b∈p/\a∈f):=λh=>l _ h.1 j.2;simp[j,i]
  .by_cases i:b∈p/\a∈f
   .simp[j,i]
   .simp[j,i]
 .simp
def ut{a p:SS}(i:∀x∈p,x∉a):∀f:SU,(f.flatMap (one a p)).length<=(f.filter (JF a p)).length
 |[]=>by simp
 |k::f=>by
  have j:=Ec (k:=k) i;have l:=ut i f;rw[List.flatMap_cons,zv,JU]
  cases e:JF a p k with
  |true=>rw[e,b_ rfl]at j;rw[b_ rfl,AU];ext
  |false =>
   rw[e,c_ (by simp)]at j;rw[c_ (by simp)];ext
def rW{f:Int->Int->SS}{i:SS}:∀p:SS,(p.flatMap λa=>i.map (f a)).length=p.length*i.length
 |[]=>by simp
 |a::p=>by rw[List.flatMap_cons,zv,rW p,oh,AU,Nat.add_mul,Nat.one_mul,Nat.add_comm]
def II:∀a b:Nat,a+b<=12->a*b<=36:=λa b h=>by
 have f:a<=12:=by ext
 have:a*b<=a*(12-a):=Nat.mul_le_mul_left _ (by ext)
 refine mh this ?_
 have:∀a:Fin 13,a.1*(12-a.1)<=36:=by decide
 exact this ⟨a,by ext⟩
def wZ{n:Nat}{l:SU}{j p:SS}(w:n9 n l)(m:Sm n j)(pn:p.Nodup)(u:∀x∈p,x∉j)(pb:∀x∈p,0<=x/\x<(n:Int)):(l.flatMap (one j p)).length<=36:=by
 refine mh (ut u l) ?_;have E:p.length+j.length<=12:=by
  have nd:(p++j).Nodup:=by rw[A4];exact⟨pn,m.nd,λx i y B e=>u x i (e▸B)⟩
  have:=List.Nodup.length_le_of_subset (l₂:=kj 12) nd λx i=>by
   rw[dy];have n12:=m.n12;rcases nw.mp i with i|i
   .have:=pb x i;ext
   .have:=m.bd x i;ext
  simpa [kj]using this
 have:=List.Nodup.length_le_of_subset (l₂:=p.flatMap λa=>j.map λb=>if a<b then [a,b]else [b,a]) (w.nd.filter (JF j p)) λk C=>by
  obtain⟨F,f⟩:=As.mp C;obtain⟨a,b,rfl,G,z,H⟩:=w.tie k F;rw[Ou];simp only[JF,Bool.or_eq_true,decide_eq_true_eq]at f;rcases f with f|f
  .exact⟨a,f.1,k6.mpr ⟨b,f.2,b_ z⟩⟩
  .exact⟨b,f.1,k6.mpr ⟨a,f.2,c_ (by ext)⟩⟩
 rw[rW]at this;exact mh this (II _ _ E)
def tZ{n:Nat}{j:SU}{f p:SS}{x:Int}(w:n9 n j):x∈j.flatMap (one f p)↔x∈f/\∃y∈p,Td j x y:=by
 rw[Ou];constructor
 .rintro⟨k,i,h⟩;obtain⟨a,b,rfl,_⟩:=w.tie k i;simp only[one,nw]at h;rcases h with h|h
  .by_cases z:a∈p/\b∈f
   .rw[b_ z]at h
    have:x=b:=by simpa using h
    subst this;exact⟨z.2,a,z.1,.inr i⟩
   .rw[c_ z]at h;cases h
  .by_cases z:b∈p/\a∈f
   .rw[b_ z]at h
    have:x=a:=by simpa using h
    subst this;exact⟨z.2,b,z.1,.inl i⟩
   .rw[c_ z]at h;cases h
 .rintro⟨l,y,u,t|t⟩
  .exact⟨_,t,by simp[one,l,u]⟩
  .exact⟨_,t,by simp[one,l,u]⟩
def Ed{n:Nat}{i:SU}{a p:SS}(w:n9 n i)(m:Sm n a):bF (SetT.cw (i.flatMap (one a p)))=gq i a p:=by obtain⟨u,l⟩:=Ea (i.flatMap (one a p));refine kR (f:=id) u ((jU (hJ a) ((bo a).symm.nodup m.nd)).filter _) λx=>?_;rw[l,tZ w,gq,As,(bo a).mem_iff,Nh];refine and_congr_right λ_=>⟨λ⟨y,j,t⟩=>⟨y,(iR w).mpr t,by simpa using j⟩,λ⟨y,j,t⟩=>⟨y,by simpa using t,(iR w).mp j⟩⟩
def An{n:Nat}{u:SU}{f p:SS}{s:f_}(w:n9 n u)(m:Sm n f)(pn:p.Nodup)(M:∀x∈p,x∉f)(pb:∀x∈p,0<=x/\x<(n:Int)):dE.p [aw n u,.lst (f.map .int),ii p] s=.ok (ii (gq u f p)) s:=by
 have hl:u.length<=66:=wA w.n12 w.tie w.nd;have key:∀j:Nat,((u.take j).flatMap (one f p)).length<=36:=λj=>by
  refine mh ?_ (wZ w m pn M pb);have e:=congrArg (λl:SU=>(l.flatMap (one f p)).length) (BQ j u);simp only[List.flatMap_append,zv]at e;ext
 obtain⟨L,B,e,C,E,rfl,rfl⟩:=eN (g:=(Ay (t0 (i_ 4) (t0 (i_ 5) Ax)) 2:Xg [3]).p) (b:=(aE (pk (b9 (xB (ad (pa T) (aa 4) (aa 2))) (xB (ad (pa T) (aa 5) (aa 1)))) (vp j3 3 (ac (aa 5) a_)) ia)
 (pk (b9 (xB (ad (pa T) (aa 5) (aa 2))) (xB (ad (pa T) (aa 4) (aa 1)))) (vp j3 3 (ac (aa 4) a_)) ia):Xd [3]).p)
  (λj env B=>∃C E,env=[J (aw n u),J (.lst (f.map .int)),J (ii p),J (ii ((u.take j).flatMap (one f p))),C,E]/\B=s) (u.map kD) 0 [J (aw n u),J (.lst (f.map .int)),J (ii p),J (.lst []),Y,Y] s ⟨Y,Y,rfl,rfl⟩ (λj env B d ⟨C,E,H,hS⟩ hd=>by
   rw[yV]at H ⊢;subst H hS;rw[wl,y_]at hd;obtain⟨k,O,rfl⟩:=hd;obtain⟨a,b,rfl,h1,h2,h3⟩:=w.tie k (AC O);have S:=key j;have P:(u.take (j+1)).flatMap (one f p)=(u.take j).flatMap (one f p)++one f p [a,b]:=by rw[Fj,O,List.flatMap_append];simp
   have W:=df (neg:=T) (x:=a) (d:=ii p) (xs:=p) rfl;have U:=df (neg:=T) (x:=b) (d:=.lst (f.map .int)) (xs:=f) rfl;have i3:=df (neg:=T) (x:=b) (d:=ii p) (xs:=p) rfl;have i4:=df (neg:=T) (x:=a) (d:=.lst (f.map .int)) (xs:=f) rfl;generalize hF:(u.take j).flatMap (one f p)=F at S P;have Q:∀(i k:Nat)(x y:Int){G:SS},(k=4/\x=a/\i=5/\y=b)\/(k=5/\x=b/\i=4/\y=a)->(b9 (xB (ad (pa T) (aa k) (aa 2))) (xB (ad (pa T) (aa i) (aa 1))):Xt [3]).p [J (aw n u),J (.lst (f.map .int)),J (ii p),J (ii G),J (.int a),J (.int b)] B=.ok (decide (x∈p/\y∈f)) B:=λi k x y G h=>by
    rcases h with⟨rfl,rfl,rfl,rfl⟩|⟨rfl,rfl,rfl,rfl⟩
    .simp![fQ,bX,aG,fE,W,U,Pf,Pl,n_,if_false];by_cases z:x∈p<;>simp[z]
    .simp![fQ,bX,aG,fE,i3,i4,Pf,Pl,n_,if_false];by_cases z:x∈p<;>simp[z]
   refine⟨[J (aw n u),J (.lst (f.map .int)),J (ii p),J (ii F),J (.int a),J (.int b)],[J (aw n u),J (.lst (f.map .int)),J (ii p),J (ii (F++one f p [a,b])),J (.int a),J (.int b)],B,rfl,?_,J (.int a),J (.int b),by rw[P],rfl⟩;have s1:(pk (b9 (xB (ad (pa T) (aa 4) (aa 2))) (xB (ad (pa T) (aa 5) (aa 1)))) (vp j3 3 (ac (aa 5) a_)) ia:Xd [3]).p [J (aw n u),J (.lst (f.map .int)),J (ii p),J (ii F),J (.int a),J (.int b)] B=.nx [J (aw n u),J (.lst (f.map .int)),J (ii p),J (ii (F++if a∈p/\b∈f then [b]else [])),J (.int a),J (.int b)] B:=by
    rw[cM,Q 5 4 a b (.inl ⟨rfl,rfl,rfl,rfl⟩),Pg];by_cases z:a∈p/\b∈f
    .rw[b_ (by simpa using z),b_ z];exact dN (s1:=B) (as:=[.int b]) (ds:=F.map .int) (ds':=(F++[b]).map .int) (r:=.non) (by simp) rfl (by rw[fZ (by simp;ext)];simp)
    .rw[c_ (by simpa using z),c_ z,En];rfl
   have Z:(F++if a∈p/\b∈f then [b]else []).length<=37:=by split<;>simp<;>ext
   have s2:∀G:SS,G.length<=37->(pk (b9 (xB (ad (pa T) (aa 5) (aa 2))) (xB (ad (pa T) (aa 4) (aa 1)))) (vp j3 3 (ac (aa 4) a_)) ia:Xd [3]).p [J (aw n u),J (.lst (f.map .int)),J (ii p),J (ii G),J (.int a),J (.int b)] B=.nx [J (aw n u),J (.lst (f.map .int)),J (ii p),J (ii (G++if b∈p/\a∈f then [a]else [])),J (.int a),J (.int b)] B:=λG hG=>by
    rw[cM,Q 4 5 b a (.inr ⟨rfl,rfl,rfl,rfl⟩),Pg];by_cases z:b∈p/\a∈f
    .rw[b_ (by simpa using z),b_ z];exact dN (s1:=B) (as:=[.int a]) (ds:=G.map .int) (ds':=(G++[a]).map .int) (r:=.non) (by simp) rfl (by rw[fZ (by simp;ext)];simp)
    .rw[c_ (by simpa using z),c_ z,En];rfl
   rw[aA,s1,PU.ag,s2 _ Z,BU]
   rfl)
 rw[oh,yV,Jj]at e
 have R:NZ.p [ii (u.flatMap (one f p))]=J (ii (bF (SetT.cw (u.flatMap (one f p))))):=Mt ⟨by have:=wZ w m pn M pb;ext,λx X=>by
  have:=m.bd x ((tZ w).mp X).1
  have:=m.n12
  ext⟩
 rw[Ed w m]at R;rw[vD (by rfl)];unfold fX;rw[show mm 6 [aw n u,.lst (f.map .int),ii p]=[J (aw n u),J (.lst (f.map .int)),J (ii p),Y,Y,Y]from rfl];rw[aA,gP];simp only[bQ,av,Pb,Fh,u0,if_true,Pg,tp,si,PU.ag];rw[aA,fL];have ei:(aT (ad o_ (aa 0) (xC (.int 1))):Xi [3]).p [J (aw n u),J (.lst (f.map .int)),J (ii p),J (.lst []),Y,Y] B=.ok (u.map kD) B:=by simp[aw]
 rw[ei,Pg];refine(congrArg (λz:PS=>(z.then _).fin) e).trans ?_;rw[PU.ag,cU,c5,ai];simp![av,R,Pf,Pg,PU.cR]
def lG{α:Type}{g:α->D}(p:α->Bool)(q:D->Bool):∀(l:List α),(∀i∈l,q (g i)=p i)->(((l.map g).filter q).map λx=>x)=(l.filter p).map g
 |[],_=>rfl
 |i::l,h=>by
  have a:=lG p q l λi f=>h i (nt _ f);rw[mO,JU,JU,h i mu]
  cases p i with
  |true=>simp only[if_true,mO,a]
  |false=>simpa using a
def N6(f:SS->Bool):D->Bool
 |.lst a=>(match bV a with
  |some p=>f p
  |none=>T)
 |_=>T
def mP{f:SS->Bool}{p:SS}:N6 f (ii p)=f p:=by simp[N6,eK]
def has(a:Int)(P:SU):SU:=P.filter λp=>decide (a∈p)
def IJ(P:SU):SS->SU
 |[a,b]=>if has a P≠has b P/\has a P≠[]/\has b P≠[]then(P.filter λp=>!decide (p∈has a P++has b P))++[bF ((has a P).headD []++(has b P).headD [])]else P
 |_=>P
structure Uf(ks:SU)(L:SS)(T P:SU):Prop where
 ris:∀p∈P,p.Pairwise (·<·)
 ne:∀p∈P,p≠[]
 nd:P.Nodup
 uq:∀p∈P,∀q∈P,∀x,x∈p->x∈q->p=q
 snd:∀p∈P,∀x∈p,∀y∈p,Rc ks L x y
 clo:∀a b,[a,b]∈T->a∈L->b∈L->∀p∈P,(a∈p↔b∈p)
 all:∀x∈L,∃p∈P,x∈p
 sub:∀p∈P,∀x∈p,x∈L
section
variable{ks T P:SU}{L:SS}{a b:Int}
def rT{α:Type}{f:α->Bool}{p:α}:∀{l:List α},l.Nodup->p∈l->(∀r∈l,f r=I↔r=p)->l.filter f=[p]
 |[],_,j,_=>by cases j
 |x::l,nd,j,h=>by
  rw[Ff]at nd;by_cases e:x=p
  .subst e;rw[Of ((h x mu).mpr rfl),Rb.mpr λr i z=>nd.1 ((h r (nt _ i)).mp z▸i)]
  .rw[Og λz=>e ((h x mu).mp z)];exact rT nd.2 ((j_.mp j).resolve_left λz=>e z.symm) λr i=>h r (nt _ i)
def Uf.has(u:Uf ks L T P){p:SS}(i:p∈P)(f:a∈p):Law.has a P=[p] :=
 rT u.nd i λr j=>by
  rw[decide_eq_true_iff];exact⟨λh=>u.uq r j p i a h f,λe=>e▸f⟩
def Uf.hasN(h:Law.has a P=[]):∀p∈P,a∉p:=λp i f=>by
 have:=Rb.mp h p i
 exact this (decide_eq_true f)
def Uf.start:Uf ks L [] (L.map λv=>[v])↔L.Nodup:=by
 constructor
 .intro u
  have:=u.nd
  exact(A5.mp this).imp λ{a b} h e=>h (by rw[e])
 .intro nd;refine⟨λp f=>?_,λp f=>?_,A5.mpr (nd.imp λ{a b} h e=>h (by simpa using e)),λp f q z x B l=>?_,λp f x i y j=>?_,by simp,λx i=>⟨[x],k6.mpr ⟨x,i,rfl⟩,by simp⟩,λp f x i=>?_⟩
  .obtain⟨v,_,rfl⟩:=k6.mp f;simp
  .obtain⟨v,_,rfl⟩:=k6.mp f;simp
  .obtain⟨v,_,rfl⟩:=k6.mp f;obtain⟨u,_,rfl⟩:=k6.mp z;have e1:x=v:=by simpa using B
   have e2:x=u:=by simpa using l
   rw[<-e1,<-e2]
  .obtain⟨v,_,rfl⟩:=k6.mp f;have e1:x=v:=by simpa using i
   have e2:y=v:=by simpa using j
   rw[e1,e2];exact .base
  .obtain⟨v,hv,rfl⟩:=k6.mp f;have e1:x=v:=by simpa using i
   rw[e1];exact hv
def Uf.stay(u:Uf ks L T P)(h:a∈L->b∈L->∀p∈P,(a∈p↔b∈p)):Uf ks L (T++[[a,b]]) P:=by
 refine { u with clo:=λc d f=>?_};rcases nw.mp f with f|f
 .exact u.clo c d f
 .have e:[c,d]=[a,b]:=by simpa using f
  injection e with e1 e
  injection e with e2 _
  subst e1 e2;exact h
def Uf.step(u:Uf ks L T P)(t:Td ks a b):Uf ks L (T++[[a,b]]) (IJ P [a,b]):=by
 unfold IJ;dsimp only;by_cases za:Law.has a P=[]
 .rw[c_ (λh=>h.2.1 za)];refine u.stay λha _=>?_;obtain⟨p,l,h⟩:=u.all a ha;exact absurd h (Uf.hasN za p l)
 by_cases zb:Law.has b P=[]
 .rw[c_ (λh=>h.2.2 zb)];refine u.stay λ_ hb=>?_;obtain⟨p,l,h⟩:=u.all b hb;exact absurd h (Uf.hasN zb p l)
 obtain⟨p,l,O⟩:∃p∈P,a∈p:=by obtain⟨p,h⟩:=Q3 _ za;obtain⟨F,E⟩:=As.mp h;exact⟨p,F,of_decide_eq_true E⟩
 obtain⟨q,M,Q⟩:∃p∈P,b∈p:=by obtain⟨p,h⟩:=Q3 _ zb;obtain⟨F,E⟩:=As.mp h;exact⟨p,F,of_decide_eq_true E⟩
 have ea:=u.has l O;have eb:=u.has M Q;by_cases e:p=q
 .subst e;rw[c_ (λh=>h.1 (ea.trans eb.symm))];refine u.stay λ_ _ r f=>⟨λh=>?_,λh=>?_⟩
  .rw[u.uq r f p l a h O];exact Q
  .rw[u.uq r f p l b h Q];exact O
 .rw[b_ ⟨by rw[ea,eb];simpa using e,za,zb⟩,ea,eb];have C:∀r,(r∈P.filter λp'=>!decide (p'∈[p]++[q]))↔r∈P/\r≠p/\r≠q:=λr=>by simp[As]
  show Uf ks L _ ((P.filter λp'=>!decide (p'∈[p]++[q]))++[bF (p++q)]);have H:∀x,x∈bF (p++q)↔x∈p\/x∈q:=λx=>by rw[(bo _).mem_iff,nw]
  have dj:∀x,x∈p->x∉q:=λx F E=>e (u.uq p l q M x F E);have R:∀r,r∈P->r≠p->r≠q->∀x∈r,x∉bF (p++q):=λr f n1 n2 x i hm=>by
   rcases(H x).mp hm with h|h
   .exact n1 (u.uq r f p l x i h)
   .exact n2 (u.uq r f q M x i h)
  have bl:=u.sub q M b Q;have al:=u.sub p l a O;have ab:Rc ks L a b:=.step .base t bl;have sy:∀{x y},x∈p->y∈q->Rc ks L x y:=λi B=>((u.snd p l _ i a O).trans ab).trans (u.snd q M b Q _ B)
  have am:(bF (p++q)).Nodup:=(bo _).symm.nodup (by
   rw[A4]
   exact⟨(u.ris p l).imp λ{x y} h=>by ext,(u.ris q M).imp λ{x y} h=>by ext,λx i y B z=>dj x i (z▸B)⟩)
  have G:a∈bF (p++q):=(H a).mpr (.inl O);refine⟨λr f=>?_,λr f=>?_,?_,λr f W j x F E=>?_,λr f x i y B=>?_,λc d U cl dl r f=>?_,λx i=>?_,λr f x i=>?_⟩
  .rcases nw.mp f with f|f
   .exact u.ris r ((C r).mp f).1
   .rw[AD.mp f];exact jU (hJ _) am
  .rcases nw.mp f with f|f
   .exact u.ne r ((C r).mp f).1
   .rw[AD.mp f];exact List.ne_nil_of_mem G
  .rw[A4];refine⟨u.nd.filter _,by simp,λr f W j z=>?_⟩;obtain⟨F,E,h3⟩:=(C r).mp f;rw[AD.mp j]at z;subst z;exact R _ F E h3 a G G
  .rcases nw.mp f with f|f<;>rcases nw.mp j with j|j
   .exact u.uq r ((C r).mp f).1 W ((C W).mp j).1 x F E
   .obtain⟨S,Z,X⟩:=(C r).mp f;rw[AD.mp j]at E;exact absurd E (R r S Z X x F)
   .obtain⟨S,Z,X⟩:=(C W).mp j;rw[AD.mp f]at F;exact absurd F (R W S Z X x E)
   .rw[AD.mp f,AD.mp j]
  .rcases nw.mp f with f|f
   .exact u.snd r ((C r).mp f).1 x i y B
   .rw[AD.mp f]at i B;rcases(H x).mp i with i|i<;>rcases(H y).mp B with B|B
    .exact u.snd p l x i y B
    .exact sy i B
    .exact (sy B i).symm (u.sub p l y B)
    .exact u.snd q M x i y B
  .rcases nw.mp U with U|U
   .have key:=u.clo c d U cl dl;rcases nw.mp f with f|f
    .exact key r ((C r).mp f).1
    .rw[AD.mp f,H,H,key p l,key q M]
   .have e:[c,d]=[a,b]:=by simpa using U
    injection e with e1 e
    injection e with e2 _
    subst e1 e2;rcases nw.mp f with f|f
    .obtain⟨S,Z,X⟩:=(C r).mp f;exact⟨λh=>absurd (u.uq r S p l _ h O) Z,λh=>absurd (u.uq r S q M _ h Q) X⟩
    .rw[AD.mp f,H,H];exact⟨λ_=>.inr Q,λ_=>.inl O⟩
  .obtain⟨r,f,h⟩:=u.all x i;by_cases e1:r=p\/r=q
   .exact⟨_,pu _ (AD.mpr rfl),(H x).mpr (e1.imp (λz:r=p=>z▸h) λz:r=q=>z▸h)⟩
   .exact⟨r,vK _ ((C r).mpr ⟨f,λz=>e1 (.inl z),λz=>e1 (.inr z)⟩),h⟩
  .rcases nw.mp f with f|f
   .exact u.sub r ((C r).mp f).1 x i
   .rw[AD.mp f]at i;exact((H x).mp i).elim (u.sub p l x) (u.sub q M x)
def Uf.len(u:Uf ks L T P):P.length<=L.length:=by
 have nd:(P.map λp=>p.headD 0).Nodup:=A5.mpr (u.nd.imp_of_mem λ{p q} f i ne e=>by
  cases p with
  |nil=>exact u.ne _ f rfl
  |cons x p =>
   cases q with
   |nil=>exact u.ne _ i rfl
   |cons y q =>
    have e:x=y:=e;subst e
    exact ne (u.uq _ f _ i x mu mu))
 have:=List.Nodup.length_le_of_subset (l₂:=L) nd λx j=>by
  obtain⟨p,f,rfl⟩:=k6.mp j
  cases p with
  |nil=>exact absurd rfl (u.ne _ f)
  |cons a p=>exact u.sub _ f a mu
 simpa using this
def Uf.part(u:Uf ks L ks P){Q:SU}(pm:Q.Perm P)(hd:Q.Pairwise λp q=>p.headD 0<=q.headD 0):Part ks L L Q:=by
 have i:∀p,p∈Q->p∈P:=λp=>pm.mem_iff.mp;have cls:∀p∈P,∀x∈p,∀y,Rc ks L x y->y∈p:=λp f x j y r=>by
  induction r with
  |base=>exact j
  |@step z y r t m l =>
   have B:=u.sub p f z l;rcases t with t|t
   .exact (u.clo z y t B m p f).mp l
   .exact (u.clo y z t m B p f).mpr l
 refine⟨λp f=>u.ris p (i p f),λp f=>u.ne p (i p f),(hd.and (pm.symm.nodup u.nd)).imp_of_mem λ{p q} f C h=>?_,λp f x j y=>⟨λE=>u.snd p (i p f) x j y E,cls p (i p f) x j y⟩,λx j=>?_,λp f=>u.sub p (i p f)⟩
 .rcases Int.lt_or_eq_of_le h.1 with z|z
  .exact z
  .exfalso
   cases p with
   |nil=>exact u.ne _ (i _ f) rfl
   |cons x p =>
    cases q with
    |nil=>exact u.ne _ (i _ C) rfl
    |cons y q =>
     have e:x=y:=z;subst e;exact h.2 (u.uq _ (i _ f) _ (i _ C) x mu mu)
 .obtain⟨p,f,h⟩:=u.all x j;exact⟨p,pm.mem_iff.mpr f,h⟩
end
abbrev Sb:Xd []:=(aE (bp 5 (aH 1 [3] (aT (aa 2)) (ws':=[]) (i_ 0) (xB (ad (pa T) (aa 1) (aa 0))) (aa 0)))
 (aE (bp 6 (aH 1 [4] (aT (aa 2)) (ws':=[]) (i_ 0) (xB (ad (pa T) (aa 1) (aa 0))) (aa 0)))
 (pk (b9 (xB (ad v8 (aa 5) (aa 6))) (b9 (xB (ad v8 (aa 5) (bu a_))) (xB (ad v8 (aa 6) (bu a_))))) (bp 2 (ad aX (aH 1 [5,6] (aT (aa 2)) (ws':=[]) (i_ 0) (xB (ad (pa I) (aa 0) (ad aX (aa 1) (aa 2)))) (aa 0)) (bu (ac (qp gO (ac (ad aX (ad o_ (aa 5) (xC (.int 0))) (ad o_ (aa 6) (xC (.int 0)))) a_)) a_)))) ia)))
abbrev BZ(n:Nat)(ks:SU)(qs:SS)(P:SU)(z3 z4 z5 z6:S7):ar:=[J (aw n ks),J (.lst (qs.map .int)),J (.lst (P.map ii)),z3,z4,z5,z6]
def EZ{c:Nat}{a:Int}{P:SU}{env:ar}{s:f_}(j:env[2]?=J (J (.lst (P.map ii))))(l:env[c]?=J (J (.int a)))(z:P.length<=1000){hw hz}:(aH 1 [c] (aT (aa 2)) (ws':=[]) (i_ 0) (xB (ad (pa T) (aa 1) (aa 0))) (aa 0) hw hz:Xe []).p env s=.ok (.lst ((has a P).map ii)) s:=by
 have q:=fG (ws:=[]) (ws':=[]) (env:=env) (s:=s) (fm:=[c]) (i:=aT (aa 2)) (t:=xB (ad (pa T) (aa 1) (aa 0))) (e:=aa 0) (ds:=P.map ii) (N6 λp=>decide (a∈p)) (λx=>x) (by rw[g8,tN j];rfl) (by rw[oh];ext) (λx f=>by
  obtain⟨p,y,rfl⟩:=k6.mp f;have u:=df (neg:=T) (x:=a) (d:=ii p) (xs:=p) rfl;refine⟨?_,λ_=>by simp⟩;simp![bX,aG,mO,Au,l,Aq,fE,u,Pf,Pl,mP]
  rfl) (hw:=hw) (hz:=hz)
 rw[lG (λp=>decide (a∈p)) _ _ λi _=>mP]at q;exact q
def t4{a:Int}{P:SU}:(has a P).length<=P.length:=BR _ _
def QL{n:Nat}{ks:SU}{qs:SS}{P:SU}{a b:Int}{z5 z6:S7}{s:f_}(Z:P.length<=12)(f:∀p∈P,p.length<=12):∃u l,Sb.p (BZ n ks qs P (J (.int a)) (J (.int b)) z5 z6) s=.nx (BZ n ks qs (IJ P [a,b]) (J (.int a)) (J (.int b)) u l) s:=by
 have l1:=t4 (a:=a) (P:=P);have W:=t4 (a:=b) (P:=P);refine⟨J (.lst ((has a P).map ii)),J (.lst ((has b P).map ii)),?_⟩;rw[aA,bt,EZ (P:=P) (a:=a) rfl rfl (by ext),Pg];simp only[tp,si,PU.ag];rw[aA,bt,EZ (P:=P) (a:=b) rfl rfl (by ext),Pg];simp only[tp,si,PU.ag];have O:(if([]:SW).length<=100000 then PR.ok (D.lst []) s else .bad)=.ok (.lst []) s:=b_ (by decide);have L:∀X:SU,Az I (.lst (X.map ii)) (.lst [])=J (.bl (!decide (X=[]))):=λX=>xX (ys:=[]);have G:(b9 (xB (ad v8 (aa 5) (aa 6))) (b9 (xB (ad v8 (aa 5) (bu a_))) (xB (ad v8 (aa 6) (bu a_)))):Xt []).p (BZ n ks qs P (J (.int a)) (J (.int b)) (J (.lst ((has a P).map ii))) (J (.lst ((has b P).map ii)))) s=.ok (decide (has a P≠has b P/\has a P≠[]/\has b P≠[])) s:=by simp![fQ,bX,aG,gD,xX,Pf,Pl,bQ,av,O,L,if_true];by_cases S:has a P=has b P<;>by_cases H:has a P=[]<;>by_cases M:has b P=[]<;>simp[S,H,M]
 rw[cM,G,Pg];by_cases z:has a P≠has b P/\has a P≠[]/\has b P≠[]
 .rw[b_ (by simpa using z)];have y:IJ P [a,b]=(P.filter λp=>!decide (p∈has a P++has b P))++[bF ((has a P).headD []++(has b P).headD [])]:=b_ z
  have q:=fG (ws:=[]) (ws':=[]) (env:=BZ n ks qs P (J (.int a)) (J (.int b)) (J (.lst ((has a P).map ii))) (J (.lst ((has b P).map ii)))) (s:=s) (fm:=[5,6]) (i:=aT (aa 2)) (t:=xB (ad (pa I) (aa 0) (ad aX (aa 1) (aa 2)))) (e:=aa 0) (ds:=P.map ii) (N6 λp=>!decide (p∈has a P++has b P)) (λx=>x) (by simp) (by rw[oh];ext) (λx B=>by
   obtain⟨p,E,rfl⟩:=k6.mp B;have R:aX.p (.lst ((has a P).map ii)) (.lst ((has b P).map ii))=J (.lst ((has a P++has b P).map ii)):=by rw[cG (by rw[oh,oh];ext),Bv]
   have Q:=IH (neg:=I) (k:=p) (ks:=has a P++has b P);refine⟨?_,λ_=>by simp⟩;simp![bX,aG,mO,Au,AR,AT,Aq,R,Pf,fE,Q,Pl,mP]
   rfl)
  rw[lG (λp=>!decide (p∈has a P++has b P)) _ _ λi _=>mP]at q;obtain⟨p,U,e1⟩:∃p r,has a P=p::r:=Q2 z.2.1;obtain⟨j,r2,e2⟩:∃p r,has b P=p::r:=Q2 z.2.2;have E:p.length<=12:=f p (As.mp (show p∈has a P by rw[e1];exact mu)).1;have F:j.length<=12:=f j (As.mp (show j∈has b P by rw[e2];exact mu)).1;have C:=BR (λp=>!decide (p∈has a P++has b P)) P;rw[bt,aG,q];rw[y];simp![bQ,ai,c5,aG,bv,aV,fb];rw[e1,e2];simp only[mO,show ∀(d:D)(r:SW),n5 (d::r) 0=J d from λ_ _=>iz,Pf,Pb,List.headD_cons];rw[cG (by rw[oh,oh];ext),<-Bv];simp only[Pf,Pb,av];rw[pe (by rw[zv];ext)];simp only[Pf,Pb,M9,show(1:Nat)<=100000 by decide,if_true];rw[e1,e2]at C;rw[cG (by rw[oh,M9];ext)];simp only[Pf,Pg,tp,si];unfold BZ;rw[Bv (l₂:=[bF (p++j)])];rfl
 .rw[c_ (by simpa using z)];have y:IJ P [a,b]=P:=c_ z;rw[y];rfl
def x3{n:Nat}{l:SU}{f:SS}{s:f_}(w:n9 n l)(m:Sm n f):dM.p [aw n l,.lst (f.map .int)] s=.ok (.lst ((lw n l f).map ii)) s:=by
 have n12:=m.n12;have ll:(zo n f).length<=n:=fB
 have X:=fG (ws:=[]) (ws':=[]) (env:=[J (aw n l),J (.lst (f.map .int)),Y,Y,Y,Y,Y]) (s:=s) (fm:=[1]) (i:=bJ vv (ac (ad o_ (aa 0) (xC (.int 0))) a_)) (t:=xB (ad (pa I) (aa 0) (aa 1))) (e:=bu (ac (aa 0) a_)) (ds:=(kj n).map .int) (DZ λy=>!decide (y∈f)) (λx=>.lst [x]) (by
  simp only[eT,ai,aG,aj,Pb,bv,aV,aw,qx,iz,Pf,av]
  rw[gI (by ext),Ap,ph];rfl) (by simp[kj];ext) (λx hx=>by
   obtain⟨i,hi,rfl⟩:=k6.mp hx;have Q:=df (neg:=I) (x:=i) (d:=.lst (f.map .int)) (xs:=f) rfl;refine⟨?_,λ_=>by simp⟩;simp![bX,aG,mO,Au,AR,AT,Aq,fE,Q,Pf,Pl]
   rfl)
 have e0:(((kj n).map D.int).filter (DZ λy=>!decide (y∈f))).map (λx=>.lst [x])=((zo n f).map λv=>[v]).map ii:=by
  have:=eO (λy=>!decide (y∈f)) (DZ λy=>!decide (y∈f)) (kj n) λi _=>rfl
  rw[List.map_id']at this;rw[this,xg,xg];rfl
 rw[e0]at X;have R:(zo n f).Nodup:=uQ.imp λ{a b} h=>by ext
 have C:∀{L P:SU},Uf l (zo n f) L P->P.length<=12/\∀p∈P,p.length<=12:=λ{L P} u=>⟨by have:=u.len;ext,λp B=>by
  have:=List.Nodup.length_le_of_subset (l₂:=zo n f) ((u.ris p B).imp λ{a b} h=>by ext) (u.sub p B)
  ext⟩
 obtain⟨W,F,e,P,S,U,M,O,rfl,rfl,u⟩:=eN (g:=(Ay (t0 (i_ 3) (t0 (i_ 4) Ax)) 2:Xg []).p) (b:=Sb.p)
  (λj env F=>∃P S U M O,env=BZ n l f P S U M O/\F=s/\Uf l (zo n f) (l.take j) P) (l.map kD) 0 (BZ n l f ((zo n f).map λv=>[v]) Y Y Y Y) s ⟨_,Y,Y,Y,Y,rfl,rfl,Uf.start.mpr R⟩ (λj env F d ⟨P,S,U,M,O,hE,hS,u⟩ hd=>by
   rw[yV]at u ⊢;subst hE hS;rw[wl,y_]at hd;obtain⟨k,E,rfl⟩:=hd;obtain⟨a,b,rfl,h1,h2,h3⟩:=w.tie k (AC E);obtain⟨H,G,e⟩:=QL (n:=n) (ks:=l) (qs:=f) (a:=a) (b:=b) (z5:=M) (z6:=O) (s:=F) (C u).1 (C u).2;refine⟨BZ n l f P (J (.int a)) (J (.int b)) M O,BZ n l f (IJ P [a,b]) (J (.int a)) (J (.int b)) H G,F,rfl,e,IJ P [a,b],J (.int a),J (.int b),H,G,rfl,rfl,?_⟩
   have:=u.step (a:=a) (b:=b) (.inl (AC E))
   rw[Fj,E]
   exact this)
 rw[oh,yV,Jj]at u;have E:∀p∈P,(gC (ii p)).isSome=I/\qr (ii p)=p.headD 0:=λp B=>by
  cases p with
  |nil=>exact absurd rfl (u.ne _ B)
  |cons a p=>exact⟨rfl,rfl⟩
 have ek:(P.map ii).map qr=P.map λp=>p.headD 0:=by rw[xg];exact E9 λp B=>(E p B).2
 have nk:(P.map λp=>p.headD 0).Nodup:=A5.mpr (u.nd.imp_of_mem λ{p q} B Q ne e=>by
  cases p with
  |nil=>exact u.ne _ B rfl
  |cons x p =>
   cases q with
   |nil=>exact u.ne _ Q rfl
   |cons y q =>
    have e:x=y:=e;subst e
    exact ne (u.uq _ B _ Q x mu mu))
 have Z:qE.p [.lst (P.map ii)]=J (.lst (aN qr (P.map ii))):=b_ ⟨λd hd=>by
  obtain⟨p,B,rfl⟩:=k6.mp hd
  exact(E p B).1,by rw[ek];exact nk,by rw[oh];have:=(C u).1;ext⟩
 have e2:aN qr (P.map ii)=(aN (λp=>p.headD 0) P).map ii:=by rw[iA];exact congrArg (List.map ii) (iH λp B=>(E p B).2)
 have e3:aN (λp:SS=>p.headD 0) P=lw n l f:=(u.part (cI _ _) (jY _ _)).uniq fJ;rw[e2,e3]at Z;rw[sX (by rfl)];unfold eX;rw[show mm 7 [aw n l,.lst (f.map .int)]=[J (aw n l),J (.lst (f.map .int)),Y,Y,Y,Y,Y]from rfl];rw[aA,bt,X,Pg];simp only[tp,si,PU.ag];rw[aA,fL];have ei:(aT (ad o_ (aa 0) (xC (.int 1))):Xi []).p (BZ n l f ((zo n f).map λv=>[v]) Y Y Y Y) F=.ok (l.map kD) F:=by simp[aw]
 rw[ei,Pg];refine(congrArg (λz:PS=>(z.then _).fin) e).trans ?_;rw[PU.ag,cU,c5,ai];simp![av,Z,Pf,Pg,PU.cR]
def Kd(d:D):Prop:=∃t,Bh d=J t
def N7:D->Bool
 |.int _=>I
 |_=>T
def Bk(n:Int):D->Bool
 |.int i=>decide (0<=i)&&decide (i<n)
 |_=>T
def Ee{d:D}{s:f_}(h:Kd d):dJ.p [d] s=.ok (.bl (N7 d)) s:=by rw[k8 (by rfl)];unfold dO;obtain⟨t,a⟩:=h;cases d<;>first | (cases a;done) | (simp[mm,cQ,N7,Bh];done) | (simp[mm,cQ,N7,Bh]at a ⊢)
def Ef{n:Int}{d:D}{s:f_}(h:Kd d):dR.p [.int n,d] s=.ok (.bl (Bk n d)) s:=by
 cases d with
 |int i=>exact tV
 |_ =>
  rw[lf (by rfl)];unfold dI;simp[mm,Ee h,N7,Bk]
def xO{n:Int}{d:D}{s:f_}(h:Kd d)(a:Bk n d=T):bc.p [.int n,d] s=.exc "NoPlace" s:=by rw[iV (by rfl)];unfold cF;simp[mm,Ef h,a]
def Eg{n:Int}{d:D}(h:Bk n d=I):∃i:Int,d=.int i/\0<=i/\i<n:=by
 cases d with
 |int i=>simp[Bk]at h;exact⟨i,rfl,h⟩
 |_=>cases h
abbrev QM:Xd []:=(bZ (aq bc (ac (aa 0) (ac (aa 2) a_))))
def pK{n:Int}{d0:D}{s:f_}:∀(f:SW) (z:S7),(∀d∈f,Kd d)->(∃d∈f,Bk n d=T)->∃a,Bg (i_ 2:Xg []).p QM.p f [J (.int n),J d0,z] s=.exc "NoPlace" a s
 |[],_,_,⟨_,h,_⟩=>by cases h
 |d::f,z,l,⟨x,u,j⟩=>by
  rw[qC (env1:=[J (.int n),J d0,J d]) rfl]
  cases e:Bk n d with
  |true =>
   obtain⟨i,rfl,y,B⟩:=Eg e;obtain⟨a,q⟩:=pK (d0:=d0) (s:=s) f (J (.int i)) (λd hd=>l d (nt _ hd)) ⟨x,(j_.mp u).resolve_left (λz=>by subst z;rw[e]at j;cases j),j⟩;refine⟨a,?_⟩;rw[show QM.p [J (.int n),J d0,J (.int i)] s=.nx [J (.int n),J d0,J (.int i)] s by simp[oB y B]];exact q
  |false =>
   refine⟨[J (.int n),J d0,J d],?_⟩;rw[show QM.p [J (.int n),J d0,J d] s=.exc "NoPlace" [J (.int n),J d0,J d] s by simp[xO (l d mu) e]];rfl
def wk{n:Int}{a:SW}{s:f_}(j:∀d∈a,Kd d)(i:∃d∈a,Bk n d=T):cr.p [.int n,.lst a] s=.exc "NoPlace" s:=by rw[iw (by rfl)];unfold cv;obtain⟨f,e⟩:=pK (d0:=.lst a) (s:=s) a Y j i;rw[show mm 3 [D.int n,.lst a]=[J (.int n),J (.lst a),Y]from rfl,fL,g8];simp![show(D.lst a).items=J a from rfl,Pf,Pg];rw[e];rfl
def Bt(n:Nat)(f:SU)(d:D)(a:Str):Prop:=∃c:Str,(c="NoPlace"/\a="place"\/c="NoParting"/\a="parting")/\∀s,bx.p [aw n f,d] s=.exc c s
def IK{n:Nat}{f:SU}{d:D}(h:Kd d)(i:∀j,d≠.lst j):Bt n f d "parting":=by refine⟨"NoParting",.inr ⟨rfl,rfl⟩,λs=>?_⟩;rw[cY (by rfl)];unfold bz;obtain⟨t,a⟩:=h;cases d<;>first | (cases a;done) | (exact absurd rfl (i _)) | (simp[mm,cQ])
def ye{n:Nat}{i:SU}{a:SW}(j:∀d∈a,Kd d)(f:∃d∈a,Bk n d=T):Bt n i (.lst a) "place":=by refine⟨"NoPlace",.inl ⟨rfl,rfl⟩,λs=>?_⟩;rw[cY (by rfl)];unfold bz;simp[mm,aw,cQ,wk j f]
def IL{n:Nat}{i:SU}{a:SS}(f:∀x∈a,0<=x/\x<(n:Int))(j:a.length<=100)(nd:¬a.Nodup):Bt n i (.lst (a.map .int)) "parting":=by refine⟨"NoParting",.inr ⟨rfl,rfl⟩,λs=>?_⟩;have e1:=ET (ns:=a) (by ext);have ne:((wx a:Nat):Int)≠(a.length:Int):=λz=>nd (ux.mp (by ext));rw[cY (by rfl)];unfold bz;simp[mm,aw,rL f,cQ,e1,ne]
def IM{n:Nat}{a:SU}{d:D}{G:Str}{i:Int}{s:f_}(h:Bt n a d G):dB.p [.int i,aw n a,d] s=.ok (.str G) s:=by
 obtain⟨c,H,h⟩:=h;have F:∀s,bh.p [aw n a,d] s=.exc c s:=λs=>by
  rw[pg (by rfl)];unfold fk;simp[mm,h]
 have Q:∀s,cf.p [aw n a,d] s=.exc c s:=λs=>by
  rw[yh (by rfl)];unfold gZ;simp[mm,F]
 have P:∀s,cX.p [aw n a,d] s=.exc c s:=λs=>by
  rw[sO (by rfl)];unfold eW;simp[mm,h]
 have bd:(pk (xB (ad sh (aa 0) (xC (.int 0)))) (bZ (aq bh (ac (aa 1) (ac (aa 2) a_)))) (pk (xB (ad sh (aa 0) (xC (.int 1)))) (bZ (aq cf (ac (aa 1) (ac (aa 2) a_)))) (bZ (aq cX (ac (aa 1) (ac (aa 2) a_))))):Xd []).p [J (.int i),J (aw n a),J d,J .non,Y] s=.exc c [J (.int i),J (aw n a),J d,J .non,Y] s:=by
  by_cases M:i=0
  .simp[M,F]
  .by_cases j:i=1
   .simp[j,Q]
   .simp[M,j,P]
 rw[x5 (by rfl)];unfold ij;rw[show mm 5 [D.int i,aw n a,d]=[J (.int i),J (aw n a),J d,Y,Y]from rfl];rw[aA,bt];simp only[bv,nQ,Pg,tp,si,PU.ag];rw[aA];have O:(oE ["NoParting","NoPlace"] 3 4 (pk (xB (ad sh (aa 0) (xC (.int 0)))) (bZ (aq bh (ac (aa 1) (ac (aa 2) a_)))) (pk (xB (ad sh (aa 0) (xC (.int 1)))) (bZ (aq cf (ac (aa 1) (ac (aa 2) a_)))) (bZ (aq cX (ac (aa 1) (ac (aa 2) a_)))))):Xd []).p [J (.int i),J (aw n a),J d,J .non,Y] s=.nx [J (.int i),J (aw n a),J d,J (.exc c),Y] s:=by unfold oE;dsimp only;rw[bd];dsimp only;rw[b_ (by rcases H with⟨rfl,_⟩|⟨rfl,_⟩<;>decide)];rfl
 refine(congrArg (λz:PS=>(z.then _).fin) O).trans ?_;rw[PU.ag];have key:∀(c:Str) (f:SQ) (b:Bool),(["NoParting","NoPlace"]:SQ).contains c=I->f.contains c=b->(fH ["NoParting","NoPlace"] f).p (.exc c)=J (.bl b):=λc f b j R=>by
  unfold fH;dsimp only;rw[b_ j,R]
 have L:∀{x y:D}{s:f_},(if [x,y].length<=100000 then PR.ok (D.lst [x,y]) s else .bad)=.ok (.lst [x,y]) s:=λ{x y s}=>b_ (by simp);have U:∀{x y:D},n5 [x,y] 0=J x:=λ{x y}=>iz;have S:∀{x y:D},n5 [x,y] 1=J y:=λ{x y}=>KW;rcases H with⟨rfl,rfl⟩|⟨rfl,rfl⟩
 .have E:=key "NoPlace" ["NoParting","NoPlace"] I (by decide) (by decide);have l:=key "NoPlace" ["NoPlace"] I (by decide) (by decide);have C:=key "NoPlace" ["NoParting"] T (by decide) (by decide);have u:=key "NoPlace" ([]++([]++([]++([]++[])))) T (by decide) (by decide);have B:=key "NoPlace" ([]++([]++([]++([]++([]++[]))))) T (by decide) (by decide);simp![aA,cM,mV,qU,bX,i5,E,l,C,u,B,Pf,Pl,B3,n_,if_false,Pg,kO,PU.ag,aG,fc,rM,show(I==T)=T from rfl,cU,bQ,ai,bv,hU,av,L,c5,xh,if_true,fb,S,PU.cR]
 .have E:=key "NoParting" ["NoParting","NoPlace"] I (by decide) (by decide);have l:=key "NoParting" ["NoPlace"] T (by decide) (by decide);have C:=key "NoParting" ["NoParting"] I (by decide) (by decide);have u:=key "NoParting" ([]++([]++([]++([]++[])))) T (by decide) (by decide);have B:=key "NoParting" ([]++([]++([]++([]++([]++[]))))) T (by decide) (by decide);simp![aA,cM,mV,qU,bX,i5,E,l,C,u,B,Pf,Pl,B3,n_,if_false,Pg,kO,PU.ag,aG,fc,rM,show(T==I)=T from rfl,cU,bQ,ai,bv,hU,av,L,c5,xh,fb,U,PU.cR]
def MP{n:Nat}{d:D}(h:d∈[D.int (-1),.int (n:Int),.bl I,.non,.str "0",.tup [.int 0],.lst [],.int (10^20)])(n12:n<=12):Kd d/\Bk n d=T:=by
 simp only[j_,Bs,or_false]at h;rcases h with rfl|rfl|rfl|rfl|rfl|rfl|rfl|rfl
 .exact⟨⟨_,rfl⟩,rfl⟩
 .exact⟨⟨_,rfl⟩,by simp[Bk]⟩
 .exact⟨⟨_,rfl⟩,rfl⟩
 .exact⟨⟨_,rfl⟩,rfl⟩
 .exact⟨⟨_,rfl⟩,rfl⟩
 .exact⟨⟨_,rfl⟩,rfl⟩
 .exact⟨⟨_,rfl⟩,rfl⟩
 .exact⟨⟨_,rfl⟩,by simp[Bk];ext⟩
def rY{i:Int}:Kd (.int i):=⟨_,rfl⟩
def IN{n:Nat}{ks:SU}{f:SS}{s:f_}(m:Sm n f):∃d wd s',fC.p [.pen,aw n ks,.lst (f.map .int)] s=.ok (.tup [d,.str wd]) s'/\Bt n ks d wd:=by
 have ml:=m.len;have n12:=m.n12;obtain⟨i1,s1,i0,i9,q1⟩:=cz (s:=s) (size:=8) (by decide) (by decide);obtain⟨z,eo,mo⟩:=xK (ds:=[D.int (-1),.int (n:Int),.bl I,.non,.str "0",.tup [.int 0],.lst [],.int (10^20)]) i0 (by simpa using i9);obtain⟨M,G⟩:=MP mo n12;obtain⟨j1,s2,j0,j9,q2⟩:=cz (s:=s1) (size:=(f.length:Int)+1) (by ext) (by ext);obtain⟨j,rfl⟩:=cS j0;obtain⟨E,O,w0,w9,q3⟩:=cz (s:=s2) (size:=4) (by decide) (by decide);have ep:Ht.p (.int 10) (.int 20)=J (.int (10^20)):=b_ ⟨by decide,by decide,by decide⟩;have en:ki.p (.int 1)=J (.int (-1)):=rfl;have t1:∀{x:D} {s:f_},(if [x].length<=100000 then PR.ok (D.tup [x]) s else .bad)=.ok (.tup [x]) s:=λ{x s}=>b_ (by simp);have U:=sw (ns:=f) (k:=(j:Int)) (by ext);have c2:=zM (ns:=f) (j:=j) (by ext);have c3:=sw (ns:=f) (k:=1) (by ext);rw[Ap]at U;have lt:=Ol j f;have ld:=Fd (i:=j) (l:=f);have e5:∀{d:D},(aX.p (.lst ((f.take j).map .int)) (.lst [d])).bind (λx=>aX.p x (.lst ((f.drop j).map .int)))=J (.lst ((f.take j).map .int++[d]++(f.drop j).map .int)):=λ{d}=>by
  rw[cG (by simp;ext),Ar,cG (by simp;ext)]
 generalize y:(f.take j).map D.int++[z]++(f.drop j).map .int=u at *;have kl:∀d∈u,Kd d:=λd hd=>by
  rw[<-y]at hd;simp only[nw,AD]at hd;rcases hd with(hd|rfl)|hd
  .obtain⟨i,_,rfl⟩:=k6.mp hd;exact rY
  .exact M
  .obtain⟨i,_,rfl⟩:=k6.mp hd;exact rY
 have bl:∃d∈u,Bk n d=T:=⟨z,by rw[<-y];simp,G⟩;have al:Bt n ks (.lst u) "place":=ye kl bl;have mt:∀x∈f.take j++f.take 1++f.drop j,x∈f:=λx B=>by
  simp only[nw]at B;rcases B with(B|B)|B
  .exact JL B
  .exact JL B
  .exact Oj B
 have am:(f.take j++f.take 1++f.drop j).length<=20:=by
  have:=Ol 1 f
  have:=List.length_take_le' 1 f
  simp only[zv,Fd];ext
 generalize H:f.take j++f.take 1++f.drop j=C at *;have R:f≠[]->Bt n ks (.lst (C.map .int)) "parting":=λne=>IL (λx B=>m.bd x (mt x B)) (by ext) λnd=>by
  have:=List.Nodup.length_le_of_subset nd λx B=>mt x B
  have h0:0<f.length:=List.length_pos_iff.mpr ne;rw[<-H]at this;simp only[zv,Je,Fd]at this;ext
 have Q:Bt n ks (.lst (C.map .int++[z])) "place":=ye (λd hd=>by
  rcases nw.mp hd with hd|hd
  .obtain⟨i,_,rfl⟩:=k6.mp hd;exact rY
  .rw[AD.mp hd];exact M) ⟨z,by simp,G⟩
 have l8:∀{s:f_},(if([D.int (-1),.int (n:Int),.bl I,.non,.str "0",.tup [.int 0],.lst [],.int (10^20)]:SW).length<=100000 then PR.ok (D.lst [D.int (-1),.int (n:Int),.bl I,.non,.str "0",.tup [.int 0],.lst [],.int (10^20)]) s else .bad)=.ok (.lst [D.int (-1),.int (n:Int),.bl I,.non,.str "0",.tup [.int 0],.lst [],.int (10^20)]) s:=λ{s}=>b_ (by simp);have L:∀{s:f_},(if([]:SW).length<=100000 then PR.ok (D.lst []) s else .bad)=.ok (.lst []) s:=λ{s}=>b_ (by simp);have l1:∀{x:D} {s:f_},(if [x].length<=100000 then PR.ok (D.lst [x]) s else .bad)=.ok (.lst [x]) s:=λ{x s}=>b_ (by simp);have W:aX.p (.lst ((f.take j).map .int)) (.lst [z])=J (.lst ((f.take j).map .int++[z])):=cG (by simp;ext);have ab:aX.p (.lst ((f.take j).map .int++[z])) (.lst ((f.drop j).map .int))=J (.lst u):=by rw[cG (by simp;ext),y]
 have X:aX.p (.lst ((f.take j).map .int)) (.lst ((f.take (Int.toNat 1)).map .int))=J (.lst ((f.take j++f.take 1).map .int)):=by rw[cG (by simp;ext),Bv];rfl
 have Z:aX.p (.lst ((f.take j++f.take 1).map .int)) (.lst ((f.drop j).map .int))=J (.lst (C.map .int)):=by rw[cG (by simp;ext),<-Bv,H]
 have S:aX.p (.lst (C.map .int)) (.lst [z])=J (.lst (C.map .int++[z])):=cG (by simp;ext);rw[wF (by rfl)];unfold hZ;rw[show mm 8 [.pen,aw n ks,.lst (f.map .int)]=[J .pen,J (aw n ks),J (.lst (f.map .int)),Y,Y,Y,Y,Y]from rfl];rw[aA,bt];simp![aG,bQ,ai,i5,bv,aV,ES,nQ,hU,en,Pf,aw,qx,iz,dH,av,t1,L,ep,l8,aZ,q1,fb,eo,Pg,tp,si,PU.ag];rw[aA,bt];simp![aZ,ai,aG,c5,av,xy,oh,Pf,bv,aV,fj,q2,Pg,tp,si,PU.ag];rw[aA,bt];simp![aG,vb,u4,wv,vi,U,c2,Pf,bQ,ai,av,l1,W,ab,Pg,tp,si,PU.ag];rw[aA,bt];simp![aG,vb,u4,wv,bv,aV,vi,U,c2,c3,Pf,X,Z,Pg,tp,si,PU.ag];rw[aA,bt];simp![aZ,ai,bv,aV,av,q3,Pg,tp,si,PU.ag];have F:Az I (.lst (f.map .int)) (.lst [])=J (.bl (!decide (f=[]))):=lO (ys:=[]);by_cases z0:E=0
 .obtain⟨i7,s4,a0,a9,q4⟩:=cz (s:=O) (size:=7) (by decide) (by decide);obtain⟨d,ed,md⟩:=xK (ds:=[D.tup (f.map .int),.non,.str "",.int 3,.dic,.tup u,.bl I]) a0 (by simpa using a9);have l7:∀{s:f_},(if([D.tup (f.map .int),.non,.str "",.int 3,.dic,.tup u,.bl I]:SW).length<=100000 then PR.ok (D.lst [D.tup (f.map .int),.non,.str "",.int 3,.dic,.tup u,.bl I]) s else .bad)=.ok (.lst [D.tup (f.map .int),.non,.str "",.int 3,.dic,.tup u,.bl I]) s:=λ{s}=>b_ (by simp);refine⟨d,"parting",s4,?_,?_⟩
  .rw[aA,cM];simp![bX,aG,bv,aV,fc,eU,z0,decide_true,n_,if_false,Pf,Pl,Pg,if_true,cU,dH,ai,bQ,c5,av,sA,nQ,hU,Hx,ES,l7,aZ,q4,fb,ed,iF,PU.iW,PU.cR]
  .simp only[j_,Bs,or_false]at md;rcases md with rfl|rfl|rfl|rfl|rfl|rfl|rfl<;>exact IK ⟨_,rfl⟩ (λ_ h=>by cases h)
 have r0:∀{b:Xd []}{env:ar}{s:f_},(pk (xB (ad sh (aa 7) (xC (.int 0)))) b ia:Xd []).p (J .pen::J (.tup [.int (n:Int),.tup (ks.map kD)])::J (.lst (f.map .int))::J z::J (.int (j:Int))::J (.lst u)::J (.lst (C.map .int))::J (.int E)::env) s=.nx (J .pen::J (.tup [.int (n:Int),.tup (ks.map kD)])::J (.lst (f.map .int))::J z::J (.int (j:Int))::J (.lst u)::J (.lst (C.map .int))::J (.int E)::env) s:=λ{b env s}=>by
  simp[z0]
 rw[aA,r0,PU.ag];by_cases P:E=1/\f≠[]
 .refine⟨_,"parting",O,?_,R P.2⟩;rw[aA,cM];simp![fQ,bX,aG,bv,aV,fc,eU,P.1,decide_true,n_,if_false,Pf,Pl,if_true,bQ,av,L,gD,F,P.2,decide_false,Nj,Pg,cU,dH,ai,hU,iF,PU.iW,PU.cR]
 have r1:∀{b:Xd []}{s:f_},(pk (b9 (xB (ad sh (aa 7) (xC (.int 1)))) (xB (ad v8 (aa 2) (bu a_)))) b ia:Xd []).p [J .pen,J (.tup [.int (n:Int),.tup (ks.map kD)]),J (.lst (f.map .int)),J z,J (.int (j:Int)),J (.lst u),J (.lst (C.map .int)),J (.int E)] s=.nx [J .pen,J (.tup [.int (n:Int),.tup (ks.map kD)]),J (.lst (f.map .int)),J z,J (.int (j:Int)),J (.lst u),J (.lst (C.map .int)),J (.int E)] s:=λ{b s}=>by
  rw[cM];simp![fQ,bX,aG,bv,aV,fc,eU,n_,if_false,Pf,Pl,bQ,av,L,gD,F,if_true];by_cases a:E=1
  .have b:f=[]:=Classical.byContradiction λh=>P ⟨a,h⟩;simp[a,b]
  .simp[a]
 rw[aA,r1,PU.ag];by_cases z2:E=2/\f≠[]
 .refine⟨_,"place",O,?_,Q⟩;rw[aA,cM];simp![fQ,bX,aG,bv,aV,fc,eU,z2.1,decide_true,n_,if_false,Pf,Pl,if_true,bQ,av,L,gD,F,z2.2,decide_false,Nj,Pg,cU,dH,ai,l1,S,hU,iF,PU.iW,PU.cR]
 refine⟨_,"place",O,?_,al⟩;have r2:∀{b:Xd []} {s:f_},(pk (b9 (xB (ad sh (aa 7) (xC (.int 2)))) (xB (ad v8 (aa 2) (bu a_)))) b ia:Xd []).p [J .pen,J (.tup [.int (n:Int),.tup (ks.map kD)]),J (.lst (f.map .int)),J z,J (.int (j:Int)),J (.lst u),J (.lst (C.map .int)),J (.int E)] s=.nx [J .pen,J (.tup [.int (n:Int),.tup (ks.map kD)]),J (.lst (f.map .int)),J z,J (.int (j:Int)),J (.lst u),J (.lst (C.map .int)),J (.int E)] s:=λ{b s}=>by
  rw[cM];simp![fQ,bX,aG,bv,aV,fc,eU,n_,if_false,Pf,Pl,bQ,av,L,gD,F,if_true];by_cases a:E=2
  .have b:f=[]:=Classical.byContradiction λh=>z2 ⟨a,h⟩;simp[a,b]
  .simp[a]
 rw[aA,r2,PU.ag,cU];simp![dH,ai,bv,hU,av,iF,Pg,PU.cR]
def ym{i:Int}(h:i.natAbs<1900):i.natAbs.log2<1920:=by
 have:=Nat.log2_le_self i.natAbs
 ext
def x9{P:SU}(E:P.length<=12)(B:∀p∈P,p.length<=12/\∀x∈p,x.natAbs<1900):∃t,nS.p [.lst (P.map ii)]=J (.str t):=by
 obtain⟨a,b⟩:=fU P;have s:=uY (L:=30000) (ds:=P.map λk=>PyData.list (k.map .int)) λu f=>by
  obtain⟨p,y,rfl⟩:=k6.mp f;obtain⟨l,j⟩:=B p y;refine(uY (L:=2000) (ds:=p.map .int) λd hd=>?_).mono (by rw[oh];ext);obtain⟨i,C,rfl⟩:=k6.mp hd;exact GD (ym (j i C))
 have z:1000000<=sizeLine:=by decide
 refine⟨(PyData.list (P.map λk=>PyData.list (k.map .int))).shown,?_⟩;show(mj (.lst (P.map ii))).map D.str=_;unfold mj;dsimp only;rw[show py (.lst (P.map ii))=J (.list (P.map λk=>.list (k.map .int))) by simp[py,a]];dsimp only;have sl:=s.len;rw[oh]at sl;rw[b_ ⟨by simp only[va];ext,s.able,mh sl (by ext)⟩];rfl
def mR:∀k:SS,u5 (k.map .int)=I
 |[]=>rfl
 |i::k=>by simp[u5,flat,mR k]
def nE:∀a:SU,u5 (a.map kD)=I
 |[]=>rfl
 |k::a=>by simp[u5,flat,kD,mR k,nE a]
def vN(F:Fn){h:MH}{p:Nat}{s j:f_}{vs:SM}{ds:SW}{d:D}{O:SV}(bd:∀o∈O,o<h.length)(l:p∈O)(pn:aY h p s)(r:Rps p h O ds vs)(e:F.p ds s=.ok d j):∃v a,F.m vs h=.ok v a/\KB p h a/\aY a p j/\Rp p a O d v/\(F.fr=I->Frs p h.length O a d v):=by have k:=F.ok (q:=p) (h:=h) (O:=O) (vs:=vs) (ds:=ds) (s:=s) bd l pn r;rw[e]at k;obtain⟨v,a,e,kb,i,r,f⟩:=k;exact⟨v,a,e,kb,i,r,f⟩
def mG{h:MH}{p:Nat}{s:f_}(pn:aY h p s):∀o∈[p],o<h.length:=λo a=>by
 have:o=p:=by simpa using a
 subst this;exact aF pn
def qF{n:Int}{a:SU}:flat (aw n a)=I:=by simp[aw,flat,u5,nE]
def mw{p:Nat}{h:MH}{Z:k4}{E:ar}{s:f_}(pn:aY h p s)(f:Z.length=E.length)(r:∀(i:Nat) d,E[i]?=J (J d)->∃v,Z[i]?=J (J v)/\Rp p h [p] d v):PU.Cx p h h.length [p] [p] [] Z E s :=
 ⟨mG pn,λ_ h=>h,mG pn,by simp,iv _,pn,f,λi d e _=>r i d e,λi _ _ a=>by cases a⟩
def m5{e:Xe []}{p:Nat}{h:MH}{Z:k4}{E:ar}{s s':f_}{d:D}(j:e.fz=I)(c:PU.Cx p h h.length [p] [p] [] Z E s)(i:e.p E s=.ok d s'):∃v a,e.m Z h=.ok v a/\KB p h a/\aY a p s'/\Rp p a [p] d v:=by have k:=e.ok c;rw[i]at k;obtain⟨v,a,e,kb,f,_,r,_⟩:=k;exact⟨v,a,e,kb,f,r j⟩
def E0{t:Xt []}{p:Nat}{h:MH}{Z:k4}{E:ar}{s i:f_}{b:Bool}(c:PU.Cx p h h.length [p] [p] [] Z E s)(j:t.p E s=.ok b i):∃a,t.m Z h=.ok b a/\KB p h a/\aY a p i:=by have k:=t.ok c;rw[j]at k;obtain⟨v,a,e,kb,f,r⟩:=k;subst r;exact⟨a,e,kb,f⟩
def qv{p:Nat}{h:MH}{O:SV}{f:SS}{v:PV}(r:Rp p h O (ii f) v):∃a,v=.loc a/\a∉O/\h[a]?=J (.lst (f.map .int)):=by obtain⟨a,xs,e,i,g,r⟩:=r;exact⟨a,e,i,by rw[g,eA r (eK f)]⟩
def nA{p:Nat}{h:MH}{O:SV}{f:SS}{a:Nat}(i:a∉O)(g:h[a]?=J (.lst (f.map .int))):Rp p h O (ii f) (.loc a):=⟨a,_,rfl,i,g,fx _⟩
def qK{p:Nat}{h:MH}{O:SV}:∀{P:SU}{xs:SM},Rps p h O (P.map ii) xs->∀x∈xs,∃q∈P,∃a,x=.loc a/\a∉O/\h[a]?=J (.lst (q.map .int))
 |[],xs,r,x,f=>by rw[show xs=[]from r]at f;cases f
 |q::P,xs,r,x,f=>by
  obtain⟨y,t,rfl,a,b⟩:=r;rcases j_.mp f with rfl|f
  .obtain⟨k,e,j,g⟩:=qv a;exact⟨q,mu,k,e,j,g⟩
  .obtain⟨i,l,z⟩:=qK b x f;exact⟨i,nt _ l,z⟩
structure New(L:Nat)(h:MH)(l:Nat)(zs:SM):Prop where
 le:L<=l
 at':h[l]?=J (.lst zs)
 len:zs.length<=12
 mem:∀z∈zs,∃k ys,z=.loc k/\L<=k/\k≠l/\h[k]?=J (.lst ys)/\ys.length<=12
def qS:∀{a b:SS},a.map PV.int=b.map PV.int->a=b
 |[],[],_=>rfl
 |[],_::_,e=>by cases e
 |_::_,[],e=>by cases e
 |x::a,y::b,e=>by
  injection e with e1 e2
  injection e1 with e1
  rw[e1,qS e2]
section
variable{p n:Nat}{h:MH}{s:f_}{ks:SU}{qs:SS}{v3 v4 v5 v6:PV}
def vG(w:n9 n ks)(m:Sm n qs)(pn:aY h p s)(r3:Rp p h [p] (aw n ks) v3)(r6:Rp p h [p] (ii qs) v6):
  ∃l X j,bh.m [v3,v6] h=.ok (.loc l) j/\KB p h j/\aY j p s/\New h.length j l X/\Rp p j [p] (.lst ((lw n ks qs).map ii)) (.loc l):=by
 obtain⟨a,rfl,na,ga⟩:=qv r6;have U:=aF ga;have M:=aF pn;have F:a≠p:=by simpa using na
 have pt:=fJ (n:=n) (ks:=ks) (qs:=qs);obtain⟨v,j,e,kb,H,r,f⟩:=vN bh (O:=(List.range h.length).filter λi=>!decide (i=a)) (λo G=>A9.mp (As.mp G).1) (As.mpr ⟨A9.mpr M,by simpa using λz=>F z.symm⟩) pn (ds:=[aw n ks,ii qs]) (vs:=[v3,.loc a]) ⟨v3,_,rfl,r3.flat qF,.loc a,[],rfl,nA (by simp) ga,rfl⟩ (rn (s:=s) w m);have W:∀k,k∉((List.range h.length).filter λi=>!decide (i=a))->k=a\/h.length<=k:=λk R=>by
  by_cases z:k=a
  .exact .inl z
  .right;by_cases y:k<h.length
   .exact absurd (As.mpr ⟨A9.mpr y,by simpa using z⟩) R
   .ext
 obtain⟨l,xs,rfl,P,g,L⟩:=f rfl _ rfl;have Q:xs.length<=12:=by rw[L.length,oh];exact mh pt.len (mh fB m.n12)
 refine⟨l,xs,j,e,kb,H,⟨P,g,Q,λz S=>?_⟩,r.mv ⟨λ_ _ _=>rfl,λo G=>?_⟩⟩
 .obtain⟨q,B,k,Z,E,u⟩:=qK L z S;rw[j_,not_or]at E;refine⟨k,_,Z,?_,E.1,u,?_⟩
  .rcases W k E.2 with y|y
   .exfalso;subst y;rw[(kb.keep k U F).trans ga]at u;have eq:qs=q:=qS (by injection u with u;injection u);subst eq
    cases C:qs with
    |nil=>exact pt.ne _ B C
    |cons x t =>
     have:=kN.mp (pt.sub _ B x (by rw[C];exact mu))
     exact this.2 (by rw[C];exact mu)
   .exact y
  .rw[oh]
   have:=List.Nodup.length_le_of_subset (l₂:=zo n qs) ((pt.ris q B).imp λ{a b} h=>by ext) (pt.sub q B)
   have:=fB (n:=n) (qs:=qs)
   have:=m.n12
   ext
 .have:o=p:=by simpa using G
  subst this;exact .inl (As.mpr ⟨A9.mpr M,by simpa using λz=>F z.symm⟩)
structure Sg(p:Nat)(h1 g:MH)(s:f_)(acc:SM)(done:SU):Prop where
 len:h1.length<g.length
 keep:∀i:Nat,i<h1.length->i≠p->g[i]?=h1[i]?
 pn:aY g p s
 at':g[h1.length]?=J (.lst acc)
 fr:∀z∈acc,∃k,z=.loc k/\h1.length<k
 r:Rps p g [h1.length,p] (done.map ii) acc
def rZ(w:n9 n ks)(m:Sm n qs){h1:MH}{it:MIt}{a:Nat}(pl:p<h1.length)(r3:∀g O,Rp p g O (aw n ks) v3)(na:a≠p)(ga:h1[a]?=J (.lst (qs.map .int)))(u:∀g:MH,(∀i:Nat,i<h1.length->i≠p->g[i]?=h1[i]?)->it.ok g):
  ∀(B:SU)(xs:SM)(j:SM)(done:SU)(E:TM)(g:MH),Rps p h1 [p] (B.map ii) xs->Sg p h1 g s j done->done.length+B.length<=12 ->
  ∃l C,zi it h1.length (wo 0) vU (bE bS.m (ae (af 1) (ae (af 2) (ae (af 0) e_)))) xs [E,J v3,J (.loc a)] g=.ok () C/\Sg p h1 C s l (done++B.map (gq ks qs))
 |[],xs,j,done,E,g,G,S,P=>by
  rw[show xs=[]from G];exact⟨j,g,C1 (u g S.keep),by simpa using S⟩
 |q::B,xs,j,done,E,g,G,S,P=>by
  obtain⟨x,t,rfl,rq,rt⟩:=G;obtain⟨k,rfl,W,U⟩:=qv rq;have Z:=aF U;have kp:k≠p:=by simpa using W
  have al:=aF ga;obtain⟨v,F,e,kb,R,_,f⟩:=vN bS (O:=[p]) (mG S.pn) (by simp) S.pn (ds:=[aw n ks,ii qs,ii q]) (vs:=[v3,.loc a,.loc k]) ⟨v3,_,rfl,r3 _ _,.loc a,_,rfl,nA (by simpa using na) ((S.keep a al na).trans ga),.loc k,[],rfl,nA W ((S.keep k Z kp).trans U),rfl⟩ (Eb (p:=q) (s:=s) w m);obtain⟨c,ys,rfl,lc,gc,rc⟩:=f rfl _ rfl;have ey:ys=(gq ks qs q).map .int:=eA rc (eK _);subst ey;have H:=S.len;have ab:j.length=done.length:=by rw[S.r.length,oh]
  have M:F[h1.length]?=J (.lst j):=(kb.keep _ H (by ext)).trans S.at';have S':Sg p h1 (F.set h1.length (.lst (j++[.loc c]))) s (j++[.loc c]) (done++[gq ks qs q]):=by
   refine⟨by rw[Ox];exact q0 H kb.len,λi Q X=>?_,?_,y9 (q0 H kb.len),λz y=>?_,?_⟩
   .rw[o0 (by ext)];exact(kb.keep i (by ext) X).trans (S.keep i Q X)
   .show (F.set h1.length _)[p]?=_;rw[o0 (by ext)];exact R
   .rcases nw.mp y with y|y
    .exact S.fr z y
    .exact⟨c,by simpa using y,by ext⟩
   .rw[Bv];refine Rps.app (S.r.mv ⟨λi Q L=>?_,λo ho=>.inl ho⟩) ⟨.loc c,[],rfl,nA ?_ ?_,rfl⟩
    .rw[j_,not_or]at L;rw[o0 (λz=>L.1 z.symm)];exact kb.keep i Q (by simpa using L.2)
    .simp only[j_,Bs,or_false,not_or];ext
    .rw[o0 (by ext)];exact gc
  obtain⟨l,C,e',S2⟩:=rZ w m pl r3 na ga u B t (j++[.loc c]) (done++[gq ks qs q]) (J (.loc k)) _ rt S' (by simp at P ⊢;ext);refine⟨l,C,?_,by rw[mO];simpa using S2⟩;rw[<-e'];refine C2 (u g S.keep) (Gu) rfl ?_ M (by simp at P;ext);simp only[jx,eB,nh,ng,si,eM,Out.bind_ok];exact e
def vJ(w:n9 n ks)(m:Sm n qs)(pn:aY h p s)(r3:Rp p h [p] (aw n ks) v3)(r6:Rp p h [p] (ii qs) v6):
  ∃l zs E,cf.m [v3,v6] h=.ok (.loc l) E/\KB p h E/\aY E p s/\New h.length E l zs/\Rp p E [p] (.lst (((lw n ks qs).map (gq ks qs)).map ii)) (.loc l):=by
 obtain⟨a,rfl,na,ga⟩:=qv r6;have al:=aF ga;have pl:=aF pn;have P:a≠p:=by simpa using na
 have pt:=fJ (n:=n) (ks:=ks) (qs:=qs);have y:(lw n ks qs).length<=12:=mh pt.len (mh fB m.n12);obtain⟨v,j,e,kb,C,U,_⟩:=vN bh (O:=[p]) (mG pn) (by simp) pn (ds:=[aw n ks,ii qs]) (vs:=[v3,.loc a]) ⟨v3,_,rfl,r3,.loc a,[],rfl,nA na ga,rfl⟩ (rn (s:=s) w m);obtain⟨c,xs,rfl,nc,G,W⟩:=U;have cp:c≠p:=by simpa using nc
 have cl:=aF G;have L:=aF C;obtain⟨B,g,e2,S⟩:=rZ (p:=p) (s:=s) (v3:=v3) w m (h1:=j) (it:=⟨xs,[(c,xs)]⟩) (a:=a) L (λg O=>r3.flat qF) P ((kb.keep a al P).trans ga) (λg hg=>CO.mpr ((hg c cl cp).trans G)) (lw n ks qs) xs [] [] Y (j++[.lst []]) W
  ⟨by simp,λi H _=>vj H,C.app,by simp,by simp,rfl⟩ (by simpa using y)
 rw[List.nil_append]at S;have u:B.length<=12:=by rw[S.r.length,oh,oh];exact y
 have hl:=kb.len;refine⟨j.length,B,g,?_,⟨by have:=S.len;ext,λi H Q=>(S.keep i (by ext) Q).trans (kb.keep i H Q)⟩,S.pn,⟨hl,S.at',u,λz M=>?_⟩,⟨_,_,rfl,by simp;ext,S.at',S.r.mv ⟨λ_ _ _=>rfl,λo ho=>.inl (nt _ ho)⟩⟩⟩
 .have q:cf.m [v3,.loc a] h=((bO (d6 1 [0,1] (kq (bE bh.m (ae (af 0) (ae (af 1) e_)))) (wo 0) vU (bE bS.m (ae (af 1) (ae (af 2) (ae (af 0) e_))))) [J v3,J (.loc a)] h)).fin:=iX (n:=2) (np:=2) (m:=bO (d6 1 [0,1] (kq (bE bh.m (ae (af 0) (ae (af 1) e_)))) (wo 0) vU (bE bS.m (ae (af 1) (ae (af 2) (ae (af 0) e_)))))) (ps:=[v3,.loc a]) rfl;rw[q,CK,zF,CM];simp only[jx,eB,nh,ng,eM,Out.bind_ok,e];have Z:vl (.loc c) j=.ok ⟨xs,[(c,xs)]⟩ j:=by simp only[vl,G]
  rw[Z];simp only[Out.bind_ok];have F:zi ⟨xs,[(c,xs)]⟩ j.length (wo 0) vU (bE bS.m (ae (af 1) (ae (af 2) (ae (af 0) e_)))) xs (Bn 1 [0,1] [J v3,J (.loc a)]) (j++[.lst []])=.ok () g:=e2;rw[F];rfl
 .obtain⟨k,R,hk⟩:=S.fr z M;obtain⟨q,hq,k',f,no,X⟩:=qK S.r z M;rw[R]at f;injection f with f
  subst f;obtain⟨p',ab,rfl⟩:=k6.mp hq;refine⟨k,_,R,by ext,by ext,X,?_⟩;rw[oh];refine mh (BR _ _) ?_;rw[(bo qs).length_eq]
  have:=m.len
  have:=m.n12
  ext
def QN{Z:k4}{i l:Nat}{a:SM}{N:Mx PV}{ns:SM}(f:af i Z h=.ok (.loc l) h)(g:h[l]?=J (.lst a))(j:a.length<=12)(hN:N Z h=.ok (.loc h.length) (h++[MO.lst ns])):
  cj (x_ bn (af i) (ae N e_)) Z h=.nx Z ((h++[MO.lst ns]).set l (MO.lst (a++[PV.loc h.length]))):=by
 rw[r9,uC (n:=l) (h1:=h) f g];simp only[eB,hN,eM,Out.bind_ok];rw[nI (by rw[vj (aF g)];exact g) (by ext)];rfl
def QO{Z:k4}{i l k:Nat}{a ys:SM}(j:af i Z h=.ok (.loc l) h)(g:h[l]?=J (MO.lst (PV.loc k::a)))(f:h[k]?=J (.lst ys))(y:ys.length<=12):
  cj (x_ bn (ao bB (af i) (mC (.int 0))) (ae (mC (.int 99)) e_)) Z h=.nx Z (h.set k (.lst (ys++[.int 99]))):=by
 have u:ao bB (af i) (mC (.int 0)) Z h=.ok (.loc k) h:=by simp only[CJ,j,Out.bind_ok,vM,ic g];rw[show L2.n5 (PV.loc k::a) 0=J (.loc k)from iz];rfl
 rw[r9,uC (n:=k) (h1:=h) u f];simp only[eB,vM,eM,Out.bind_ok];rw[nI f (by ext)];rfl
def E1{L:Nat}{Z:k4}{i l:Nat}{y:SM}{N:Mx PV}{ns:SM}(M:∀g,af i Z g=.ok (.loc l) g)(hL:L<=h.length)(W:New L h l y)(hN:N Z h=.ok (.loc h.length) (h++[MO.lst ns]))(S:ns.length<=12)(pn:aY h p s)(pL:p<L):
  ∃u,(∀a:l_,aL (cj (x_ bn (af i) (ae N e_))) (aL (cj (x_ bn (ao bB (af i) (mC (.int 0))) (ae (mC (.int 99)) e_))) a) Z h=a Z u)/\(aL (cj (x_ bn (af i) (ae N e_))) (cj (x_ bn (ao bB (af i) (mC (.int 0))) (ae (mC (.int 99)) e_))) Z h=.nx Z u)/\h.length<=u.length/\aY u p s/\∀j:Nat,j<L->u[j]?=h[j]?:=by
 have ll:=aF W.at';have lL:=W.le;have e1:=QN (M h) W.at' W.len hN;generalize B:(h++[MO.lst ns]).set l (MO.lst (y++[PV.loc h.length]))=f at e1;have l1:f.length=h.length+1:=by rw[<-B];simp
 have G:f[l]?=J (MO.lst (y++[PV.loc h.length])):=by rw[<-B];exact y9 (by simp;ext)
 have F:∀j:Nat,j<h.length->j≠l->f[j]?=h[j]?:=λj H ne=>by
  rw[<-B,o0 (λz=>ne z.symm)];exact vj H
 obtain⟨k,ys,E,X,kL,U,R⟩:∃(k:Nat)(ys E:SM),y++[.loc h.length]=.loc k::E/\L<=k/\f[k]?=J (.lst ys)/\ys.length<=12:=by
  cases y with
  |nil =>
   refine⟨h.length,ns,[],rfl,hL,?_,S⟩;rw[<-B,o0 (by ext)];simp
  |cons z E =>
   obtain⟨k,ys,rfl,C,Q,O,P⟩:=W.mem z mu;exact⟨k,ys,_,rfl,C,(F k (aF O) Q).trans O,P⟩
 rw[X]at G;have e2:=QO (M f) G U R;refine⟨f.set k (.lst (ys++[.int 99])),λa=>?_,?_,by rw[Ox];ext,?_,λj H=>?_⟩
 .rw[bH,e1,MM.ag,bH,e2,MM.ag]
 .rw[bH,e1,MM.ag,e2]
 .show (f.set k _)[p]?=_;rw[o0 (by ext),F p (by ext) (by ext)];exact pn
 .rw[o0 (by ext),F j (by ext) (by ext)]
end
abbrev sg(z0 z1:TM)(p:Nat)(v3 v4 v5 v6:PV)(z7 z8 z9 z10 z11 z12 z13:TM):k4:=[z0,z1,J (.loc p),J v3,J v4,J v5,J v6,z7,z8,z9,z10,z11,z12,z13]
abbrev N8(n:Nat)(ks:SU)(qs:SS):D:=.lst ((lw n ks qs).map ii)
abbrev QP(n:Nat)(ks:SU)(qs:SS):D:=.lst (((lw n ks qs).map (gq ks qs)).map ii)
abbrev eE(n:Nat)(ks:SU)(qs:SS)(z8 z9 z10 z11 z12 z13:S7):ar:=[Y,Y,J .pen,J (aw n ks),J (ii qs),J (N8 n ks qs),J (ii qs),Y,z8,z9,z10,z11,z12,z13]
structure In(p:Nat)(h:MH)(s:f_)(n:Nat)(ks:SU)(qs:SS)(v3 v4 v5 v6:PV):Prop where
 pn:aY h p s
 r3:Rp p h [p] (aw n ks) v3
 r4:Rp p h [p] (ii qs) v4
 r5:Rp p h [p] (N8 n ks qs) v5
 r6:Rp p h [p] (ii qs) v6
section
variable{p n:Nat}{h h':MH}{s s':f_}{ks:SU}{qs:SS}{v3 v4 v5 v6:PV}{z0 z1 z7 z8 z9 z10 z11 z12 z13:TM}{e8 e9 e10 e11 e12 e13:S7}
def Eh(k:∀j:Nat,j<h.length->j≠p->h'[j]?=h[j]?):Mv [p] h [p] h':=⟨λj a f=>k j a (by simpa using f),λo i=>.inl i⟩
def In.mv(a:In p h s n ks qs v3 v4 v5 v6)(k:∀j:Nat,j<h.length->j≠p->h'[j]?=h[j]?)(pn:aY h' p s'):In p h' s' n ks qs v3 v4 v5 v6 :=
 ⟨pn,a.r3.mv (Eh k),a.r4.mv (Eh k),a.r5.mv (Eh k),a.r6.mv (Eh k)⟩
def Sl(p:Nat)(h:MH)(z:TM)(e:S7):Prop:=∀d,e=J d->∃v,z=J v/\Rp p h [p] d v
def bT:Sl p h z8 Y:=λd e=>by cases e
def u9{d:D}{v:PV}(r:Rp p h [p] d v):Sl p h (J v) (J d):=λa e=>by cases e;exact⟨v,rfl,r⟩
def In.cx(a:In p h s n ks qs v3 v4 v5 v6)(C:Sl p h z8 e8)(E:Sl p h z9 e9)(B:Sl p h z10 e10)(l:Sl p h z11 e11)(j:Sl p h z12 e12)(y:Sl p h z13 e13):PU.Cx p h h.length [p] [p] [] (sg z0 z1 p v3 v4 v5 v6 z7 z8 z9 z10 z11 z12 z13) (eE n ks qs e8 e9 e10 e11 e12 e13) s:=by
 have f:∀{z:TM}{e:S7}{d:D},Sl p h z e->J e=J (J d)->∃v,J z=J (J v)/\Rp p h [p] d v:=λ{z e d} S u=>by
  injection u with u
  obtain⟨v,F,r⟩:=S d u;exact⟨v,by rw[F],r⟩
 refine mw a.pn rfl λi d e=>?_
 match i,e with
 |0,e=>cases e
 |1,e=>cases e
 |2,e=>cases e;exact⟨_,rfl,rfl⟩
 |3,e=>cases e;exact⟨_,rfl,a.r3⟩
 |4,e=>cases e;exact⟨_,rfl,a.r4⟩
 |5,e=>cases e;exact⟨_,rfl,a.r5⟩
 |6,e=>cases e;exact⟨_,rfl,a.r6⟩
 |7,e=>cases e
 |8,e=>exact f C e
 |9,e=>exact f E e
 |10,e=>exact f B e
 |11,e=>exact f l e
 |12,e=>exact f j e
 |13,e=>exact f y e
def New.kb{L l:Nat}{a:SM}(W:New L h l a)(k:KB p h h')(pL:p<L):New L h' l a:=by have u:=W.le;refine⟨u,(k.keep l (aF W.at') (by ext)).trans W.at',W.len,λz y=>?_⟩;obtain⟨c,ys,e,B,j,f,i⟩:=W.mem z y;exact⟨c,ys,e,B,j,(k.keep c (aF f) (by ext)).trans f,i⟩
abbrev T9:Xt []:=(BX (lY (xB (y4 (oD ["list"]) (aa 9)))) (BX (xB (ad HU (qp nS (ac (aa 9) a_)) (qp nS (ac (aa 5) a_)))) (xB (ad v8 (aa 6) (aa 4)))))
abbrev Sd:Xt []:=(BX (xB (ad HU (qp nS (ac (aa 10) a_)) (qp nS (ac (aa 11) a_)))) (xB (ad v8 (aa 6) (aa 4))))
abbrev QQ:Xe []:=(aH 1 [3,4] (aT (aa 5)) (ws':=[]) (i_ 0) ka (aq dE (ac (aa 1) (ac (aa 2) (ac (aa 0) a_)))))
def rS(m:Sm n qs):(lw n ks qs).length<=12/\∀q∈lw n ks qs,q.length<=12/\q.Nodup/\(∀x∈q,x∉qs)/\∀x∈q,0<=x/\x<(n:Int):=by
 have pt:=fJ (n:=n) (ks:=ks) (qs:=qs);have j:=fB (n:=n) (qs:=qs);have n12:=m.n12;refine⟨mh pt.len (by ext),λq f=>?_⟩;have nd:q.Nodup:=(pt.ris q f).imp λ{a b} h=>by ext
 have:=List.Nodup.length_le_of_subset (l₂:=zo n qs) nd (pt.sub q f)
 exact⟨by ext,nd,λx i=>(kN.mp (pt.sub q f x i)).2,λx i=>(kN.mp (pt.sub q f x i)).1⟩
def QR(m:Sm n qs):T9.p (eE n ks qs e8 (J (N8 n ks qs)) e10 e11 e12 e13) s=.ok T s:=by obtain⟨i,a⟩:=rS (ks:=ks) m;have n12:=m.n12;obtain⟨t,l⟩:=x9 i λq f=>⟨(a q f).1,λx j=>by have:=(a q f).2.2.2 x j;ext⟩;simp![mV,qU,bX,i5,HA,HD,JW,Pf,show(["list"].any (cQ "list"))=I by simp[cQ],Pl,B3,n_,if_false,aG,c5,ai,av,l,pz,gD,lO,if_true,decide_true]
def MQ(m:Sm n qs):Sd.p (eE n ks qs e8 e9 (J (QP n ks qs)) (J (QP n ks qs)) e12 e13) s=.ok T s:=by
 obtain⟨a,z⟩:=rS (ks:=ks) m;have n12:=m.n12;have y:=m.len;obtain⟨t,i⟩:=x9 (P:=(lw n ks qs).map (gq ks qs)) (by rw[oh];exact a) λq l=>by
  obtain⟨u,j,rfl⟩:=k6.mp l;refine⟨mh (BR _ _) (by rw[(bo qs).length_eq];ext),λx f=>?_⟩
  have:=m.bd x ((bo qs).mem_iff.mp (As.mp f).1)
  ext
 simp![mV,bX,Pf,Pl,B3,n_,if_false,aG,c5,ai,av,i,pz,gD,lO,if_true,decide_true]
def MU(w:n9 n ks)(m:Sm n qs):QQ.p (eE n ks qs e8 e9 e10 e11 e12 e13) s=.ok (QP n ks qs) s:=by
 obtain⟨B,j⟩:=rS (ks:=ks) m
 have q:=fG (ws:=[]) (ws':=[]) (env:=eE n ks qs e8 e9 e10 e11 e12 e13) (s:=s) (fm:=[3,4]) (i:=aT (aa 5)) (t:=ka) (e:=aq dE (ac (aa 1) (ac (aa 2) (ac (aa 0) a_)))) (ds:=(lw n ks qs).map ii) (λ_=>I) (λx=>match x with|.lst z=>(match bV z with|some p=>ii (gq ks qs p)|none=>.non)|_=>.non) (by simp) (by rw[oh];ext) (λx f=>by
   obtain⟨p,a,rfl⟩:=k6.mp f;refine⟨rfl,λ_=>?_⟩;obtain⟨_,l,y,u⟩:=j p a
   simp![aZ,ai,mO,Au,AR,AT,Aq,av,An w m l y u,eK])
 rw[fV,xg]at q;rw[q];congr 2;rw[xg];refine E9 λp a=>?_;simp[eK]
abbrev mZ:l_:=(aL (bf 9 (bE bh.m (ae (af 3) (ae (af 6) e_))))
 (aL (AF T9.m (bO (mC (.bl T))) lg)
 (aL (cj (x_ bn (af 9) (ae (dC (ae (mC (.int 99)) e_)) e_)))
 (aL (cj (x_ bn (ao bB (af 9) (mC (.int 0))) (ae (mC (.int 99)) e_)))
 (aL (bf 10 (bE cf.m (ae (af 3) (ae (af 6) e_))))
 (aL (bf 11 QQ.m)
 (aL (AF Sd.m (bO (mC (.bl T))) lg)
 (aL (cj (x_ bn (af 10) (ae (dC e_) e_)))
 (cj (x_ bn (ao bB (af 10) (mC (.int 0))) (ae (mC (.int 99)) e_)))))))))))
def Ei(w:n9 n ks)(m:Sm n qs)(a:In p h s n ks qs v3 v4 v5 v6):∃U G B h',mZ (sg z0 z1 p v3 v4 v5 v6 z7 z8 z9 z10 z11 z12 z13) h=.nx (sg z0 z1 p v3 v4 v5 v6 z7 z8 U G B z12 z13) h'/\In p h' s n ks qs v3 v4 v5 v6:=by
 have pl:=aF a.pn;obtain⟨l,zs,h1,e1,H,am,W1,R1⟩:=vG w m a.pn a.r3 a.r6;have I1:=a.mv H.keep am;obtain⟨h2,e2,L,O⟩:=E0 (I1.cx (z0:=z0) (z1:=z1) (z7:=z7) (z8:=z8) (z9:=J (.loc l)) (z10:=z10) (z11:=z11) (z12:=z12) (z13:=z13) bT (u9 R1) bT bT bT bT) (QR (e8:=Y) (e10:=Y) (e11:=Y) (e12:=Y) (e13:=Y) m);have W2:=W1.kb L pl;have ab:∀g:MH,dC (ae (mC (.int 99)) e_) (sg z0 z1 p v3 v4 v5 v6 z7 z8 (J (.loc l)) z10 z11 z12 z13) g=.ok (.loc g.length) (g++[.lst [.int 99]]):=λg=>by
  simp only[uM,eB,vM,eM,Out.bind_ok];exact jk (by simp)
 obtain⟨h3,e3,_,l3,P,k3⟩:=E1 (h:=h2) (Z:=sg z0 z1 p v3 v4 v5 v6 z7 z8 (J (.loc l)) z10 z11 z12 z13) (i:=9) (λg=>rfl) (mh H.len L.len) W2 (ab h2) (by simp) O pl;have Q:∀j:Nat,j<h.length->j≠p->h3[j]?=h[j]?:=λj u z=>(k3 j u).trans ((L.keep j (q0 u H.len) z).trans (H.keep j u z));have ap:h.length<=h3.length:=mh (mh H.len L.len) l3;have C:=a.mv Q P;obtain⟨E,an,h4,e4,F,al,W4,R4⟩:=vJ w m C.pn C.r3 C.r6;have I4:=C.mv F.keep al;obtain⟨f,h5,e5,y,M,R5⟩:=m5 (e:=QQ) rfl (I4.cx (z0:=z0) (z1:=z1) (z7:=z7) (z8:=z8) (z9:=J (.loc l)) (z10:=J (.loc E)) (z11:=z11) (z12:=z12) (z13:=z13) bT bT bT bT bT bT) (MU (e8:=Y) (e9:=Y) (e10:=Y) (e11:=Y) (e12:=Y) (e13:=Y) w m);have I5:=I4.mv y.keep M;obtain⟨h6,e6,W,R⟩:=E0 (I5.cx (z0:=z0) (z1:=z1) (z7:=z7) (z8:=z8) (z9:=J (.loc l)) (z10:=J (.loc E)) (z11:=J f) (z12:=z12) (z13:=z13) bT bT (u9 (R4.mv (y.mv (by simp)))) (u9 R5) bT bT) (MQ (e8:=Y) (e9:=Y) (e12:=Y) (e13:=Y) m);have W6:=(W4.kb y (by ext)).kb W (by ext);have S:∀g:MH,dC e_ (sg z0 z1 p v3 v4 v5 v6 z7 z8 (J (.loc l)) (J (.loc E)) (J f) z12 z13) g=.ok (.loc g.length) (g++[.lst []]):=λg=>by
  simp only[uM,eM,Out.bind_ok];exact jk (by simp)
 obtain⟨h7,_,e7,l7,X,k7⟩:=E1 (h:=h6) (Z:=sg z0 z1 p v3 v4 v5 v6 z7 z8 (J (.loc l)) (J (.loc E)) (J f) z12 z13) (i:=10) (λg=>rfl) (mh F.len (mh y.len W.len)) W6 (S h6) (by simp) R (by ext);refine⟨J (.loc l),J (.loc E),J f,h7,?_,C.mv (λj u z=>(k7 j u).trans ((W.keep j (by have:=F.len;have:=y.len;ext) z).trans ((y.keep j (by have:=F.len;ext) z).trans (F.keep j u z)))) X⟩;unfold mZ;rw[bH,fD];simp only[jx,eB,nh,ng,eM,Out.bind_ok,e1,au,tp,si,MM.ag];rw[bH,xJ,e2,au];simp only[n_,if_false];rw[show ∀(Z:k4)(g:MH),lg Z g=.nx Z g from λ_ _=>rfl,MM.ag,e3];rw[bH,fD];simp only[jx,eB,nh,ng,eM,Out.bind_ok,e4,au,tp,si,MM.ag];rw[bH,fD,e5,au];simp only[tp,si,MM.ag];rw[bH,xJ,e6,au];simp only[n_,if_false];rw[show ∀(Z:k4)(g:MH),lg Z g=.nx Z g from λ_ _=>rfl,MM.ag];exact e7
end
def vB{lo:Int}{c i:Nat}{x:PV}(h:(bM lo c)[i]?=J x):x=.int (lo+i)/\i<c:=by
 unfold bM at h;rw[wl,y_]at h;obtain⟨k,f,rfl⟩:=h
 have:=r_.mp f
 obtain⟨a,b⟩:=this;simp at a b;subst b;exact⟨rfl,a⟩
def ud{ns:SS}{k:Nat}(a:k<ns.length):n5 (ns.map PV.int) (k:Int)=J (.int ns[k]):=L2.fh (by simp[a])
def qA{h:MH}:q7 (.int 10) (.int 18) h=.ok (.int (10^18)) h:=rG (by decide)
def zN{h:MH}:q7 (.int 10) (.int 15) h=.ok (.int (10^15)) h:=rG (by decide)
def zB{h:MH}{ns:SS}{k:Nat}(hk:k<64):∃m c:Int,eP [.frl (ns.map .int),.int k] h=.ok (.loc h.length) (h++[.lst [.int m,.int c,.int 0]]):=by
 unfold eP;have G:∀{i:Int}{h:MH},jj (.int 7919) (.int i) h=.ok (.int (7919*i)) h:=gN (by decide);have Q:∀{i:Int}{h:MH},jj (.int 48271) (.int i) h=.ok (.int (48271*i)) h:=gN (by decide);have R:∀{i:Int}{h:MH},jj (.int 40009) (.int i) h=.ok (.int (40009*i)) h:=gN (by decide);have L:∀{a b c:PV}{h:MH},sf [a,b,c] h=.ok (.loc h.length) (h++[.lst [a,b,c]]):=jk (by simp)
 have fin:∀cell:Int,∃m c:Int,(aL (AF (mB (ao BA (vx AH (ae (af 2) e_)) (ao q7 (mC (.int 10)) (mC (.int 18))))) (bO (dC (ae (mC (.int 1)) (ae (vx AH (ae (af 2) e_)) (ae (mC (.int 0)) e_))))) lg)
   (bO (dC (ae (mC (.int 0)) (ae (ao li (ao m_ (af 2) (mC (.int 2147483587))) (ao jj (mC (.int 40009)) (af 1))) (ae (mC (.int 0)) e_)))))) [J (.frl (ns.map .int)),J (.int k),J (.int cell)] h=.rt (.loc h.length) (h++[.lst [.int m,.int c,.int 0]]):=λcell=>by
  by_cases z:(10:Int)^18<=(if cell<0 then -cell else cell)
  .exact⟨1,(if cell<0 then -cell else cell),by simp[qA,L,z,-Int.reducePow]⟩
  .exact⟨0,cell.fmod 2147483587+40009*k,by simp[qA,L,z,R,fu,-Int.reducePow]⟩
 have u:∀cell:Int,∃m c:Int,((aL (AF (mB (ao BA (vx AH (ae (af 2) e_)) (ao q7 (mC (.int 10)) (mC (.int 18))))) (bO (dC (ae (mC (.int 1)) (ae (vx AH (ae (af 2) e_)) (ae (mC (.int 0)) e_))))) lg)
   (bO (dC (ae (mC (.int 0)) (ae (ao li (ao m_ (af 2) (mC (.int 2147483587))) (ao jj (mC (.int 40009)) (af 1))) (ae (mC (.int 0)) e_)))))) [J (.frl (ns.map .int)),J (.int k),J (.int cell)] h).fin=.ok (.loc h.length) (h++[.lst [.int m,.int c,.int 0]]):=λcell=>by
  obtain⟨m,c,q⟩:=fin cell;exact⟨m,c,by rw[q];rfl⟩
 have j:∀cell:Int,(aL (bf 2 (ao li (ao jj (mC (.int 7919)) (af 1)) (mC (.int 11))))
 (AF (mB (ao By (af 1) (vx AI (ae (vx u6 (ae (af 0) e_)) (ae (mC (.int 63)) e_))))) (bf 2 (ao bB (af 0) (af 1))) (AF (mB (ao Bz (vx u6 (ae (af 0) e_)) (mC (.int 0)))) (bf 2 (ao li (ao m_ (ao bB (af 0) (ao m_ (af 1) (vx AI (ae (vx u6 (ae (af 0) e_)) (ae (mC (.int 63)) e_))))) (ao q7 (mC (.int 10)) (mC (.int 15)))) (ao jj (mC (.int 48271)) (af 1)))) lg))) [J (.frl (ns.map .int)),J (.int k),Y] h=.nx [J (.frl (ns.map .int)),J (.int k),J (.int cell)] h ->
   ∃m c:Int,eD 3 2 yE [.frl (ns.map .int),.int k] h=.ok (.loc h.length) (h++[.lst [.int m,.int c,.int 0]]):=λcell q=>by
  obtain⟨m,c,P⟩:=u cell;refine⟨m,c,(iX (by rfl)).trans ?_⟩;rw[<-P];unfold yE;simp only[bH]at q ⊢;have S:ci 3 [PV.frl (ns.map .int),PV.int k]=[J (.frl (ns.map .int)),J (.int k),Y]:=rfl;rw[S];generalize (bf 2 (ao li (ao jj (mC (.int 7919)) (af 1)) (mC (.int 11)))) [J (.frl (ns.map .int)),J (.int k),Y] h=X at q ⊢
  cases X with
  |nx Z1 H =>
   simp only[MM.ag,bH]at q ⊢;rw[q];rfl
  |_=>cases q
 have l:∃f:Nat,(if(63:Int)<(ns.length:Int)then(63:Int)else(ns.length:Int))=(f:Int)/\f<=ns.length/\(0<ns.length->0<f):=by
  by_cases z:(63:Int)<(ns.length:Int)
  .exact⟨63,by rw[b_ z];rfl,by ext,by ext⟩
  .exact⟨ns.length,by rw[c_ z],by ext,by ext⟩
 obtain⟨f,C,F,y⟩:=l;by_cases H:k<f
 .refine j (ns[k]'(by ext)) ?_;simp[G,C,H,ud (show k<ns.length by ext)]
 .by_cases B:0<ns.length
  .have E:(f:Int)≠0:=by have:=y B;ext
   have M:k % f<ns.length:=q0 (Nat.mod_lt _ (y B)) F;have W:(k:Int).fmod (f:Int)=((k % f:Nat):Int):=by rw[Ob _ (by ext)];rfl
   refine j ((ns[k % f]'M).fmod (10^15)+48271*k) ?_;have Z:((10:Int)^15)≠0:=by decide
   have O:=ud M;rw[Int.natCast_emod]at O;simp[G,C,H,B,fu E,W,O,zN,fu Z,Q,-Int.reducePow]
  .have U:ns=[]:=E5.mp (by ext);refine j (7919*k+11) ?_;have z:¬((k:Int)<(f:Int)):=by ext
   simp[G,C,z,B]
def KS(Z:k4)(o:SOut):Prop:=match o with
 |.nx a _=>a.length=Z.length/\a[0]?=Z[0]?
 |.bk a _=>a.length=Z.length/\a[0]?=Z[0]?
 |.ct a _=>a.length=Z.length/\a[0]?=Z[0]?
 |_=>True
def KS.of{Z Z1:k4}{o:SOut}(h:Z1.length=Z.length/\Z1[0]?=Z[0]?)(k:KS Z1 o):KS Z o:=by
 cases o with
 |nx a b=>exact⟨k.1.trans h.1,k.2.trans h.2⟩
 |bk a b=>exact⟨k.1.trans h.1,k.2.trans h.2⟩
 |ct a b=>exact⟨k.1.trans h.1,k.2.trans h.2⟩
 |_=>trivial
def K0(m:l_):Prop:=∀Z h,KS Z (m Z h)
def IQ:K0 lg:=λZ h=>⟨rfl,rfl⟩
def IR{α:Type}{m:Mx α}{k:α->l_}(a:∀v,K0 (k v)):K0 (zO m k):=λZ h=>by
 unfold zO
 cases m Z h with
 |ok v f=>exact a v Z f
 |_=>trivial
def MV{m:Mx PV}:K0 (bO m):=λZ h=>by
 unfold bO
 cases m Z h with
 |ok v a=>trivial
 |_=>trivial
def nR{i:Nat}{v:PV}{Z:k4}(h:i≠0):(Z.set i (J v)).length=Z.length/\(Z.set i (J v))[0]?=Z[0]?:=⟨by simp,o0 h⟩
def MX{a b:l_}(j:K0 a)(l:K0 b):K0 (aL a b):=λZ h=>by
 have:=j Z h
 unfold aL
 cases e:a Z h with
 |nx f i=>rw[e]at this;exact KS.of this (l f i)
 |bk f i=>rw[e]at this;exact this
 |ct f i=>rw[e]at this;exact this
 |_=>trivial
def QS{c:Mx Bool}{a b:l_}(f:K0 a)(i:K0 b):K0 (AF c a b):=IR λx=>by
 cases x
 .exact i
 .exact f
def QT{j:MIt}{i:Nat}{b:l_}(l:i≠0)(y:K0 b):∀xs:SM,K0 (vO j (wo i) b xs):=by
 intro xs
 induction xs with
 |nil =>
  intro Z h;unfold vO;split
  .exact⟨rfl,rfl⟩
  .trivial
 |cons x r u =>
  intro Z h;unfold vO;split
  .show KS Z (match b (Z.set i (J x)) h with
    |.nx f a=>vO j (wo i) b r f a
    |.ct f a=>vO j (wo i) b r f a
    |.bk f a=>.nx f a
    |.rt v a=>.rt v a
    |.exc e f a=>.exc e f a
    |.rse e f a=>.rse e f a
    |.bad=>.bad)
   have k:=(y (Z.set i (J x)) h)
   cases e:b (Z.set i (J x)) h with
   |nx f a=>rw[e]at k;exact KS.of (nR l) (KS.of k (u f a))
   |ct f a=>rw[e]at k;exact KS.of (nR l) (KS.of k (u f a))
   |bk f a=>rw[e]at k;exact KS.of (nR l) k
   |_=>trivial
  .trivial
def MY{l:Mx MIt}{i:Nat}{b:l_}(f:i≠0)(a:K0 b):K0 (jl l (wo i) b):=IR λj=>QT f a j.xs
section
variable{ws:SV}
def IT{a b:Xd ws}(f:K0 a.m)(i:K0 b.m):K0 (aE a b).m:=MX f i
def MZ{t:Xt ws}{e:Xe ws}:K0 (pk t (bR e) ia).m:=QS MV IQ
def IU{a:Xi ws}{i:Nat}{j:ws.contains i=T}{b:Xd ws}{l:a.fz=I}(h:i≠0)(f:K0 b.m):K0 (gu a (i_ i j) b l).m:=MY h f
end
def QU{i j n:Nat}(f:i≠0)(l:j≠0)(v:PV):K0 (Gf (Es (wo i) (Es (wo j) Ge)) n v):=λZ h=>by
 unfold Gf;split
 .rename_i xs
  split
  .match xs with
   |[]=>trivial
   |[_]=>trivial
   |a::b::r =>
    show KS Z (Ge r ((Z.set i (J a)).set j (J b)) h);unfold Ge;split
    .exact KS.of (nR f) (Z1:=Z.set i (J a)) (nR l)
    .trivial
  .trivial
 .trivial
def M0{m:Mx PV}{g:Mg}(a:∀v,K0 (g v)):K0 (lR m g):=IR λv Z h=>by
 have:=a v Z h
 cases e:g v Z h with
 |nx f i=>rw[e]at this;exact this
 |_=>trivial
def IV{f:SV}{e:Xe f}{i j:Nat}{a:f.contains i=T}{c:f.contains j=T}{hz}(l:i≠0)(u:j≠0):K0 (Dy e (Ay (t0 (i_ i a) (t0 (i_ j c) Ax)) 2) hz).m:=M0 (QU l u)
def IW{w:Str}(f:PyData.strOk w=I):Az I (.lst [.str w,.str w,.str w]) (.lst [.str w,.str w,.str w])=J (.bl T):=by
 have cl:(PyData.list [.str w,.str w,.str w]).canLay0=I:=by simp[PyData.canLay0,PyData.canLayAll0,f]
 have a:=gh cl (by simp only[PyData.depth,PyData.depthAll];ext);unfold Az;rw[show py (.lst [.str w,.str w,.str w])=J (.list [.str w,.str w,.str w])from rfl];dsimp only;rw[b_ ⟨⟨by simp[va,t_],by simp[va,t_]⟩,a,a⟩,SeqAt.eqv_refl _ cl];rfl
abbrev QV:Xd []:=(aE (Dy (aq fC (ac (aa 2) (ac (aa 3) (ac (aa 4) a_)))) (Ay (t0 (i_ 12) (t0 (i_ 13) Ax)) 2))
 (pk (xB (ad v8 (aH 1 [3,12] (bJ vv (ac (xC (.int 3)) a_)) (ws':=[]) (i_ 0) ka (aq dB (ac (aa 0) (ac (aa 1) (ac (aa 2) a_))))) (ad Hs (bu (ac (aa 13) a_)) (xC (.int 3))))) (bR (xC (.bl T))) ia))
abbrev N9:Xd []:=gu (bJ vv (ac (xC (.int 3)) a_)) (i_ 8) QV
section
variable{p n:Nat}{h h':MH}{s s':f_}{ks:SU}{qs:SS}{v3 v4 v5 v6:PV}{z0 z1 z7 z8 z9 z10 z11 z12 z13:TM}{e8 e9 e10 e11 e12 e13:S7}
def QW(m:Sm n qs):∃j f s',QV.p (eE n ks qs e8 Y Y Y e12 e13) s=.nx (eE n ks qs e8 Y Y Y j f) s':=by
 obtain⟨d,a,l,q,b⟩:=IN (ks:=ks) (s:=s) m;refine⟨J d,J (.str a),l,?_⟩;have B:∀{x:D}{s:f_},(if [x].length<=100000 then PR.ok (D.lst [x]) s else .bad)=.ok (.lst [x]) s:=λ{x s}=>b_ (by simp);have C:Hs.p (.lst [.str a]) (.int 3)=J (.lst [.str a,.str a,.str a]):=by unfold Hs;dsimp only;rw[b_ ⟨⟨by ext,by ext⟩,by simp[show Int.toNat 3=3 from rfl,List.replicate]⟩];rfl
 have ok:PyData.strOk a=I:=by obtain⟨c,⟨_,rfl⟩|⟨_,rfl⟩,_⟩:=b<;>decide +kernel
 have y:=fG (ws:=[]) (ws':=[]) (env:=eE n ks qs e8 Y Y Y (J d) (J (.str a))) (s:=l) (fm:=[3,12]) (i:=bJ vv (ac (xC (.int 3)) a_)) (t:=ka) (e:=aq dB (ac (aa 0) (ac (aa 1) (ac (aa 2) a_)))) (ds:=cP 0 3) (λ_=>I) (λ_=>.str a) (by
  simp only[eT,ai,bv,aV,Pb,av]
  rw[gI (by ext)];rfl) (by rw[cW];ext) (λx z=>by
   obtain⟨i,rfl,_⟩:=lH z;refine⟨rfl,λ_=>?_⟩
   simp![aZ,ai,mO,Au,AR,AT,Aq,av,IM b])
 rw[fV]at y;rw[aA,Hy];simp![aZ,ai,av,q,Pg,LH,AU,Fh,if_true,LG,LD,Ar,LF,tp,si,PU.ag];rw[cM,bX,aG];have u:(aH 1 [3,12] (bJ vv (ac (xC (.int 3)) a_)) (ws':=[]) (i_ 0) ka (aq dB (ac (aa 0) (ac (aa 1) (ac (aa 2) a_)))):Xe []).p (eE n ks qs e8 Y Y Y (J d) (J (.str a))) l=.ok (.lst [.str a,.str a,.str a]) l:=y;rw[u];simp![aG,bQ,ai,av,B,bv,aV,C,Pf,gD,IW ok,Pl,Pg,n_,if_false,kO]
def M1(m:Sm n qs):∃l i f s',N9.p (eE n ks qs Y Y Y Y Y Y) s=.nx (eE n ks qs l Y Y Y i f) s':=by
 obtain⟨u,s',e,e8,e12,e13,rfl⟩:=eN (g:=(i_ 8:Xg []).p) (b:=QV.p) (λ_ env _=>∃e8 e12 e13,env=eE n ks qs e8 Y Y Y e12 e13) (cP 0 3) 0 (eE n ks qs Y Y Y Y Y Y) s ⟨Y,Y,Y,rfl⟩ (λj env s' d ⟨e8,e12,e13,y⟩ hd=>by
  subst y;obtain⟨a,b,z,q⟩:=QW (ks:=ks) (e8:=J d) (e12:=e12) (e13:=e13) (s:=s') m
  exact⟨eE n ks qs (J d) Y Y Y e12 e13,_,z,rfl,q,J d,a,b,rfl⟩)
 refine⟨e8,e12,e13,s',?_⟩;rw[fL];simp only[eT,ai,bv,aV,Pb,av];rw[gI (by ext),Pf,Pg];exact e
def QX:K0 N9.m:=IU (by decide) (IT (IV (by decide) (by decide)) MZ)
abbrev X3:Xe []:=aq gS (ac (aa 2) (ac (xC (.int 12)) a_))
abbrev X4:Xe []:=DE (aq cV (ac (aa 2) (ac (ad o_ (aa 3) (xC (.int 0))) a_))) DC (DD (aq aI (ac (aa 2) (ac (ad aX (ad o_ (aa 3) (xC (.int 0))) (xC (.int 1))) a_))))
abbrev X5:Xe []:=aq dM (ac (aa 3) (ac (aa 4) a_))
abbrev X6:Xe []:=qp ER (ac (aa 4) a_)
abbrev ql:l_:=aL (bf 3 X3.m) (aL (bf 4 X4.m) (aL (bf 5 X5.m) (aL (bf 6 X6.m) (aL (jl (eR (ae (mC (.int 2)) e_)) (wo 7) mZ) N9.m))))
def QY{a b:Int}{r:ar}(i:n<=12):∃qs s',X4.p (Y::Y::J .pen::J (aw n ks)::r) s=.ok (ii qs) s'/\Sm n qs:=by obtain⟨f,B,j,o⟩:=uF (n:=n) (s:=s) i;obtain⟨d,y,z,C,l⟩:=cz (s:=B) (size:=(n:Int)+1) (by ext) (by ext);have nd:f.Nodup:=o.pm.symm.nodup (uE n);refine⟨f.take d.toNat,y,?_,i,nd.sublist (Oo _ _),λx u=>o.bd x (JL u)⟩;simp![vb,aZ,ai,aG,bv,aV,aw,qx,iz,Pf,av,j,u4,wv,fj,l,vi,sw z]
def IY{h:MH}{a b:Int}{z0 z1:TM}{r:List (TM)}(hr:r.length=11):∃P h',ql (z0::z1::J (.loc h.length)::r) (h++[.lst [.int a,.int b,.int 0]])=.nx P h'/\P.length=14/\P[0]?=J z0:=by
 match r,hr with
 |[a3,a4,a5,R,L,F,M,C,B,l,f],_ =>
  have ab:aY (h++[.lst [.int a,.int b,.int 0]]) h.length (a,b,0):=K4;generalize h++[MO.lst [.int a,.int b,.int 0]]=g0 at *;generalize h.length=p at *;obtain⟨n,ks,s1,q1,hn,w⟩:=MF (s:=(a,b,0))
  obtain⟨v3,g1,e1,k1,al,r3⟩:=m5 (e:=X3) (Z:=[z0,z1,J (.loc p),a3,a4,a5,R,L,F,M,C,B,l,f]) (E:=[Y,Y,J .pen,Y,Y,Y,Y,Y,Y,Y,Y,Y,Y,Y]) (d:=aw n ks) (s':=s1) rfl (mw ab rfl λi d e=>by
   match i,e with
   |0,e=>cases e
   |1,e=>cases e
   |2,e=>cases e;exact⟨_,rfl,rfl⟩
   |i+3,e =>
    have:(List.replicate 11 (Y:S7))[i]?=J (J d):=e
    rw[BP]at this
    split at this<;>cases this) (by simp[q1])
  obtain⟨qs,O,q2,m⟩:=QY (ks:=ks) (a:=0) (b:=0) (r:=[Y,Y,Y,Y,Y,Y,Y,Y,Y,Y]) (s:=s1) hn
  obtain⟨v4,g2,e2,k2,am,r4⟩:=m5 (e:=X4) (Z:=[z0,z1,J (.loc p),J v3,a4,a5,R,L,F,M,C,B,l,f]) rfl (mw al rfl λi d e=>by
   match i,e with
   |0,e=>cases e
   |1,e=>cases e
   |2,e=>cases e;exact⟨_,rfl,rfl⟩
   |3,e=>cases e;exact⟨_,rfl,r3⟩
   |i+4,e =>
    have:(List.replicate 10 (Y:S7))[i]?=J (J d):=e
    rw[BP]at this
    split at this<;>cases this) q2
  have r3:=r3.mv (k2.mv (by simp));have ml:=m.len
  obtain⟨v5,g3,e3,k3,U,r5⟩:=m5 (e:=X5) (Z:=[z0,z1,J (.loc p),J v3,J v4,a5,R,L,F,M,C,B,l,f]) (E:=[Y,Y,J .pen,J (aw n ks),J (ii qs),Y,Y,Y,Y,Y,Y,Y,Y,Y]) (d:=N8 n ks qs) (s':=O) rfl (mw am rfl λi d e=>by
   match i,e with
   |0,e=>cases e
   |1,e=>cases e
   |2,e=>cases e;exact⟨_,rfl,rfl⟩
   |3,e=>cases e;exact⟨_,rfl,r3⟩
   |4,e=>cases e;exact⟨_,rfl,r4⟩
   |i+5,e =>
    have:(List.replicate 9 (Y:S7))[i]?=J (J d):=e
    rw[BP]at this
    split at this<;>cases this) (by simp[x3 w m])
  have r3:=r3.mv (k3.mv (by simp));have r4:=r4.mv (k3.mv (by simp))
  obtain⟨v6,S,e4,X,an,r6⟩:=m5 (e:=X6) (Z:=[z0,z1,J (.loc p),J v3,J v4,J v5,R,L,F,M,C,B,l,f]) (E:=[Y,Y,J .pen,J (aw n ks),J (ii qs),Y,Y,Y,Y,Y,Y,Y,Y,Y]) (d:=ii qs) (s':=O) rfl (mw U rfl λi d e=>by
   match i,e with
   |0,e=>cases e
   |1,e=>cases e
   |2,e=>cases e;exact⟨_,rfl,rfl⟩
   |3,e=>cases e;exact⟨_,rfl,r3⟩
   |4,e=>cases e;exact⟨_,rfl,r4⟩
   |i+5,e =>
    have:(List.replicate 9 (Y:S7))[i]?=J (J d):=e
    rw[BP]at this
    split at this<;>cases this) (by simp[DG (x:=qs.map D.int) (by simp;ext)])
  have G:In p S O n ks qs v3 v4 v5 v6:=⟨an,r3.mv (X.mv (by simp)),r4.mv (X.mv (by simp)),r5.mv (X.mv (by simp)),r6⟩;obtain⟨Z5,g5,e5,Q,H,u,y,rfl,I5⟩:=nU (it:=⟨bM 0 2,[]⟩) (g:=wo 7) (b:=mZ)
   (λ_ Z h=>∃Q H u y,Z=sg z0 z1 p v3 v4 v5 v6 Q F H u y l f/\In p h O n ks qs v3 v4 v5 v6) (bM 0 2) 0 (sg z0 z1 p v3 v4 v5 v6 L F M C B l f) S ⟨L,M,C,B,rfl,G⟩ (λ_ _ _ _=>tU.mpr trivial) (λj Z h x ⟨Q,H,u,y,W,G⟩ hx=>by
    subst W;obtain⟨z9,z10,z11,h',e,I'⟩:=Ei (z0:=z0) (z1:=z1) (z7:=J x) (z8:=F) (z9:=H) (z10:=u) (z11:=y) (z12:=l) (z13:=f) w m G
    exact⟨sg z0 z1 p v3 v4 v5 v6 (J x) F H u y l f,h,_,h',rfl,e,J x,z9,z10,z11,rfl,I'⟩)
  obtain⟨ax,ap,as,s6,q6⟩:=M1 (ks:=ks) (s:=O) m;have k:=N9.ok (I5.cx (z0:=z0) (z1:=z1) (z7:=Q) (z8:=F) (z9:=H) (z10:=u) (z11:=y) (z12:=l) (z13:=f) bT bT bT bT bT bT) λi j hi _ _ d _ _ e=>by cases hi
  rw[q6]at k;obtain⟨P,h',e6,_⟩:=k;have kk:=QX (sg z0 z1 p v3 v4 v5 v6 Q F H u y l f) g5;rw[e6]at kk;refine⟨P,h',?_,kk.1,kk.2⟩;unfold ql;rw[bH,fD,e1,au];simp only[tp,si,MM.ag];rw[bH,fD,e2,au];simp only[tp,si,MM.ag];rw[bH,fD,e3,au];simp only[tp,si,MM.ag];rw[bH,fD,e4,au];simp only[tp,si,MM.ag];have er:∀Z:k4,eR (ae (mC (.int 2)) e_) Z S=.ok ⟨bM 0 2,[]⟩ S:=λZ=>by
   simp -implicitDefEqProofs
  rw[bH,uX,er,au];refine(congrArg (λz:SOut=>z.then _) e5).trans ?_;rw[MM.ag];exact e6
end
def yw:BL=aL (jl (eR (ae (mC (.int 3)) e_)) (wo 1) (aL (bf 2 (bE eP (ae (af 0) (ae (af 1) e_)))) ql)) (bO (mC (.bl I))):=rfl
def M2{Z:k4}{x:TM}(h:Z.length=14)(j:Z[0]?=J x):∃l i r,Z=x::l::i::r/\r.length=11:=by
 match Z,h with
 |b0::a::f::r,h =>
  cases j;exact⟨a,f,r,rfl,by simpa using h⟩
def BN(ns:SS)(U:ns.length<=63):∃i,A8 [.frl (ns.map .int)] []=.ok (.bl I) i:=by
 unfold A8;rw[iX (by rfl),yw];have H:ci 14 [PV.frl (ns.map .int)]=[J (.frl (ns.map .int)),Y,Y,Y,Y,Y,Y,Y,Y,Y,Y,Y,Y,Y]:=rfl;rw[H];obtain⟨W,i,e,y,l⟩:=nU (it:=⟨bM 0 3,[]⟩) (g:=wo 1) (b:=aL (bf 2 (bE eP (ae (af 0) (ae (af 1) e_)))) ql)
  (λj Z h=>Z.length=14/\Z[0]?=J (J (.frl (ns.map .int)))) (bM 0 3) 0 [J (.frl (ns.map .int)),Y,Y,Y,Y,Y,Y,Y,Y,Y,Y,Y,Y,Y] [] ⟨rfl,rfl⟩ (λ_ _ _ _=>tU.mpr trivial) (λm Z h x ⟨M,Q⟩ B=>by
   obtain⟨S,L,r,rfl,C⟩:=M2 M Q;obtain⟨rfl,R⟩:=vB B;obtain⟨a,b,u⟩:=zB (h:=h) (ns:=ns) (k:=m) (by ext);obtain⟨O,F,e2,P,E⟩:=IY (h:=h) (a:=a) (b:=b) (z0:=J (.frl (ns.map .int))) (z1:=J (.int (0+(m:Int)))) (r:=r) C;refine⟨_,_,O,F,rfl,?_,P,E⟩;rw[bH];have f:eP [.frl (ns.map .int),.int (0+(m:Int))] h=.ok (.loc h.length) (h++[.lst [.int a,.int b,.int 0]]):=by rw[Int.zero_add];exact u
   have e1:bf 2 (bE eP (ae (af 0) (ae (af 1) e_))) (J (.frl (ns.map .int))::J (.int (0+(m:Int)))::L::r) h=.nx (J (.frl (ns.map .int))::J (.int (0+(m:Int)))::J (.loc h.length)::r) (h++[.lst [.int a,.int b,.int 0]]):=by simp -implicitDefEqProofs [f,-Int.zero_add]
   refine(congrArg (λz:SOut=>z.then _) e1).trans ?_;rw[MM.ag]
   exact e2)
 refine⟨i,?_⟩;have G:eR (ae (mC (.int 3)) e_) [J (.frl (ns.map .int)),Y,Y,Y,Y,Y,Y,Y,Y,Y,Y,Y,Y,Y] []=.ok ⟨bM 0 3,[]⟩ []:=by simp -implicitDefEqProofs
 rw[bH,uX,G,au,e,MM.ag];rfl
end Law
namespace Law
open PySem.Spec PyProof.Rows L2 MM
set_option maxHeartbeats 4000000
def y6(i:Nat):Stmt:=PySem.Challenge.pw_fewfills_k24_pieces_and_shores.main.body.getD i (.Pass ⟨0,0,0,0⟩)
structure Cl(K:h8)(mg:AE):Prop where
 r_NoParting:∃C,AJ K mg "NoParting" C
 r_NoPlace:∃C,AJ K mg "NoPlace" C
 t_FillError:∃D,AJ K mg "FillError" D/\∀x∈(["NoParting","NoPlace"]:SQ),∃C,AJ K mg x C/\PySem.W.mroIn K C (.ref D)=J I
 i_NoNumber:∃D,mg "NoNumber"=J (.ref D)/\om K mg (.ref D) ["NoParting","NoPlace"] []
 i_NoOrder:∃D,mg "NoOrder"=J (.ref D)/\om K mg (.ref D) ["NoParting","NoPlace"] []
 i_NoParting:∃D,mg "NoParting"=J (.ref D)/\om K mg (.ref D) ["NoParting","NoPlace"] ["NoParting"]
 i_NoPivot:∃D,mg "NoPivot"=J (.ref D)/\om K mg (.ref D) ["NoParting","NoPlace"] []
 i_NoPlace:∃D,mg "NoPlace"=J (.ref D)/\om K mg (.ref D) ["NoParting","NoPlace"] ["NoPlace"]
 i_NoRow:∃D,mg "NoRow"=J (.ref D)/\om K mg (.ref D) ["NoParting","NoPlace"] []
 i_NoSheet:∃D,mg "NoSheet"=J (.ref D)/\om K mg (.ref D) ["NoParting","NoPlace"] []
 i_NoText:∃D,mg "NoText"=J (.ref D)/\om K mg (.ref D) ["NoParting","NoPlace"] []
 i_NoWeb:∃D,mg "NoWeb"=J (.ref D)/\om K mg (.ref D) ["NoParting","NoPlace"] []
 i_NoWord:∃D,mg "NoWord"=J (.ref D)/\om K mg (.ref D) ["NoParting","NoPlace"] []
 i_TooMany:∃D,mg "TooMany"=J (.ref D)/\om K mg (.ref D) ["NoParting","NoPlace"] []
 i_ValueError:om K mg (.type "ValueError") ["NoParting","NoPlace"] ["NoParting","NoPlace"]
def Se(K:h8):Prop:=∀(mg:AE)(base:Heap),K.In base->base.Ns mainGlobals mg->Cl K mg
def IZ{K:h8}{L:Addr}{M:Addr}{R:Addr}{a:Addr}{P:Addr}{f:Addr}{bj:Addr}{Q:Addr}{ay:Addr}{bi:Addr}{a0:Addr}{W:Addr}(ca:PySem.W.nsIn K mainGlobals "FillError"=J (J (.ref L)))(cc:PySem.W.nsIn K mainGlobals "NoNumber"=J (J (.ref M)))(da:PySem.W.nsIn K mainGlobals "NoOrder"=J (J (.ref R)))(b6:PySem.W.nsIn K mainGlobals "NoParting"=J (J (.ref a)))(cs:PySem.W.nsIn K mainGlobals "NoPivot"=J (J (.ref P)))(c2:PySem.W.nsIn K mainGlobals "NoPlace"=J (J (.ref f)))(d2:PySem.W.nsIn K mainGlobals "NoRow"=J (J (.ref bj)))(cn:PySem.W.nsIn K mainGlobals "NoSheet"=J (J (.ref Q)))(dx:PySem.W.nsIn K mainGlobals "NoText"=J (J (.ref ay)))(d5:PySem.W.nsIn K mainGlobals "NoWeb"=J (J (.ref bi)))(dF:PySem.W.nsIn K mainGlobals "NoWord"=J (J (.ref a0)))(c9:PySem.W.nsIn K mainGlobals "TooMany"=J (J (.ref W)))(b4:PySem.W.excIn K L CT "ValueError.__new__"=I)(bm:PySem.W.excIn K a CT "ValueError.__new__"=I)(b3:PySem.W.excIn K f CT "ValueError.__new__"=I)(z:PySem.W.findIn K (.ref a) "__getattribute__"=J (J (.builtin "BaseException.__getattribute__")))(y:PySem.W.findIn K (.ref a) "__class__"=J (J (.builtin "object.__class__")))(j:PySem.W.findIn K (.ref a) "__getattr__"=J Y)(l:PySem.W.mroIn K a (.type "object")=J I)(u:PySem.W.mroIn K a (.type "BaseException")=J I)(G:PySem.W.findIn K (.ref f) "__getattribute__"=J (J (.builtin "BaseException.__getattribute__")))(F:PySem.W.findIn K (.ref f) "__class__"=J (J (.builtin "object.__class__")))(C:PySem.W.findIn K (.ref f) "__getattr__"=J Y)(E:PySem.W.mroIn K f (.type "object")=J I)(H:PySem.W.mroIn K f (.type "BaseException")=J I)(S:PySem.W.mroIn K a (.ref L)=J I)(am:PySem.W.mroIn K f (.ref L)=J I)(cd:PySem.W.kitOne K (.type "NoneType") (.ref M)=J T)(Z:PySem.W.kitOne K (.ref a) (.ref M)=J T)(a3:PySem.W.kitOne K (.ref f) (.ref M)=J T)(db:PySem.W.kitOne K (.type "NoneType") (.ref R)=J T)(ab:PySem.W.kitOne K (.ref a) (.ref R)=J T)(a6:PySem.W.kitOne K (.ref f) (.ref R)=J T)(b5:PySem.W.kitOne K (.type "NoneType") (.ref a)=J T)(U:PySem.W.kitOne K (.ref a) (.ref a)=J I)(ax:PySem.W.kitOne K (.ref f) (.ref a)=J T)(c3:PySem.W.kitOne K (.type "NoneType") (.ref P)=J T)(as:PySem.W.kitOne K (.ref a) (.ref P)=J T)(a7:PySem.W.kitOne K (.ref f) (.ref P)=J T)(c7:PySem.W.kitOne K (.type "NoneType") (.ref f)=J T)(ap:PySem.W.kitOne K (.ref a) (.ref f)=J T)(a8:PySem.W.kitOne K (.ref f) (.ref f)=J I)(d0:PySem.W.kitOne K (.type "NoneType") (.ref bj)=J T)(be:PySem.W.kitOne K (.ref a) (.ref bj)=J T)(b2:PySem.W.kitOne K (.ref f) (.ref bj)=J T)(dd:PySem.W.kitOne K (.type "NoneType") (.ref Q)=J T)(an:PySem.W.kitOne K (.ref a) (.ref Q)=J T)(a5:PySem.W.kitOne K (.ref f) (.ref Q)=J T)(ds:PySem.W.kitOne K (.type "NoneType") (.ref ay)=J T)(a2:PySem.W.kitOne K (.ref a) (.ref ay)=J T)(b0:PySem.W.kitOne K (.ref f) (.ref ay)=J T)(d3:PySem.W.kitOne K (.type "NoneType") (.ref bi)=J T)(a4:PySem.W.kitOne K (.ref a) (.ref bi)=J T)(b1:PySem.W.kitOne K (.ref f) (.ref bi)=J T)(dV:PySem.W.kitOne K (.type "NoneType") (.ref a0)=J T)(a1:PySem.W.kitOne K (.ref a) (.ref a0)=J T)(bq:PySem.W.kitOne K (.ref f) (.ref a0)=J T)(cp:PySem.W.kitOne K (.type "NoneType") (.ref W)=J T)(al:PySem.W.kitOne K (.ref a) (.ref W)=J T)(a9:PySem.W.kitOne K (.ref f) (.ref W)=J T)(O:PySem.W.kitOne K (.ref a) (.type "ValueError")=J I)(X:PySem.W.kitOne K (.ref f) (.type "ValueError")=J I):Se K:=λmg base kin ns=>by
 have cb:=PySem.W.mg_of kin ns ca;have ch:=PySem.W.mg_of kin ns cc;have dc:=PySem.W.mg_of kin ns da;have i:=PySem.W.mg_of kin ns b6;have c4:=PySem.W.mg_of kin ns cs;have B:=PySem.W.mg_of kin ns c2;have ea:=PySem.W.mg_of kin ns d2;have c1:=PySem.W.mg_of kin ns cn;have dn:=PySem.W.mg_of kin ns dx;have d1:=PySem.W.mg_of kin ns d5;have dj:=PySem.W.mg_of kin ns dF;have c0:=PySem.W.mg_of kin ns c9;exact⟨⟨_,i,bm⟩,⟨_,B,b3⟩,⟨_,⟨cb,b4⟩,(aM ⟨_,⟨i,bm⟩,S⟩ (aM ⟨_,⟨B,b3⟩,am⟩ cu))⟩,⟨_,ch,cE (dr cd) (aM ⟨_,i,⟨z,y,j,l,u⟩,Z⟩ (aM ⟨_,B,⟨G,F,C,E,H⟩,a3⟩ cu))⟩,⟨_,dc,cE (dr db) (aM ⟨_,i,⟨z,y,j,l,u⟩,ab⟩ (aM ⟨_,B,⟨G,F,C,E,H⟩,a6⟩ cu))⟩,⟨_,i,cE (dr b5) (aM ⟨_,i,⟨z,y,j,l,u⟩,U⟩ (aM ⟨_,B,⟨G,F,C,E,H⟩,ax⟩ cu))⟩,⟨_,c4,cE (dr c3) (aM ⟨_,i,⟨z,y,j,l,u⟩,as⟩ (aM ⟨_,B,⟨G,F,C,E,H⟩,a7⟩ cu))⟩,⟨_,B,cE (dr c7) (aM ⟨_,i,⟨z,y,j,l,u⟩,ap⟩ (aM ⟨_,B,⟨G,F,C,E,H⟩,a8⟩ cu))⟩,⟨_,ea,cE (dr d0) (aM ⟨_,i,⟨z,y,j,l,u⟩,be⟩ (aM ⟨_,B,⟨G,F,C,E,H⟩,b2⟩ cu))⟩,⟨_,c1,cE (dr dd) (aM ⟨_,i,⟨z,y,j,l,u⟩,an⟩ (aM ⟨_,B,⟨G,F,C,E,H⟩,a5⟩ cu))⟩,⟨_,dn,cE (dr ds) (aM ⟨_,i,⟨z,y,j,l,u⟩,a2⟩ (aM ⟨_,B,⟨G,F,C,E,H⟩,b0⟩ cu))⟩,⟨_,d1,cE (dr d3) (aM ⟨_,i,⟨z,y,j,l,u⟩,a4⟩ (aM ⟨_,B,⟨G,F,C,E,H⟩,b1⟩ cu))⟩,⟨_,dj,cE (dr dV) (aM ⟨_,i,⟨z,y,j,l,u⟩,a1⟩ (aM ⟨_,B,⟨G,F,C,E,H⟩,bq⟩ cu))⟩,⟨_,c0,cE (dr cp) (aM ⟨_,i,⟨z,y,j,l,u⟩,al⟩ (aM ⟨_,B,⟨G,F,C,E,H⟩,a9⟩ cu))⟩,cE (K3 K) (aM ⟨_,i,⟨z,y,j,l,u⟩,O⟩ (aM ⟨_,B,⟨G,F,C,E,H⟩,X⟩ cu))⟩
local macro_rules | `(tactic| contradiction)=>do let q <-[`w_var,`LQ,`Qg,`LR,`LU,`L4,`HZ,`Mw,`Iu,`My,`EV,`Qh,`H_,`Qr,`QH,`Mz,`Qs,`Mh,`Mb,`LV,`LW,`LX,`HX,`DJ,`LY,`HY,`LZ,`L0,`L3,`Qi,`Qj,`Qk,`Ii,`Mm,`Mn,`Qt,`Ie,`w_tchain,`Ig,`Qw,`Ih,`w_and,`Mj,`w_or,`Mk,`Ml,`Qz,`Qx,`Qy,`QA,`Mp,`Mo,`QB,`jv,`gv,`Mq,`Ik,`QC,`Mr,`QD,`w_set,`Im,`Qu,`Mi,`yW,`yD,`Ai,`Ic,`Il,`w_pass,`Iv,`w_bad,`Mu,`DQ,`L5,`L6,`L7,`Ql,`Qm,`Qn,`Qo,`Qp,`L8,`Qq,`L9,`Mc,`Md,`L_,`Ma,`DK,`Me,`zW,`DR,`Mf,`Ia,`Ib].foldrM (λn t=>`(tactic| first | apply $(Lean.mkIdent n) | $t:tactic)) (<-`(tactic| fail));`(tactic| (first | assumption | (apply Ij;assumption;(intro env h;cases env;cases h;first | rfl | with_unfolding_all rfl)) | (apply Io;assumption;(intro env h;cases env;cases h;first | rfl | with_unfolding_all rfl)) | with_reducible $q:tactic | exact rfl | decide +kernel | refine λY c=>⟨?_,?_,?_⟩ | (intro _;rfl) | exact λ_ _=>rfl | exact Bw _ | omega | exact⟨⟨rfl,rfl⟩,rfl,rfl,rfl⟩ | with_unfolding_all rfl | intro Y c d) <;> contradiction)
abbrev gM:Stmt:=y6 14
abbrev gJ:Stmt:=y6 16
abbrev d4:Stmt:=y6 17
abbrev dP:Stmt:=y6 18
abbrev eY:Stmt:=y6 20
abbrev dQ:Stmt:=y6 24
abbrev dk:Stmt:=y6 26
abbrev ji:Stmt:=y6 27
abbrev gK:Stmt:=y6 28
abbrev jf:Stmt:=y6 29
abbrev gG:Stmt:=y6 30
abbrev kA:Stmt:=y6 32
abbrev uw:SQ:=["_law_script","_law_k","_law_cell"]
abbrev ul:SQ:=["min","len","abs"]
abbrev Ej:SQ:=["_law_script","_law_k"]
def Ek(AN:Sc X kA)(g:Gd X uw ul k)(j:ip X)(i:Nn X "abs")(a:Nn X "len")(f:Nn X "min"):Av X (aJ kA) yE :=
 (oI.h (v2 (Bc g 2 (vF (aQ dt (aQ fT aC (kV g 1)) aC)))
 (v2 (Aw (iD (DH Ev (kV g 1) (BI g 0 (rB g) f sE (aB (BI g 1 nB a mM (aB (kV g 0) aS)) (aB aC aS)))) (oI.h (A3 (Bc g 2 (vF (Bi (kV g 0) (kV g 1)))))) (oI.h (A3 (Aw (iD (DH Ew (BI g 1 nB a mM (aB (kV g 0) aS)) aC) (oI.h (A3 (Bc g 2 (vF (aQ dt (aQ dX (Bi (kV g 0) (aQ dX (kV g 1) (BI g 0 (rB g) f sE (aB (BI g 1 nB a mM (aB (kV g 0) aS)) (aB aC aS))))) (aQ rj aC aC)) (aQ fT aC (kV g 1))))))) fw))))))
 (v2 (Aw (iD (DH KG (BI g 2 ya i wL (aB (kV g 2) aS)) (aQ rj aC aC)) (oI.h (A3 (BW (Ll (fe (vF aC) (fe (vF (BI g 2 ya i wL (aB (kV g 2) aS))) (fe (vF aC) jT))))))) fw))
 (A3 (BW (Ll (fe (vF aC) (fe (vF (aQ dt (aQ dX (kV g 2) aC) (aQ fT aC (kV g 1)))) (fe (vF aC) jT))))))))))
abbrev jc:Stmt:=y6 33
abbrev sG:SQ:=["_law_pen_here","_law_size","_law_number","_law_drawn"]
abbrev sH:SQ:=[]
abbrev yR:SQ:=["_law_pen_here","_law_size"]
def zh(AN:Sc X jc)(g:Gd X sG sH k)(a:ip X):Av X (aJ jc) vt :=
 (oI.h (v2 (Aw (qB (aQ dt (Bi (kV g 0) aC) aC) (yj (kV g 0) aC)))
 (v2 (Aw (iD (DH (Eu g.room) (Bi (kV g 0) aC) aC) (oI.h (v2 (Bc g 3 (vF (aQ dX (Bi (kV g 0) aC) (kV g 1))))
 (v2 (Aw (qB (aQ Ex (Bi (kV g 0) aC) (kV g 1)) (yj (kV g 0) aC)))
 (A3 (BW (vF (kV g 3))))))) fw))
 (v2 (Bc g 2 (vF (aQ dX (aQ fT (aQ dt (aQ dt (Bi (kV g 0) aC) (aQ fT aC (Bi (kV g 0) aC))) aC) aC) aC)))
 (v2 (Bc g 2 (vF (aQ dX (aQ fT (kV g 2) (aQ dt (aQ dt (aQ dX (kV g 2) aC) (Bi (kV g 0) aC)) aC)) aC)))
 (A3 (BW (vF (aQ dX (aQ Ex (aQ dX (aQ fT (kV g 2) (aQ dt (aQ dX (kV g 2) aC) aC)) aC) aC) (kV g 1))))))))))
abbrev iE:Stmt:=y6 34
abbrev jd:Stmt:=y6 35
abbrev ir:Stmt:=y6 36
abbrev kK:Stmt:=y6 37
abbrev gL:Stmt:=y6 38
abbrev iq:Stmt:=y6 39
abbrev jB:Stmt:=y6 40
abbrev jD:Stmt:=y6 41
abbrev m6:Stmt:=y6 42
abbrev E2:SQ:=["_law_script","_law_turn","_law_pen_here","_law_web_here","_law_some","_law_due","_law_handed","_law_again","_law_k","_law_found","_law_told","_law_edges","_law_bent_here","_law_word_here"]
abbrev E3:SQ:=["range","_law_pen","_law_web","_law_order","_law_draw","_law_pieces","list","pieces","isinstance","repr","shores","_law_bent"]
abbrev BO:SQ:=["_law_script"]
def M3(AN:Sc X m6)(g:Gd X E2 E3 k)(Q:ip X)(u:Cal X "_law_word" ["_law_which","_law_web_here","_law_some"] dB.m k)(E:Cal X "_law_bent" ["_law_pen_here","_law_web_here","_law_some"] fC.m k)(B:Cal X "_law_shore" ["_law_web_here","_law_some","_law_piece"] dE.m k)(O:Cal X "shores" ["web","some"] cf.m k)(P:Cal X "pieces" ["web","some"] bh.m k)(F:Cal X "_law_pieces" ["_law_web_here","_law_some"] dM.m k)(H:Cal X "_law_order" ["_law_pen_here","_law_n"] cV.m k)(G:Cal X "_law_draw" ["_law_pen_here","_law_size"] de k)(z:Cal X "_law_web" ["_law_pen_here","_law_most"] gS.m k)(l:Cal X "_law_pen" ["_law_script","_law_k"] eP k)(a:Nn X "range")(f:Nn X "repr")(M:Nn X "isinstance")(L:Nn X "list"):Av X (aJ m6) BL :=
 (oI.h (v2 (Aw (nD g (NW g 0 a (aB aC aS)) (HL g 1) (oI.h (v2 (Bc g 2 (vF (BY g 1 l (aB (kV g 0) (aB (kV g 1) aS)))))
 (v2 (Bc g 3 (vF (BY g 2 z (aB (kV g 2) (aB aC aS)))))
 (v2 (Bc g 4 (vF (EG (BY g 3 H (aB (kV g 2) (aB (Bi (kV g 3) aC) aS))) uL (uu (BY g 4 G (aB (kV g 2) (aB (aQ dt (Bi (kV g 3) aC) aC) aS)))))))
 (v2 (Bc g 5 (vF (BY g 5 F (aB (kV g 3) (aB (kV g 4) aS)))))
 (v2 (Bc g 6 (vF (Sy g 6 C4 L og (aB (kV g 4) aS))))
 (v2 (Aw (nD g (NW g 0 a (aB aC aS)) (HL g 7) (oI.h (v2 (Bc g 9 (vF (BY g 7 P (aB (kV g 3) (aB (kV g 6) aS)))))
 (v2 (Aw (iD (MW.mt (qm (xp (yk (wW g (i:=8) (j:=6) rfl M rfl L og sI (kV g 9)))) (qm (DH (yg g.room) (BI g 9 (jq g) f kT (aB (kV g 9) aS)) (BI g 9 (jq g) f kT (aB (kV g 5) aS))) (qQ (DH (nG g.room) (kV g 6) (kV g 4)))))) (oI.h (A3 (BW (vF mW)))) fw))
 (v2 (Aw (gT (nr fR gf f9 (kV g 9) (aB (kx.h (Ll (fe (vF aC) jT))) aS))))
 (v2 (Aw (gT (nr fR gf f9 (Bi (kV g 9) aC) (aB aC aS))))
 (v2 (Bc g 10 (vF (BY g 10 O (aB (kV g 3) (aB (kV g 6) aS)))))
 (v2 (Aw (SA g AN 11 ["_law_piece"] ["_law_web_here","_law_some"] ["_law_shore"] [3,4] (yb (kV g 5)) λC y g=>⟨(HL g 0),nX,(BY g 0 (y.c B) (aB (kV g 1) (aB (kV g 2) (aB (kV g 0) aS))))⟩))
 (v2 (Aw (iD (MW.mt (qm (DH (yg g.room) (BI g 9 (jq g) f kT (aB (kV g 10) aS)) (BI g 9 (jq g) f kT (aB (kV g 11) aS))) (qQ (DH (nG g.room) (kV g 6) (kV g 4))))) (oI.h (A3 (BW (vF mW)))) fw))
 (v2 (Aw (gT (nr fR gf f9 (kV g 10) (aB (xG aS) aS))))
 (A3 (Aw (gT (nr fR gf f9 (Bi (kV g 10) aC) (aB aC aS))))))))))))))))
 (A3 (Aw (nD g (NW g 0 a (aB aC aS)) (HL g 8) (oI.h (v2 (Aw (qB (BY g 11 E (aB (kV g 2) (aB (kV g 3) (aB (kV g 4) aS)))) (wT g (lC (HL g 12) (lC (HL g 13) tY)))))
 (A3 (Aw (iD (DH (nG g.room) (Sz g AN ["_law_which"] ["_law_web_here","_law_bent_here"] ["_law_word"] [3,12] (NW g 0 a (aB aC aS)) λC y g=>⟨(HL g 0),nX,(BY g 0 (y.c u) (aB (kV g 0) (aB (kV g 1) (aB (kV g 2) aS))))⟩) (aQ fT (kx.h (Ll (fe (vF (kV g 13)) jT))) aC)) (oI.h (A3 (BW (vF mW)))) fw)))))))))))))))))
 (A3 (BW (vF mW)))))
def I_:iS "law" m6 BO:=λ_ _ _ _ _ _=>Qc λ_=>rfl
abbrev iY:SQ:=["thing"]
def wp{K:h8}(c:Wc X P w K mg base iY iY 0 (ah gM))(d:ip X)(i:Zn K "isinstance")(a:Zn K "bool")(f:Zn K "int"):oI X (aJ gM) dO.m:=by unfold dO;apply jv<;>contradiction
abbrev jC:SQ:=["n","thing"]
def vg{K:h8}(c:Wc X P w K mg base jC jC 1 (ah gJ))(d:ip X)(a:FnAt P w K mg base "is_whole" Ps0 dJ.m 1):oI X (aJ gJ) dI.m:=by unfold dI;apply jv<;>contradiction
abbrev gz:SQ:=["n","thing"]
def qg{K:h8}(c:Wc X P w K mg base gz gz 2 (ah d4))(d:ip X)(r_NoPlace:QG K mg "NoPlace")(a:FnAt P w K mg base "is_place" Ps1 dR.m 2):oI X (aJ d4) cF.m:=by unfold cF;apply jv<;>contradiction
abbrev fy:SQ:=["n","things","thing"]
def nZ{K:h8}(c:Wc X P w K mg base fy fy 3 (ah dP))(d:ip X)(a:FnAt P w K mg base "check_place" Ps2 bc.m 3):oI X (aJ dP) cv.m:=by unfold cv;apply jv<;>contradiction
abbrev g9:SQ:=["web","v","below","above"]
def sM{K:h8}(c:Wc X P w K mg base g9 g9 3 (ah eY))(d:ip X)(a:FnAt P w K mg base "check_place" Ps2 bc.m 3):oI X (aJ eY) dw.m:=by unfold dw;apply gv<;>contradiction
abbrev fo:SQ:=["web","places","a","b","ways","seen","way","place"]
def oO{K:h8}(c:Wc X P w K mg base fo fo 4 (ah dQ))(d:ip X)(a:FnAt P w K mg base "neighbours" Ps4 bC.m 4):oI X (aJ dQ) cN.m:=by unfold cN;apply gv<;>contradiction
abbrev eZ:SQ:=["web","some"]
def mH{K:h8}(c:Wc X P w K mg base eZ eZ 4 (ah dk))(d:ip X)(l:Zn K "len")(a:Zn K "set")(j:Zn K "isinstance")(i:Zn K "list")(r_NoParting:QG K mg "NoParting")(f:FnAt P w K mg base "check_places" Ps3 cr.m 4):oI X (aJ dk) bz.m:=by unfold bz;apply gv<;>contradiction
abbrev lE:SQ:=["web","some","found","left","piece"]
def zH{K:h8}(c:Wc X P w K mg base lE lE 5 (ah ji))(d:ip X)(a:Zn K "range")(f:FnAt P w K mg base "shortest_way" Ps5 ba.m 5)(i:FnAt P w K mg base "check_parting" Ps6 bx.m 5):oI X (aJ ji) fk.m:=by unfold fk;apply gv<;>contradiction
abbrev jo:SQ:=["web","some","piece"]
def ve{K:h8}(c:Wc X P w K mg base jo jo 4 (ah gK))(d:ip X)(a:Zn K "sorted")(i:Zn K "any")(f:FnAt P w K mg base "neighbours" Ps4 bC.m 4):oI X (aJ gK) eV.m:=by unfold eV;apply jv<;>contradiction
abbrev lP:SQ:=["web","some"]
def yC{K:h8}(c:Wc X P w K mg base lP lP 6 (ah jf))(d:ip X)(f:FnAt P w K mg base "pieces" Ps7 bh.m 6)(a:FnAt P w K mg base "shore_of" Ps8 bS.m 5):oI X (aJ jf) gZ.m:=by unfold gZ;apply jv<;>contradiction
abbrev jw:SQ:=["web","some","pairs","piece"]
def vS{K:h8}(c:Wc X P w K mg base jw jw 5 (ah gG))(d:ip X)(a:FnAt P w K mg base "check_parting" Ps6 bx.m 5):oI X (aJ gG) eW.m:=by unfold eW;apply gv<;>contradiction
abbrev j5:SQ:=["_law_pen_here","_law_n","_law_found","_law_k"]
def wI{K:h8}(c:Wc X P w K mg base j5 j5 1 (ah iE))(d:ip X)(f:Zn K "range")(a:FnAt P w K mg base "_law_draw" Ps12 de 1):oI X (aJ iE) fP.m:=by unfold fP;apply gv<;>contradiction
abbrev lW:SQ:=["_law_n","_law_pairs"]
def zf{K:h8}(c:Wc X P w K mg base lW lW 0 (ah jd))(d:ip X)(a:Zn K "sorted")(i:Zn K "set")(j:Zn K "max")(l:Zn K "min")(f:Zn K "tuple"):oI X (aJ jd) ie.m:=by unfold ie;apply jv<;>contradiction
abbrev kg:SQ:=["_law_ring"]
def xw{K:h8}(c:Wc X P w K mg base kg kg 0 (ah ir))(d:ip X)(a:Zn K "range")(f:Zn K "len"):oI X (aJ ir) fY.m:=by unfold fY;apply jv<;>contradiction
abbrev n8:SQ:=["_law_pen_here","_law_most","_law_n","_law_order_here","_law_way","_law_cut","_law_pairs","_law_a","_law_at","_law_size","_law_some"]
def El{K:h8}(c:Wc X P w K mg base n8 n8 2 (ah kK))(d:ip X)(j:Zn K "range")(u:Zn K "list")(a:FnAt P w K mg base "_law_made" Ps14 gU.m 1)(f:FnAt P w K mg base "_law_draw" Ps12 de 1)(i:FnAt P w K mg base "_law_round" Ps15 eQ.m 1)(l:FnAt P w K mg base "_law_order" Ps13 cV.m 2):oI X (aJ kK) iU.m:=by unfold iU;apply gv<;>contradiction
abbrev i8:SQ:=["_law_web_here","_law_some","_law_found","_law_a","_law_b","_law_one","_law_other"]
def wB{K:h8}(c:Wc X P w K mg base i8 i8 0 (ah gL))(d:ip X)(a:Zn K "sorted")(f:Zn K "range"):oI X (aJ gL) eX.m:=by unfold eX;apply gv<;>contradiction
abbrev jX:SQ:=["_law_web_here","_law_some","_law_piece","_law_found","_law_a","_law_b"]
def xq{K:h8}(c:Wc X P w K mg base jX jX 0 (ah iq))(d:ip X)(a:Zn K "sorted")(f:Zn K "set"):oI X (aJ iq) fX.m:=by unfold fX;apply gv<;>contradiction
abbrev lB:SQ:=["_law_which","_law_web_here","_law_some","_law_caught","e"]
def yF{K:h8}(c:Wc X P w K mg base lB lB 7 (ah jB))(d:ip X)(H:Zn K "isinstance")(F:Zn K "int")(E:Zn K "ValueError")(t_FillError:R6 K mg "FillError" ["NoParting","NoPlace"])(i_NoParting:N0 K mg "NoParting" ["NoParting","NoPlace"] ["NoParting"])(i_NoPlace:N0 K mg "NoPlace" ["NoParting","NoPlace"] ["NoPlace"])(i_ValueError:N0 K mg "ValueError" ["NoParting","NoPlace"] ["NoParting","NoPlace"])(a:BK K mg "NoNumber" ["NoParting","NoPlace"] [])(f:BK K mg "NoOrder" ["NoParting","NoPlace"] [])(j:BK K mg "NoPivot" ["NoParting","NoPlace"] [])(z:BK K mg "NoRow" ["NoParting","NoPlace"] [])(i:BK K mg "NoSheet" ["NoParting","NoPlace"] [])(u:BK K mg "NoText" ["NoParting","NoPlace"] [])(B:BK K mg "NoWeb" ["NoParting","NoPlace"] [])(y:BK K mg "NoWord" ["NoParting","NoPlace"] [])(l:BK K mg "TooMany" ["NoParting","NoPlace"] [])(L:FnAt P w K mg base "pieces" Ps7 bh.m 6)(G:FnAt P w K mg base "shores" Ps9 cf.m 7)(C:FnAt P w K mg base "may_come" Ps10 cX.m 6):oI X (aJ jB) ij.m:=by unfold ij;apply gv<;>contradiction
abbrev lK:SQ:=["_law_pen_here","_law_web_here","_law_some","_law_odd","_law_at","_law_lost","_law_twice","_law_way"]
def yG{K:h8}(c:Wc X P w K mg base lK lK 1 (ah jD))(d:ip X)(f:Zn K "tuple")(i:Zn K "len")(a:FnAt P w K mg base "_law_draw" Ps12 de 1):oI X (aJ jD) hZ.m:=by unfold hZ;apply gv<;>contradiction
def Ja{K:h8}(b:Ba P w K mg base)(D0:g_ K "is_whole" gM)(D1:g_ K "is_place" gJ)(D2:g_ K "check_place" d4)(D3:g_ K "check_places" dP)(D4:g_ K "neighbours" eY)(D5:g_ K "shortest_way" dQ)(D6:g_ K "check_parting" dk)(D7:g_ K "pieces" ji)(D8:g_ K "shore_of" gK)(D9:g_ K "shores" jf)(C:g_ K "may_come" gG)(ay:g_ K "_law_pen" kA)(E:g_ K "_law_draw" jc)(U:g_ K "_law_order" iE)(L:g_ K "_law_made" jd)(H:g_ K "_law_round" ir)(M:g_ K "_law_web" kK)(ap:g_ K "_law_pieces" gL)(an:g_ K "_law_shore" iq)(bi:g_ K "_law_word" jB)(Q:g_ K "_law_bent" jD)(bj:g_ K "law" m6)(z0:Zn K "ValueError")(z1:Zn K "abs")(z2:Zn K "any")(z3:Zn K "bool")(z4:Zn K "int")(z:Zn K "isinstance")(y:Zn K "len")(O:Zn K "list")(z8:Zn K "max")(z9:Zn K "min")(a:Zn K "range")(ax:Zn K "repr")(j:Zn K "set")(f:Zn K "sorted")(u:Zn K "tuple")(cl:Cl K mg):FnAt P w K mg base "law" BO A8 9:=by
 have a0:=Af (F:=dJ) iY b D0 λX c d=>wp c d z z3 z4;have a1:=Af (F:=dR) jC b D1 λX c d=>vg c d  a0;have a2:=Af (F:=bc) gz b D2 λX c d=>qg c d  ⟨cl.r_NoPlace⟩ a1;have a3:=Af (F:=cr) fy b D3 λX c d=>nZ c d  a2;have a4:=Af (F:=bC) g9 b D4 λX c d=>sM c d  a2;have a5:=Af (F:=ba) fo b D5 λX c d=>oO c d  a4;have a6:=Af (F:=bx) eZ b D6 λX c d=>mH c d y j z O ⟨cl.r_NoParting⟩ a3;have a7:=Af (F:=bh) lE b D7 λX c d=>zH c d a a5 a6;have a8:=Af (F:=bS) jo b D8 λX c d=>ve c d f z2 a4;have a9:=Af (F:=cf) lP b D9 λX c d=>yC c d  a7 a8;have as:=Af (F:=cX) jw b C λX c d=>vS c d  a6;have W:=Qd (k:=0) (N:=uw) (G:=ul) (ps:=Ej) b ay λX e h g d=>Ek h g d (e.n z1) (e.n y) (e.n z9);have i:=Qd (k:=0) (N:=sG) (G:=sH) (ps:=yR) b E λX e h g d=>zh h g d;have l:=Af (F:=cV) j5 b U λX c d=>wI c d a i;have B:=Af (F:=gU) lW b L λX c d=>zf c d f j z8 z9 u;have R:=Af (F:=eQ) kg b H λX c d=>xw c d a y;have be:=Af (F:=gS) n8 b M λX c d=>El c d a O B i R l;have al:=Af (F:=dM) i8 b ap λX c d=>wB c d f a;have S:=Af (F:=dE) jX b an λX c d=>xq c d f j;have am:=Af (F:=dB) lB b bi λX c d=>yF c d z z4 z0 ⟨cl.t_FillError⟩ (.e cl.i_NoParting) (.e cl.i_NoPlace) (.b _ z0 pX cl.i_ValueError) ⟨cl.i_NoNumber⟩ ⟨cl.i_NoOrder⟩ ⟨cl.i_NoPivot⟩ ⟨cl.i_NoRow⟩ ⟨cl.i_NoSheet⟩ ⟨cl.i_NoText⟩ ⟨cl.i_NoWeb⟩ ⟨cl.i_NoWord⟩ ⟨cl.i_TooMany⟩ a7 a9 as;have Z:=Af (F:=fC) lK b Q λX c d=>yG c d u y i;have ab:=Qd (k:=8) (N:=E2) (G:=E3) (ps:=BO) b bj λX e h g d=>M3 h g d (am.c e) (Z.c e) (S.c e) (a9.c e) (a7.c e) (al.c e) (l.c e) (i.c e) (be.c e) (W.c e) (e.n a) (e.n ax) (e.n z) (e.n O);exact ab
end Law
namespace PySem.W.Fast
def tw8619800347164092119:=0
def tw9081336268409199817:=0
def tw356331805579371666:=0
def tw1712985818863511713:=0
def tw10097600062550955243:=0
def tw9577142764761195236:=0
def tw18300604953625570814:=0
def tw13385056756100611953:=0
def tw16859779021344305259:=0
def tw12679643802897478789:=0
def tw9175220737858964793:=0
def tw4268394209684120941:=0
def tw1810828395748837235:=0
def tw16134181652731852735:=0
def tw11442536672010007567:=0
def tw3248534165084365133:=0
def tw11207246659037336218:=0
def tw15356724525726892810:=0
def tw6346040522003298582:=0
def tw14211663544100859735:=0
def tw7744392663446762717:=0
def tw18429643636944960038:=0
def tw17214350628001564481:=0
def tw18116245540345559587:=0
def tw3247225567771097920:=0
def tw15294280287464140090:=0
def tw13431733017092135892:=0
def tw15570216615694666279:=0
def tw14119572708863817238:=0
def tw12059239188203941860:=0
def tw5371443515322002865:=0
def tw2681553078556897041:=0
def tw14394498786760276162:=0
def tw14087056228405280065:=0
def tw8825818136700958965:=0
def tw18085516407296689287:=0
def tw3269521885758699549:=0
def tw8599327894655114656:=0
def tw14231237775358065503:=0
def tw14993561807581044941:=0
def tw8753063800294064468:=0
def tw14112329049591911638:=0
def tw8176874783164544800:=0
def tw5851167198752100885:=0
def tw15597601812063092866:=0
def tw11184593654502977627:=0
def tw14659683074695617390:=0
def tw11628344747841578171:=0
def tw13886683374396800013:=0
def tw17601154563082918964:=0
def tw8322554951482915372:=0
def tw14828050528499426254:=0
def tw1120259807312669900:=0
def tw13293524919844274976:=0
def tw15617434374354999814:=0
def tw13274542160269126624:=0
def tw10721601008557549082:=0
def tw2670321281738061469:=0
def tw1602163896803046742:=0
def tw1631482805837083045:=0
def tw8568036269417903244:=0
def tw12571523630962833917:=0
def tw7636974611390864250:=0
def tw2761047474420216156:=0
def tw15635035904573658557:=0
def tw2502507286512326885:=0
def tw11838297573395753886:=0
def tw5667234937446973850:=0
def tw14064040069039939062:=0
def tw17484870716774194130:=0
def tw4179462326016852640:=0
def tw7393461854639319365:=0
def tw12342089324093801860:=0
def tw8479038239593344340:=0
def tw6303329377270891610:=0
def tw6880178479445346172:=0
def tw5711160401792981965:=0
def tw17141918575618525524:=0
def tw4159834300993912359:=0
def tw6227589366828236885:=0
def tw1080928115843317899:=0
def tw15929006196920589598:=0
def tw1127635085778770643:=0
def tw6881562180601939478:=0
def tw13278722827211726426:=0
def tw15947695059043187088:=0
def tw16873574578915120932:=0
def tw9294778451543788515:=0
def tw16955570391129608980:=0
def tw5573835406603271619:=0
def tw17790684221486469626:=0
def tw318754642737327055:=0
def tw6474003198713724720:=0
def tw15942453638518464409:=0
def tw5541818315060826917:=0
def tw9607366455223626734:=0
def tw1646967172688122065:=0
def tw13815404158454304297:=0
def tw1860556900458948692:=0
def tw12929541873169685636:=0
def tw12478609215176427083:=0
def tw10540225609637175012:=0
def tw9536087329038505597:=0
def tw5938602922233537918:=0
def tw9403781460486996947:=0
def tw2216291229336840852:=0
def tw8014459441110923869:=0
def tw13348162973522148334:=0
def tw6626959978950031703:=0
def tw9307020645964779833:=0
def tw11394551314673755296:=0
def tw2097001778517849718:=0
def tw15459716109273596405:=0
def tw16832621043282594581:=0
def tw6610096277891098335:=0
def tw3605885138563066820:=0
def tw2486554152497037745:=0
def tw13515872851710370508:=0
def tw2703466589487039338:=0
def tw11419683105263818268:=0
def tw10775617705217122330:=0
def tw10961696100471693305:=0
def tw11765605630576272889:=0
def tw4757605070874813386:=0
def tw11425984268670411647:=0
def tw15627542686205568370:=0
def tw2417363215656886936:=0
def tw5711216588302984842:=0
def tw8139209646429171340:=0
def tw336805481256365440:=0
def tw1163539397460831133:=0
def tw10686000882608963592:=0
def tw8036435259750773842:=0
def tw14077472394839349422:=0
def tw8035319198236351581:=0
def tw15516167010094440057:=0
def tw13873889558415090906:=0
def tw438909615355683610:=0
def tw406208282981364564:=0
def tw6830773253809228963:=0
def tw7717736881497326837:=0
def tw15071529617011470818:=0
def tw7795525405563517236:=0
def tw771249535129148191:=0
def tw11447818150276381411:=0
def tw8124359527013730373:=0
def tw5751948818295675695:=0
def tw15922150308958412960:=0
def tw15485558902836849370:=0
def tw13576836379497329801:=0
def tw5596231055872163894:=0
def tw9420636740617630688:=0
def tw1257307632872329481:=0
def tw2238384247693637984:=0
def tw5249933080206427009:=0
def tw9798585561638029859:=0
def tw14141736831776476634:=0
def tw288879859333987946:=0
def tw18162712252959280652:=0
def tw5739889471274943257:=0
def tw8386728125614883847:=0
def tw8198267974553446035:=0
def tw4767847405680628374:=0
def tw2693632061243415293:=0
def tw15931079414911628449:=0
def tw1039181305604864927:=0
def tw6276873917113711243:=0
def tw17053465109706097142:=0
def tw9260607429124145038:=0
def tw18284300915369434087:=0
def tw4448456394540331083:=0
def tw1087009904067761889:=0
def tw8319289128281020245:=0
def tw12721356517509122708:=0
def tw17420507099627209361:=0
def tw12381608889419369012:=0
def tw13943276697028198676:=0
def tw17229853325215682264:=0
def tw4139604748909794858:=0
def tw8196605562816726070:=0
def tw15332694565396993045:=0
def tw16132683265035760793:=0
def tw11076163573311305911:=0
def tw5254371192305649949:=0
def tw3505644922388621830:=0
def tw4576010446835159757:=0
def tw4546117463436751782:=0
def tw2933450103959088301:=0
def tw5085133949331086751:=0
def tw5225681332343801477:=0
def tw1404388282868226482:=0
def tw679645946326227948:=0
def tw10272885107255157065:=0
end PySem.W.Fast
open PySem PySem.W PyProof.Rows
local macro_rules | `(tactic| and_intros) => `(tactic| (dsimp only [L2.p_]; first | k_is | (refine' MM.BE ?a ?l ?c ?k; (case a => k_is); (case l => k_is); (case c => k_is); (case k => k_is))))
set_option maxRecDepth 100000 in
set_option maxHeartbeats 0 in
theorem PySem.Challenge.cw_fewfills_k24_pieces_and_shores_holds : PySem.Challenge.rw_fewfills_k24_pieces_and_shores.Holds := by
  w_on; o_law; k_head; (case hw=>w_witness2)
  k_fill
  refine MM.Gs (l:=PySem.Challenge.rw_fewfills_k24_pieces_and_shores) (k:=9) (x:="_law_script") (F:=Law.A8) rfl rfl ⟨rfl,by decide,by decide,rfl⟩ (fun w h Y=>PySem.W.kIn_of Y) ?F Law.BN
  case F=>
    intro w mg fa h KX G hmg
    have Dlaw:MM.g_ (L2.p_ KX) "law" Law.m6:=by and_intros
    have D0:MM.g_ (L2.p_ KX) "is_whole" Law.gM:=by and_intros
    have D1:MM.g_ (L2.p_ KX) "is_place" Law.gJ:=by and_intros
    have D2:MM.g_ (L2.p_ KX) "check_place" Law.d4:=by and_intros
    have D3:MM.g_ (L2.p_ KX) "check_places" Law.dP:=by and_intros
    have D4:MM.g_ (L2.p_ KX) "neighbours" Law.eY:=by and_intros
    have D5:MM.g_ (L2.p_ KX) "shortest_way" Law.dQ:=by and_intros
    have D6:MM.g_ (L2.p_ KX) "check_parting" Law.dk:=by and_intros
    have D7:MM.g_ (L2.p_ KX) "pieces" Law.ji:=by and_intros
    have D8:MM.g_ (L2.p_ KX) "shore_of" Law.gK:=by and_intros
    have D9:MM.g_ (L2.p_ KX) "shores" Law.jf:=by and_intros
    have D10:MM.g_ (L2.p_ KX) "may_come" Law.gG:=by and_intros
    have D11:MM.g_ (L2.p_ KX) "_law_pen" Law.kA:=by and_intros
    have D12:MM.g_ (L2.p_ KX) "_law_draw" Law.jc:=by and_intros
    have D13:MM.g_ (L2.p_ KX) "_law_order" Law.iE:=by and_intros
    have D14:MM.g_ (L2.p_ KX) "_law_made" Law.jd:=by and_intros
    have D15:MM.g_ (L2.p_ KX) "_law_round" Law.ir:=by and_intros
    have D16:MM.g_ (L2.p_ KX) "_law_web" Law.kK:=by and_intros
    have D17:MM.g_ (L2.p_ KX) "_law_pieces" Law.gL:=by and_intros
    have D18:MM.g_ (L2.p_ KX) "_law_shore" Law.iq:=by and_intros
    have D19:MM.g_ (L2.p_ KX) "_law_word" Law.jB:=by and_intros
    have D20:MM.g_ (L2.p_ KX) "_law_bent" Law.jD:=by and_intros
    have ZValueError:PySem.W.nsIn (L2.p_ KX) mainGlobals "ValueError" = some none:=by and_intros
    have Z21:PySem.W.nsIn (L2.p_ KX) mainGlobals "abs" = some none:=by and_intros
    have Z22:PySem.W.nsIn (L2.p_ KX) mainGlobals "any" = some none:=by and_intros
    have Z23:PySem.W.nsIn (L2.p_ KX) mainGlobals "bool" = some none:=by and_intros
    have Z24:PySem.W.nsIn (L2.p_ KX) mainGlobals "int" = some none:=by and_intros
    have Z25:PySem.W.nsIn (L2.p_ KX) mainGlobals "isinstance" = some none:=by and_intros
    have Z26:PySem.W.nsIn (L2.p_ KX) mainGlobals "len" = some none:=by and_intros
    have Z27:PySem.W.nsIn (L2.p_ KX) mainGlobals "list" = some none:=by and_intros
    have Z28:PySem.W.nsIn (L2.p_ KX) mainGlobals "max" = some none:=by and_intros
    have Z29:PySem.W.nsIn (L2.p_ KX) mainGlobals "min" = some none:=by and_intros
    have Z30:PySem.W.nsIn (L2.p_ KX) mainGlobals "range" = some none:=by and_intros
    have Z31:PySem.W.nsIn (L2.p_ KX) mainGlobals "repr" = some none:=by and_intros
    have Z32:PySem.W.nsIn (L2.p_ KX) mainGlobals "set" = some none:=by and_intros
    have Z33:PySem.W.nsIn (L2.p_ KX) mainGlobals "sorted" = some none:=by and_intros
    have Z34:PySem.W.nsIn (L2.p_ KX) mainGlobals "tuple" = some none:=by and_intros
    have CL:Law.Se (L2.p_ KX):=by
      dsimp only [L2.p_]
      refine' Law.IZ ?p0 ?p1 ?p2 ?p3 ?p4 ?p5 ?p6 ?p7 ?p8 ?p9 ?p10 ?p11 ?p12 ?p13 ?p14 ?p15 ?p16 ?p17 ?p18 ?p19 ?p20 ?p21 ?p22 ?p23 ?p24 ?p25 ?p26 ?p27 ?p28 ?p29 ?p30 ?p31 ?p32 ?p33 ?p34 ?p35 ?p36 ?p37 ?p38 ?p39 ?p40 ?p41 ?p42 ?p43 ?p44 ?p45 ?p46 ?p47 ?p48 ?p49 ?p50 ?p51 ?p52 ?p53 ?p54 ?p55 ?p56 ?p57 ?p58 ?p59 ?p60 ?p61
      (case p0=>k_is)
      (case p1=>k_is)
      (case p2=>k_is)
      (case p3=>k_is)
      (case p4=>k_is)
      (case p5=>k_is)
      (case p6=>k_is)
      (case p7=>k_is)
      (case p8=>k_is)
      (case p9=>k_is)
      (case p10=>k_is)
      (case p11=>k_is)
      (case p12=>k_exc)
      (case p13=>k_exc)
      (case p14=>k_exc)
      (case p15=>k_is)
      (case p16=>k_is)
      (case p17=>k_is)
      (case p18=>k_is)
      (case p19=>k_is)
      (case p20=>k_is)
      (case p21=>k_is)
      (case p22=>k_is)
      (case p23=>k_is)
      (case p24=>k_is)
      (case p25=>k_is)
      (case p26=>k_is)
      (case p27=>kit_is)
      (case p28=>kit_is)
      (case p29=>kit_is)
      (case p30=>kit_is)
      (case p31=>kit_is)
      (case p32=>kit_is)
      (case p33=>kit_is)
      (case p34=>kit_is)
      (case p35=>kit_is)
      (case p36=>kit_is)
      (case p37=>kit_is)
      (case p38=>kit_is)
      (case p39=>kit_is)
      (case p40=>kit_is)
      (case p41=>kit_is)
      (case p42=>kit_is)
      (case p43=>kit_is)
      (case p44=>kit_is)
      (case p45=>kit_is)
      (case p46=>kit_is)
      (case p47=>kit_is)
      (case p48=>kit_is)
      (case p49=>kit_is)
      (case p50=>kit_is)
      (case p51=>kit_is)
      (case p52=>kit_is)
      (case p53=>kit_is)
      (case p54=>kit_is)
      (case p55=>kit_is)
      (case p56=>kit_is)
      (case p57=>kit_is)
      (case p58=>kit_is)
      (case p59=>kit_is)
      (case p60=>kit_is)
      (case p61=>kit_is)
    exact MM.Gr Dlaw Law.I_ hmg KX G fun base kb nb=>Law.Ja ⟨kb,nb⟩ D0 D1 D2 D3 D4 D5 D6 D7 D8 D9 D10 D11 D12 D13 D14 D15 D16 D17 D18 D19 D20 Dlaw ZValueError Z21 Z22 Z23 Z24 Z25 Z26 Z27 Z28 Z29 Z30 Z31 Z32 Z33 Z34  (CL _ _ kb nb)
