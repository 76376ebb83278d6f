import PyProof.Rows.All
import Wide.All
import OpenK.AllK
import Wide.FinOn
import Lean
import PyProof.EqAt
import PyProof.EqKinds
import PyProof.TupleCall
import PyProof.ReprRoads
import PyProof.FitsInt
import PyProof.FitsBits
import PyProof.Rows.IntMath
import PyProof.ConsumeWalk
import PyProof.WalkInts
import PyProof.ListRange
import PySem.SetTable
import PyProof.SetKind
import PyProof.TupleKey
import PyProof.DictKinds
import PyProof.IsRules
import PyProof.Rows.SetFrom
import PyProof.CollectIter
import PyProof.ForAny
import PyProof.Rows.SortRuns
import PyProof.Rows.SortKey
import KE.KSortTup
import PyProof.ZipIter
import PyProof.Draws
import PyProof.EnumMake
import PyProof.TupleIter
import PyProof.P3Eq
import PyProof.StrCalls2
import PyProof.StrCalls3
import PyProof.FString
import PyProof.AttrMissHeap
import PyProof.DictUpdate
import PyProof.DictRoads
import KE.KDictOf
import PyProof.Walks
import PyProof.SetRoads
import PyProof.Rows.SeqMore
import KE.KDictList
import PyProof.DictItems
import KE.KPairComp
import PyProof.MeetsSeq
import PyProof.Rows.Chain
import PyProof.ListMulRoad
import PyProof.FactsAll.tuple_2
import OpenK.KCls
import PyProof.InstStoreFacts
import KE.KRevIter
import PySem.Challenge.RW_fewfills_k33_answers_of_works
set_option Elab.async false
set_option bootstrap.genMatcherCode false
set_option compiler.extract_closed false
set_option genSizeOf false
set_option linter.all false
set_option maxRecDepth 100000
noncomputable section
local macro_rules|`(command|def $i:declId $s:optDeclSig $v:declVal)=>`(command|noncomputable def $i:declId $s:optDeclSig $v:declVal)
local macro_rules|`(command|abbrev $i:declId $s:optDeclSig $v:declVal)=>`(command|noncomputable abbrev $i:declId $s:optDeclSig $v:declVal)
open PySem
abbrev _root_.QM:=List Str
abbrev _root_.QN:=List Int
abbrev _root_.QP:=List Nat
abbrev _root_.QR:=List Addr
abbrev _root_.QS:=List Value
abbrev _root_.QT:=List (Addr×Obj)
abbrev _root_.QU:=Option Value
abbrev _root_.QV:=Option Int
abbrev _root_.QW:=List Expr
abbrev _root_.QZ:=Value->Shared->Prop
abbrev _root_.QA:=Str->Option Value
abbrev _root_.QC:=List Stmt
abbrev _root_.QD:=Option Addr
abbrev hH:=@PySem.W.Frag
abbrev n3:=@Heap.get?_push_of_some
abbrev g_:=@wpAny_bind
abbrev qi:=@List.getElem?_eq_some_iff
abbrev q7:=@List.getElem?_append_left
abbrev p5:=@List.mem_cons_of_mem
abbrev p6:=@List.getElem?_set_ne
abbrev e_:=@if_pos
abbrev vE:=@List.getElem?_eq_getElem
abbrev sw:=@Nat.lt_of_lt_of_le
abbrev mu:=@Nat.le_refl
abbrev vn:=@List.mem_append_right
abbrev n_:=@List.map_cons
abbrev p_:=@List.mem_cons
abbrev pj:=@Heap.lt_size
abbrev u_:=@List.getElem?_map
abbrev zO:=@List.getElem?_set_self
abbrev vI:=@Bool.false_eq_true
abbrev hI:=@if_neg
abbrev wr:=@Heap.get?_push_size
abbrev qs:=@Nat.le_trans
abbrev oh:=@wpAny_pure
abbrev AA:=@List.getElem?_append_right
abbrev Ab:=@List.mem_of_getElem?
abbrev yH:=@List.set_cons_zero
abbrev As:=@Option.map_eq_some_iff
abbrev vL:=@List.nodup_cons
abbrev yU:=@List.size_toArray
abbrev tf:=@List.mem_map
abbrev Ae:=@List.set_cons_succ
abbrev v4:=@List.length_map
abbrev AN:=@List.getElem?_eq_none
abbrev vR:=@Nat.ne_of_lt
abbrev Av:=@Bool.and_eq_true
abbrev Aw:=@List.length_cons
abbrev y6:=@List.map_map
abbrev A2:=@List.map_congr_left
abbrev AO:=@List.mem_filter
abbrev A_:=@List.length_range
abbrev AD:=@Nat.lt_irrefl
abbrev AB:=@Nat.ne_of_gt
abbrev Ep:=@List.getElem?_replicate
abbrev Br:=@Int.toNat_natCast
abbrev Er:=@List.getElem?_cons_zero
abbrev Hc:=@List.drop_eq_getElem_cons
abbrev A3:=@Heap.size_push
abbrev Bb:=@List.mem_range
abbrev Es:=@Nat.pow_le_pow_right
abbrev BC:=@List.lookup_cons
abbrev Dv:=@List.ext_getElem?
abbrev Bc:=@Bool.not_true
abbrev Et:=@List.mem_cons_self
abbrev Dw:=@List.not_mem_nil
abbrev Hd:=@List.mem_append_left
abbrev HL:=@Option.bind_eq_some_iff
abbrev BD:=@Int.natAbs_mul
abbrev Dx:=@List.mem_append
abbrev He:=@List.replicate_succ
abbrev Dy:=@Nat.mul_ne_zero
abbrev KN:=@Int.fmod_eq_emod_of_nonneg
abbrev KO:=@List.getD_eq_getElem?_getD
abbrev Eu:=@List.length_take
abbrev Ev:=@Option.getD_some
abbrev Hf:=@List.length_append
abbrev HM:=@List.length_replicate
abbrev HN:=@List.length_filter_le
abbrev HP:=@List.mem_of_mem_drop
abbrev Ew:=@Option.map_some
abbrev Hg:=@List.getElem?_inj
abbrev HQ:=@Heap.get?_update_ne
abbrev KP:=@List.filter_cons_of_pos
abbrev KQ:=@List.filter_cons_of_neg
abbrev HR:=@List.getElem_of_mem
abbrev HS:=@List.getElem?_range
abbrev Hh:=@Option.bind_some
abbrev HU:=@List.mem_singleton
abbrev HV:=@Int.emod_lt_of_pos
abbrev Hi:=@List.append_nil
abbrev KR:=@Heap.get?_update_self
abbrev Hj:=@Int.natCast_mul
abbrev Hk:=@Int.mul_ne_zero
abbrev KS:=@Heap.get?_none_of_le
abbrev KU:=@List.getElem?_zipIdx
abbrev KW:=@List.filter_eq_self
abbrev Ex:=@Nat.zero_add
abbrev HW:=@Int.emod_nonneg
abbrev KY:=@Nat.lt_of_le_of_lt
abbrev LQ:=@List.getElem?_cons_succ
abbrev LR:=@Heap.get?_update_other
abbrev KZ:=@List.append_assoc
abbrev Ey:=@Nat.le_succ
abbrev Hl:=@Nat.le_of_lt
abbrev Hm:=@List.map_nil
abbrev LS:=@List.mem_iff_getElem?
abbrev K0:=@List.length_drop
abbrev K1:=@List.nodup_range
abbrev LU:=@List.getElem?_of_mem
abbrev LV:=@List.mem_of_mem_take
abbrev LW:=@List.filterMap_cons
abbrev K2:=@List.of_mem_zip
abbrev K3:=@List.length_set
abbrev Hn:=@Nat.zero_le
abbrev K4:=@List.find?_cons
abbrev LX:=@List.length_reverse
abbrev LY:=@List.mem_filterMap
abbrev LZ:=@Bool.false_ne_true
abbrev HX:=@Nat.add_comm
abbrev OD:=@List.getElem?_zip_eq_some
abbrev L0:=@List.nodup_append
abbrev L4:=@Nat.lt_succ_of_lt
abbrev OE:=@Nat.gcd_pos_of_pos_right
abbrev L5:=@List.drop_sublist
abbrev L6:=@List.filter_congr
abbrev L7:=@List.getElem_drop
abbrev OF:=@Int.eq_ofNat_of_zero_le
abbrev L8:=@Nat.lt_succ_self
abbrev L9:=@List.cons_append
abbrev L_:=@Nat.mul_lt_mul''
abbrev OG:=@List.range_succ_eq_map
abbrev OH:=@List.take_of_length_le
abbrev OI:=@List.pairwise_lt_range
abbrev OK:=@List.drop_of_length_le
abbrev K5:=@Nat.lt_trans
abbrev OL:=@List.getElem?_reverse
abbrev Ma:=@List.map_append
abbrev K6:=@Nat.pow_add
noncomputable section
local macro_rules | `(tactic| ext) => `(tactic| omega)
local instance (priority:=1) cdec (p:Prop):Decidable p:=Classical.propDecidable p
local macro_rules | `(⋯) => `(by lia)
open Option renaming some->J,none->Y
open Bool renaming true->I,false->T
namespace L2
open PySem.Spec PyProof.Rows
abbrev rg:=Sum Int Str
def qB:rg->Value->Bool
 |.inl k,v=>Value.isInt k v
 |.inr x,v=>Value.isStrOf x v
def Mb(w:World):rg->Int
 |.inl k=>hashInt k
 |.inr x=>hashStr w x
def bR:∀{k:rg}{v:Value},qB k v=I->(∃i t,k=Sum.inl i/\v=Value.int i t)\/(∃x t,k=Sum.inr x/\v=Value.str x t)
 |.inl i,v,h=>by
  obtain⟨t,e⟩:=Value.isInt_shape h;exact .inl ⟨i,t,rfl,e⟩
 |.inr x,v,h=>by
  obtain⟨t,e⟩:=Value.isStrOf_shape h;exact .inr ⟨x,t,rfl,e⟩
def yb(i:Int)(t:Tok):qB (.inl i) (.int i t)=I:=by simp[qB,Value.isInt]
def Ez(a b:Int):decide ((Sum.inl a:rg)=Sum.inl b)=(a==b):=by
 by_cases e:a=b
 .subst e;simp
 .have h:¬(Sum.inl a:rg)=Sum.inl b:=λq=>e (Sum.inl.inj q);rw[decide_eq_false h];exact(beq_eq_false_iff_ne.mpr e).symm
def EA(a b:Str):decide ((Sum.inr a:rg)=Sum.inr b)=decide (a=b):=by simp
def EB(a:Int)(b:Str):decide ((Sum.inl a:rg)=Sum.inr b)=T:=decide_eq_false (λq=>nomatch q)
def EC(a:Str)(b:Int):decide ((Sum.inr a:rg)=Sum.inl b)=T:=decide_eq_false (λq=>nomatch q)
def eY(prog:Program)(w:World):PySem.KeyKind prog w rg where
 is:=qB
 hash:=Mb w
 inj:=λv a b z f=>by
  rcases bR z with⟨i,t,rfl,rfl⟩|⟨x,t,rfl,rfl⟩
  .rcases bR f with⟨j,u,rfl,e⟩|⟨y,u,rfl,e⟩
   .injection e with e1 _;rw[e1]
   .exact nomatch e
  .rcases bR f with⟨j,u,rfl,e⟩|⟨y,u,rfl,e⟩
   .exact nomatch e
   .injection e with e1 _;rw[e1]
 byValue:=λk v h=>by
  rcases bR h with⟨i,t,rfl,rfl⟩|⟨x,t,rfl,rfl⟩<;>rfl
 pyHash:=λhv h=>by
  rcases bR hv with⟨i,t,rfl,rfl⟩|⟨x,t,rfl,rfl⟩
  .exact wpAny_pyHash_int h
  .exact wpAny_pyHash_str h
 eqBool:=λl hv h=>by
  rcases bR l with⟨i,t,rfl,rfl⟩|⟨x,t,rfl,rfl⟩
  .rcases bR hv with⟨j,u,rfl,rfl⟩|⟨y,u,rfl,rfl⟩
   .rw[Ez]at h;exact wpAny_eqBool_int h
   .rw[EB]at h;exact SeqAt.EqAt.int_str i t y u _ _ _ _ h
  .rcases bR hv with⟨j,u,rfl,rfl⟩|⟨y,u,rfl,rfl⟩
   .rw[EC]at h;exact SeqAt.EqAt.str_int x t j u _ _ _ _ h
   .rw[EA]at h;exact wpAny_eqBool_str h
 «strs»:=λk x t v h=>by
  rcases bR h with⟨i,u,rfl,e⟩|⟨y,u,rfl,e⟩
  .exact nomatch e
  .injection e with e1 _
   subst e1;cases v<;>rfl
def eA(prog:Program)(w:World)(i:Int)(t:Tok):(eY prog w).is (.inl i) (.int i t)=I:=yb i t
inductive V where
 |non | bl (b:Bool) | int (i:Int) | str (x:Str) | byt (b:Array UInt8) | flt (b:UInt64) | ref (a:Addr) | ty (n:String)
 deriving DecidableEq
def aO:V->Value->Prop
 |.non,u=>u=Value.none
 |.bl b,u=>u=Value.bool b
 |.int i,u=>∃t,u=Value.int i t
 |.str x,u=>∃t,u=Value.str x t
 |.byt b,u=>∃t,u=Value.bytes b t
 |.flt b,u=>∃t,u=Value.float b t
 |.ref a,u=>u=Value.ref a
 |.ty n,u=>u=Value.type n
abbrev aK:List V->QS->Prop:=Paired aO
def aK.length(r:aK xs us):xs.length=us.length:=Paired.length r
def aK.get{xs:List V}{a:QS}{i:Nat}{x:V}(r:aK xs a)(e:xs[i]?=J x):∃u,a[i]?=J u/\aO x u:=by
 induction r generalizing i with
 |nil=>cases e
 |cons r t f =>
  cases i with
  |zero=>cases e;exact⟨_,rfl,r⟩
  |succ i=>have z:=@f i e;exact z
def aK.set(r:aO x u)(i:Nat)(q:aK xs us):aK (xs.set i x) (us.set i u):=by
 induction q generalizing i with
 |nil=>exact .nil
 |cons a t f =>
  cases i with
  |zero=>exact .cons r t
  |succ i=>exact .cons a (f i)
def aK.append(r:aK xs us)(s:aK ys ws):aK (xs++ys) (us++ws):=by
 induction r with
 |nil=>exact s
 |cons r t a=>exact .cons r a
def aK.take(n:Nat)(r:aK xs us):aK (xs.take n) (us.take n):=by
 induction r generalizing n with
 |nil=>cases n<;>exact .nil
 |cons a t f =>
  cases n with
  |zero=>exact .nil
  |succ n=>exact .cons a (f n)
def aK.drop(n:Nat)(r:aK xs us):aK (xs.drop n) (us.drop n):=by
 induction r generalizing n with
 |nil=>cases n<;>exact .nil
 |cons a t f =>
  cases n with
  |zero=>exact .cons a t
  |succ n=>exact f n
def gE:Option V->QU->Prop
 |some v,J u=>aO v u
 |none,Y=>True
 |_,_=>False
def KV{κ:Type}:List (κ×V)->List (κ×Value)->Prop:=Paired λ(p:κ×V)(q:κ×Value)=>p.1=q.1/\aO p.2 q.2
def kV:rg->V
 |.inl i=>.int i
 |.inr x=>.str x
inductive HO where
 |lst(xs:List V)
 |tup(xs:List V)
 |dK(kvs:List (rg×V)) | dT (kvs:List (List rg×V))
 |set(S:Int->Bool)(n:Nat)
 |ins(C dx:Addr)(fs:List (Str×V))
 |own(x:Addr)
 |xd(fs:List (Str×V))
 |met(f x:Addr)
 |rng(lo hi:Int)
 |frz(o:Obj)(u:HO)
 |tbl(ps:Array Value)
 |ext(φ:Heap->Prop)
abbrev Hp:=Addr->Option HO
def l_(H:Hp)(a:Addr)(o:HO):Hp:=λb=>if b=a then J o else H b
def aR:l_ H a o a=J o:=by unfold l_;rw[e_ rfl]
def aI(h:b≠a):l_ H a o b=H b:=by unfold l_;rw[hI h]
def bC{H:Hp}{a b:Addr}{o:HO}(h:H a=J o)(f:H b=Y):a≠b:=by intro e;subst e;rw[h]at f;cases f
def iw(h:Heap)(a:Addr)(f:Array Value):Prop:=∃o,h.get? a=J o/\o.cls=.type "tuple"/\(∃n,o.data=.seq f n)/\o.dict=Y
def iw.tup(t:iw h a its):IsTup h a its:=let⟨o,e,c,d,_⟩:=t;⟨o,e,c,d⟩
def iw.lt(t:iw h a its):a<h.objs.size:=t.tup.lt
def iw.new(h:Heap)(a:Array Value):iw (h.push { cls:=.type "tuple",data:=.seq a}) h.objs.size a:=⟨_,wr h rfl,rfl,⟨_,rfl⟩,rfl⟩
section
variable(P:Program)(w:World)
def ObjOk(H:Hp)(h:Heap)(a:Addr):HO->Prop
 |.lst xs=>xs.length<=sizeLine/\∃(i:QS) (n:Nat),aK xs i/\h.get? a=J { cls:=.type "list",data:=.seq i.toArray n}
 |.tup xs=>xs.length<=sizeLine/\∃i:QS,aK xs i/\iw h a i.toArray
 |.dK j=>j.length<=sizeLine/\(a==sysModules)=T/\∃F,KV j F/\h.DictOf (eY P w) a F
 |.dT j=>j.length<=sizeLine/\(a==sysModules)=T/\∃xs:List (List rg×Addr×Value),
   Paired (λ(p:List rg×V)(q:List rg×Addr×Value)=>p.1=q.1/\H q.2.1=J (.tup (p.1.map kV))/\aO p.2 q.2.2) j xs /\
   ∃o z G,h.get? a=J o/\o.ExactDict/\o.data=.dict z G/\z.toList=xs.map (entryOfKey (tupleKind (eY P w)))/\(xs.map (·.1)).Nodup
 |.set S n=>h.SetOf (intKind P w) a S n
 |.ins C y fs=>H y=J (.own a)/\fs.length<=1000/\y≠a/\h.get? a=J (PySem.W.instObj C y) /\
   ∃l,h.Ns1 y l/\(∀f,gE (fs.lookup f) (l f))/\PySem.Within l (fs.map (·.1))
 |.own _=>∃o,h.get? a=J o
 |.xd fs=>∃l,h.Ns1 a l/\∀f,gE (fs.lookup f) (l f)
 |.rng lo L=>∃t u v,h.get? a=J { cls:=.type "range",data:=.fields #[.int lo t,.int L u,.int 1 v]}
 |.frz o u=>h.get? a=J o/\ObjOk H h a u
 |.tbl M=>h.get? a=J { cls:=.none,data:=.fields M}
 |.met f x=>h.get? a=J (PySem.W.methodObj (.ref f) (.ref x))
 |.ext φ=>φ h/\(∃o,h.get? a=J o)/\∀E B:Heap,φ E->(∀o,E.get? a=J o->B.get? a=J o)->φ B
def HOk(H:Hp)(h:Heap):Prop:=∀a o,H a=J o->ObjOk P w H h a o
end
section
variable{P:Program}{w:World}{H H':Hp}{h h':Heap}{a:Addr}{o:HO}
def ObjOk.lt(x:ObjOk P w H h a o):a<h.objs.size:=by
 cases o with
 |lst xs=>obtain⟨_,_,_,_,e⟩:=x;exact pj e
 |tup xs=>obtain⟨_,_,_,p⟩:=x;exact p.lt
 |dK i=>obtain⟨_,_,_,_,o,_,_,e,_⟩:=x;exact pj e
 |dT i=>obtain⟨_,_,_,_,o,_,_,e,_⟩:=x;exact pj e
 |set S n=>obtain⟨o,_,_,_,e,_⟩:=x;exact pj e
 |ins C l fs=>obtain⟨_,_,_,e,_⟩:=x;exact pj e
 |own y=>obtain⟨_,e⟩:=x;exact pj e
 |xd fs=>obtain⟨_,⟨_,_,_,e,_⟩,_⟩:=x;exact pj e
 |rng lo z=>obtain⟨_,_,_,e⟩:=x;exact pj e
 |frz j u=>obtain⟨e,_⟩:=x;exact pj e
 |tbl B=>exact pj (x)
 |met f y=>exact pj (x)
 |ext φ=>obtain⟨_,⟨_,e⟩,_⟩:=x;exact pj e
def Paired.mapP{α β:Type}{F G:α->β->Prop}{j:List α}{i:List β}(r:Paired F j i)(f:∀a b,F a b->G a b):Paired G j i:=by
 induction r with
 |nil=>exact .nil
 |cons r t l=>exact .cons (f _ _ r) l
def ObjOk.stay(x:ObjOk P w H h a o)(k:∀b u,(b=a\/H b=J (.own a))->h.get? b=J u->h'.get? b=J u)(L:∀b,H b=J (.own a)->H' b=J (.own a))(Q:∀b xs,H b=J (.tup xs)->H' b=J (.tup xs)):ObjOk P w H' h' a o:=by
 induction o with
 |lst xs=>obtain⟨z,B,n,r,e⟩:=x;exact⟨z,B,n,r,k _ _ (.inl rfl) e⟩
 |tup xs=>obtain⟨z,B,r,i,e,c⟩:=x;exact⟨z,B,r,i,k _ _ (.inl rfl) e,c⟩
 |dK G=>obtain⟨z,y,O,r,i,j,l,e,c⟩:=x;exact⟨z,y,O,r,i,j,l,k _ _ (.inl rfl) e,c⟩
 |dT G =>
  obtain⟨z,y,xs,r,i,j,l,e,c⟩:=x;exact⟨z,y,xs,Paired.mapP r λp q z=>⟨z.1,Q _ _ z.2.1,z.2.2⟩,i,j,l,k _ _ (.inl rfl) e,c⟩
 |set S n=>obtain⟨i,j,l,t,e,c⟩:=x;exact⟨i,j,l,t,k _ _ (.inl rfl) e,c⟩
 |ins C R fs =>
  obtain⟨d,z,ne,e,F,⟨E,j,l,e2,c⟩,r⟩:=x;exact⟨L _ d,z,ne,k _ _ (.inl rfl) e,F,⟨E,j,l,k _ _ (.inr d) e2,c⟩,r⟩
 |own y=>obtain⟨i,e⟩:=x;exact⟨i,k _ _ (.inl rfl) e⟩
 |xd fs=>obtain⟨F,⟨E,j,l,e,c⟩,r⟩:=x;exact⟨F,⟨E,j,l,k _ _ (.inl rfl) e,c⟩,r⟩
 |rng lo U=>obtain⟨t,u,v,e⟩:=x;exact⟨t,u,v,k _ _ (.inl rfl) e⟩
 |frz i u M=>obtain⟨e,q⟩:=x;exact⟨k _ _ (.inl rfl) e,M q⟩
 |tbl W =>
  have e:=x;exact k a _ (.inl rfl) e
 |met f y =>
  have e:=x;exact k a _ (.inl rfl) e
 |ext φ=>obtain⟨p,⟨o,e⟩,st⟩:=x;exact⟨st _ _ p λo q=>k _ _ (.inl rfl) q,⟨o,k _ _ (.inl rfl) e⟩,st⟩
def HOk.lt(x:HOk P w H h)(e:H a=J o):a<h.objs.size:=(x a o e).lt
def HOk.fresh(x:HOk P w H h)(e:h.objs.size<=a):H a=Y:=by
 cases q:H a with
 |none=>rfl
 |some u=>exact absurd (sw (x.lt q) e) (AD _)
def HOk.kept(x:HOk P w H h)(k:∀b u,h.get? b=J u->h'.get? b=J u):HOk P w H h':=λa o e =>
 (x a o e).stay (λb u _ q=>k b u q) (λ_ q=>q) λ_ _ q=>q
def HOk.laid(x:HOk P w H h)(k:∀b u,h.get? b=J u->h'.get? b=J u)(j:h.objs.size<=a)(new:ObjOk P w (l_ H a o) h' a o):HOk P w (l_ H a o) h':=λb u e=>by
 have f:=x.fresh j;by_cases i:b=a
 .subst i;rw[aR]at e;cases e;exact new
 .rw[aI i]at e;exact(x b u e).stay (λc v _ q=>k c v q) (λc q=>by rw[aI (bC q f)];exact q) λc xs q=>by rw[aI (bC q f)];exact q
end
def Rd(H:Hp)(a:Addr)(u:HO):Prop:=H a=J u\/∃o,H a=J (.frz o u)
def Rd.ok(r:Rd H a u)(x:HOk P w H h):ObjOk P w H h a u:=by
 rcases r with r|⟨o,r⟩
 .exact x a u r
 .obtain⟨_,q⟩:=x a _ r;exact q
def K7:Option HO->Prop
 |some (.lst _)=>True
 |some (.dK _)=>True
 |some (.dT _)=>True
 |some (.set _ _)=>True
 |some (.ins _ _ _)=>True
 |some (.ext _)=>True
 |_=>False
section
variable{P:Program}{w:World}{H:Hp}{h h':Heap}{x e:Addr}{o':HO}
def HOk.write(ok:HOk P w H h)(j:K7 (H x))(E:e=x\/H e=J (.own x))(k:∀b u,b≠e->h.get? b=J u->h'.get? b=J u)(B:∃u,h'.get? e=J u)(new:ObjOk P w (l_ H x o') h' x o'):HOk P w (l_ H x o') h':=λb u q=>by
 have i:∀c y,H c=J (.own y)->c≠x:=λc y r z=>by subst z;rw[r]at j;exact j
 have f:∀c xs,H c=J (.tup xs)->c≠x:=λc xs r z=>by subst z;rw[r]at j;exact j
 by_cases l:b=x
 .subst l;rw[aR]at q;cases q;exact new
 .rw[aI l]at q;by_cases a:b=e
  .have C:H b=J (.own x):=by
    rcases E with z|z
    .exact absurd (a.trans z) l
    .rw[a];exact z
   rw[q]at C;cases C;obtain⟨v,hv⟩:=B;exact⟨v,by rw[a];exact hv⟩
  .refine (ok b u q).stay (λc v F r=>k c v ?_ r) (λc r=>by rw[aI (i c b r)];exact r) λc xs r=>by rw[aI (f c xs r)];exact r
   grind
end
structure Un(fs ex:QR)(H H':Hp)(h h':Heap):Prop where
 keep:∀b o,h.get? b=J o->H b=Y->b∉fs->b∉ex->h'.get? b=J o
 slot:∀b o,h.get? b=J o->H b=Y->b∈fs->b∉ex->∃sl,h'.get? b=J { o with slots:=sl}
 free:∀b o,h.get? b=J o->H b=Y->b∉ex->H' b=Y
 there:∀b o,h.get? b=J o->b∉ex->∃o',h'.get? b=J o'
 tups:∀b xs,H b=J (.tup xs)->H' b=J (.tup xs)
 frzs:∀b o u,H b=J (.frz o u)->H' b=J (.frz o u)
 tbls:∀b ps,H b=J (.tbl ps)->∃more,H' b=J (.tbl (ps++more))
section
variable{fs fs' ex ex':QR}{H H1 H2:Hp}{h h1 h2 h':Heap}{a x e:Addr}{o:HO}
def Un.any(u:Un fs ex H H1 h h1)(q:h.get? b=J ob)(n:H b=Y)(f:b∉ex):∃j,h1.get? b=J { ob with slots:=j}:=by
 by_cases i:b∈fs
 .exact u.slot b ob q n i f
 .exact⟨ob.slots,u.keep b ob q n i f⟩
def Un.kept(k:∀b u,h.get? b=J u->h'.get? b=J u):Un fs ex H H h h' :=
 ⟨λb f q _ _ _=>k b f q,λb f q _ _ _=>⟨f.slots,k b f q⟩,λ_ _ _ n _=>n,λb f q _=>⟨f,k b f q⟩,λ_ _ q=>q,λ_ _ _ q=>q,λ_ i q=>⟨#[],by rw[q];simp⟩⟩
def Un.refl:Un fs ex H H h h:=Un.kept λ_ _ q=>q
def Un.laid(k:∀b u,h.get? b=J u->h'.get? b=J u)(i:h.objs.size<=a)(f:H a=Y):Un fs ex H (l_ H a o) h h' where
 keep:=λb u q _ _ _=>k b u q
 slot:=λb u q _ _ _=>⟨u.slots,k b u q⟩
 free:=λb u q n _=>by rw[aI (vR (sw (pj q) i))];exact n
 there:=λb u q _=>⟨u,k b u q⟩
 tups:=λb xs q=>by rw[aI (bC q f)];exact q
 frzs:=λb u xs q=>by rw[aI (bC q f)];exact q
 tbls:=λb j q=>⟨#[],by rw[aI (bC q f),q];simp⟩
def Un.write(i:K7 (H x))(F:e=x\/H e=J (.own x))(k:∀b u,b≠e->h.get? b=J u->h'.get? b=J u)(l:∃u,h'.get? e=J u):Un fs ex H (l_ H x o) h h':=by
 have B:∀b,H b=Y->b≠x:=λb n z=>by subst z;rw[n]at i;exact i
 have y:∀b,H b=Y->b≠e:=λb n z=>by
  simp_all
 have j:∀b u,H b=J u->¬K7 (J u)->b≠x:=λb u q C z=>by subst z;rw[q]at i;exact C i
 refine⟨λb u q n _ _=>k b u (y b n) q,λb u q n _ _=>⟨u.slots,k b u (y b n) q⟩,λb u q n _=>by rw[aI (B b n)];exact n,λb u q _=>?_,
  λb xs q=>by rw[aI (j b _ q λz=>z)];exact q,λb u xs q=>by rw[aI (j b _ q λz=>z)];exact q,λb E q=>⟨#[],by rw[aI (j b _ q λz=>z),q];simp⟩⟩
 by_cases f:b=e
 .subst f;exact l
 .exact⟨u,k b u f q⟩
end
def K8(h:Heap)(H:Hp):QR:=(List.range h.objs.size).filter λa=>(H a).isSome
def kq(h:Heap)(H:Hp):Heap:=PySem.W.hideAll h (K8 h H)
def wq(h:Heap)(H:Hp):(kq h H).objs.size=h.objs.size:=PySem.W.hideAll_size _ _
def za(e:h.get? b=J o)(n:H b=Y):(kq h H).get? b=J o :=
 PySem.W.hideAll_get _ e λa=>by
  have q:=(AO.mp a).2;rw[n]at q;simp at q
def BE(e:(kq h H).get? b=J o):h.get? b=J o/\H b=Y:=by
 have a:=PySem.W.of_hideAll (K8 h H) e;refine⟨a,?_⟩
 cases q:H b with
 |none=>rfl
 |some x =>
  have f:b∈K8 h H:=AO.mpr ⟨Bb.mpr (pj a),by simp[q]⟩;have z:(kq h H).get? b=Y:=PySem.W.hideAll_none (K8 h H) f;rw[z]at e;cases e
structure Mod(K:hH)(mg:QA)(base:Heap):Prop where
 kin:K.In base
 glob:base.Ns mainGlobals mg
 blt:∃mb,base.Ns builtinsNs mb/\∀x:Str,x≠"__name__"->mb x=bootBuiltins x
 nolimit:base.NoLimit
 seer:base.NoSeer
structure Cx where
 prog:Program
 w:World
 K:hH
 mg:Str->QU
 base:Heap
 A:Around
 N:QM
 s₀:Shared
 H₀:Hp
 env:Env
 outer:List Env
 stack:List Env
 ex:QR
 fn:Str->Bool
 calm:Bool
 pn:QT
 xe:Value->Shared->Prop
def x4(l:List Env):QR:=l.filterMap (·.frame)
abbrev Cx.fs(X:Cx):QR:=x4 X.outer
def Ho(a:Scope)(x:Str):Prop:=a.names.lookup x=J .local\/a.names.lookup x=J .cell\/a.names.lookup x=J .free
def Loc(a:Scope)(x:Str):Prop:=a.names.lookup x=J .local\/a.names.lookup x=J .cell
def Look(env:Env)(h:Heap)(m:QA)(x:Str)(u:Value):Prop :=
 (env.kindOf x=J .local/\m x=J u)\/((env.kindOf x=J .cell\/env.kindOf x=J .free)/\∃c,env.cells.lookup x=J c/\h.IsCell c (J u))
structure Cx.Ok(X:Cx):Prop where
 mod:Mod X.K X.mg X.base
 kind:X.env.scope.kind=.function
 glob:X.env.globals=mainGlobals
 blt:X.env.builtins=builtinsNs
 above:X.s₀.heap.objs.size<=X.env.locals
 inj:∀x y c,X.env.cells.lookup x=J c->X.env.cells.lookup y=J c->x=y
 has:∀x,(X.env.kindOf x=J .cell\/X.env.kindOf x=J .free)->∃c,X.env.cells.lookup x=J c
 cab:∀x c,X.fn x=I->X.env.cells.lookup x=J c->X.s₀.heap.objs.size<=c
 hd:X.calm=I->X.A.handled=Y
 frames:X.A.frames=J X.stack
 stk:X.stack=X.outer\/(X.stack=X.env::X.outer/\X.env.frame=J X.env.locals)
 exf:∀b∈X.ex,b≠X.env.locals/\∀x c,X.env.cells.lookup x=J c->c≠b
 bs:∀b o,X.base.get? b=J o->X.s₀.heap.get? b=J o/\X.H₀ b=Y
 bsz:X.base.objs.size<=X.s₀.heap.objs.size
 noex:∀b o,X.base.get? b=J o->b∉X.ex
 exfs:∀b∈X.ex,b∉X.fs
 funs:X.s₀.heap.FunFrames X.base X.outer
 frf:∀b∈X.fs,X.H₀ b=Y
 tree:X.prog.given.tree=Y
 top:∃e l,X.stack=e::l/\e.scope.isGenerator=T/\e.scope.isCoroutine=T/\e.builtins=builtinsNs/\e.globals=mainGlobals
structure Inv(X:Cx)(JB:QT)(Z:List (Option V))(H:Hp)(s:Shared):Prop where
 ok:X.Ok
 os:s.os=X.s₀.os
 bare:AllBare s.gens
 base:Un X.fs X.ex X.H₀ H X.s₀.heap s.heap
 loc:∃m,s.heap.Ns X.env.locals m/\∀(i:Nat)(x:Str)(v:V),X.N[i]?=J x->Z[i]?=J (J v)->Ho X.env.scope x->∃u,aO v u/\Look X.env s.heap m x u
 cell:∀x c,X.env.cells.lookup x=J c->∃v,s.heap.IsCell c v
 free:H X.env.locals=Y
 freeC:∀x c,X.env.cells.lookup x=J c->H c=Y
 pin:∀p∈X.pn++JB,s.heap.get? p.1=J p.2/\H p.1=Y/\p.1≠X.env.locals/\p.1∉X.fs/\∀v,p.2.data≠.cell v
 hok:HOk X.prog X.w H s.heap
 len:Z.length=X.N.length
section
variable{X:Cx}{JB:List (Addr × Obj)}{Z:List (Option V)}{H H':Hp}{s:Shared}{h':Heap}
def Cx.Ok.nofr(ok:X.Ok)(e:X.base.get? b=J o):b∉X.fs:=λa=>by
 have:=(ok.funs.mem a).1
 rw[e]at this;cases this
def Inv.bs(a:Inv X JB Z H s):∀b o,X.base.get? b=J o->s.heap.get? b=J o/\H b=Y:=λb o e =>
 ⟨a.base.keep b o (a.ok.bs b o e).1 (a.ok.bs b o e).2 (a.ok.nofr e) (a.ok.noex b o e),a.base.free b o (a.ok.bs b o e).1 (a.ok.bs b o e).2 (a.ok.noex b o e)⟩
def Inv.bk(a:Inv X JB Z H s):∀b o,X.base.get? b=J o->s.heap.get? b=J o:=λb o e=>(a.bs b o e).1
def Inv.mod(a:Inv X JB Z H s):Mod X.K X.mg X.base:=a.ok.mod
def Inv.kIn(a:Inv X JB Z H s):X.K.In s.heap:=a.ok.mod.kin.keeps a.bk
def Inv.nolimit(a:Inv X JB Z H s):s.heap.NoLimit:=a.ok.mod.nolimit.keeps a.bk
def Inv.lt(a:Inv X JB Z H s):X.env.locals<s.heap.objs.size:=let⟨_,f,_⟩:=a.loc;f.lt
def Inv.sz(a:Inv X JB Z H s):X.s₀.heap.objs.size<=s.heap.objs.size:=qs a.ok.above (Hl a.lt)
def Inv.nofs(f:Inv X JB Z H s){a:Addr}(h:s.heap.objs.size<=a):a∉X.fs:=λj=>by
 obtain⟨_,o,i,_⟩:=f.ok.funs.mem j;exact absurd (sw (pj i) (qs f.sz h)) (AD _)
def Inv.cne(a:Inv X JB Z H s):∀x c,X.env.cells.lookup x=J c->c≠X.env.locals:=λx c e z=>by
 obtain⟨v,o,j,hd⟩:=a.cell x c e;obtain⟨m,⟨u,l,y,f,i,_⟩,_⟩:=a.loc;rw[z,f]at j;cases j;rw[i]at hd;cases hd
def Inv.funs(a:Inv X JB Z H s):s.heap.FunFrames X.base X.outer:=by
 have all:∀(l:List Env),(∀b∈x4 l,b∈X.fs)->X.s₀.heap.FunFrames X.base l->s.heap.FunFrames X.base l:=by
  intro l
  induction l with
  |nil=>intro _ _;trivial
  |cons env r y =>
   intro i hl;obtain⟨B,⟨L,o,hf,u,j,hd⟩,hr⟩:=hl;have hL:=i L (by unfold x4;rw[LW,hf];exact Et);obtain⟨C,e⟩:=a.base.slot L o j (a.ok.frf L hL) hL λz=>a.ok.exfs L z hL;exact⟨B,⟨L,_,hf,u,e,hd⟩,y (λb f=>i b (by unfold x4;rw[LW,hf];exact p5 _ f)) hr⟩
 exact all X.outer (λ_ f=>f) a.ok.funs
def Inv.stack(a:Inv X JB Z H s):s.heap.FunFrames X.base X.stack:=by
 rcases a.ok.stk with e|⟨e,hf⟩
 .rw[e];exact a.funs
 .rw[e];obtain⟨m,f,_⟩:=a.loc;refine .cons (by rw[a.ok.kind];decide) hf f ?_ a.funs;exact KS (qs a.ok.bsz a.ok.above)
def Inv.stkSub(f:Inv X JB Z H s):∀b∈x4 X.stack,b∈X.env.locals::X.fs:=λb a=>by
 rcases f.ok.stk with e|⟨e,hf⟩
 .rw[e]at a;exact p5 _ a
 .rw[e]at a;unfold x4 at a;rw[LW,hf]at a;exact a
def Inv.stkFree(a:Inv X JB Z H s):∀b∈x4 X.stack,H b=Y:=λb f=>by
 rcases p_.mp (a.stkSub b f)with e|f
 .rw[e];exact a.free
 .obtain⟨_,o,i,_⟩:=a.ok.funs.mem f;exact a.base.free b o i (a.ok.frf b f) λz=>a.ok.exfs b z f
def Inv.step{g':Array GenState}{W:Nat}{d':Drawn}{ch:QR}(a:Inv X JB Z H s)(B:∀b∈ch,(b∈X.ex\/X.s₀.heap.objs.size<=b)/\b≠X.env.locals/\(∀x c,X.env.cells.lookup x=J c->c≠b)/\∀p∈X.pn++JB,p.1≠b)(keep:∀b o,b≠X.env.locals->b∉X.fs->b∉ch->s.heap.get? b=J o->H b=Y->h'.get? b=J o)(slot:∀b o,b≠X.env.locals->b∈X.fs->b∉ch->s.heap.get? b=J o->H b=Y->∃Q,h'.get? b=J { o with slots:=Q})(free:∀b o,b∉ch->s.heap.get? b=J o->H b=Y->H' b=Y)(there:∀b o,b∉ch->s.heap.get? b=J o->∃L,h'.get? b=J L)(tups:∀b xs,H b=J (.tup xs)->H' b=J (.tup xs))(frzs:∀b o u,H b=J (.frz o u)->H' b=J (.frz o u))(tbls:∀b O,H b=J (.tbl O)->∃G,H' b=J (.tbl (O++G)))(ns:∀m,s.heap.Ns X.env.locals m->h'.Ns X.env.locals m)(hok:HOk X.prog X.w H' h')(hg:AllBare g'):
  Inv X JB Z H' { s with heap:=h',gens:=g',drawn:=d',toks:=W}:=by
 have M:∀b o,X.s₀.heap.get? b=J o->b≠X.env.locals:=λb o e=>vR (sw (pj e) a.ok.above);have C:∀b o,X.s₀.heap.get? b=J o->b∉X.ex->b∉ch:=λb o e f E=>by
  rcases(B b E).1 with z|z
  .exact f z
  .exact absurd (sw (pj e) z) (AD _)
 have y:∀x c,X.env.cells.lookup x=J c->∀v,s.heap.IsCell c v->h'.IsCell c v:=λx c e v ⟨o,F,hd⟩=>by
  have j:c∉ch:=λz=>(B c z).2.2.1 x c e rfl;by_cases U:c∈X.fs
  .obtain⟨Q,q⟩:=slot c o (a.cne x c e) U j F (a.freeC x c e);exact⟨_,q,hd⟩
  .exact⟨o,keep c o (a.cne x c e) U j F (a.freeC x c e),hd⟩
 refine⟨a.ok,a.os,hg,⟨λb o e n E f=>?_,λb o e n E f=>?_,λb o e n f=>?_,λb o e f=>?_,λb xs e=>tups b xs (a.base.tups b xs e),λb o xs e=>frzs b o xs (a.base.frzs b o xs e),λb O e=>?_⟩,?_,λx c e=>?_,?_,λx c e=>?_,λp S=>?_,hok,a.len⟩
 .exact keep b o (M b o e) E (C b o e f) (a.base.keep b o e n E f) (a.base.free b o e n f)
 .obtain⟨Q,e1⟩:=a.base.slot b o e n E f;obtain⟨P,e2⟩:=slot b _ (M b o e) E (C b o e f) e1 (a.base.free b o e n f);exact⟨P,e2⟩
 .obtain⟨L,e1⟩:=a.base.there b o e f;exact free b L (C b o e f) e1 (a.base.free b o e n f)
 .obtain⟨L,e1⟩:=a.base.there b o e f;exact there b L (C b o e f) e1
 .obtain⟨m1,e1⟩:=a.base.tbls b O e;obtain⟨m2,e2⟩:=tbls b _ e1;exact⟨m1++m2,by rw[e2,Array.append_assoc]⟩
 .obtain⟨m,hn,hl⟩:=a.loc;refine⟨m,ns m hn,λi x v e1 e2 e3=>?_⟩;obtain⟨u,r,l⟩:=hl i x v e1 e2 e3;refine⟨u,r,?_⟩;rcases l with l|⟨k,c,e,z⟩
  .exact .inl l
  .exact .inr ⟨k,c,e,y x c e _ z⟩
 .obtain⟨v,z⟩:=a.cell x c e;exact⟨v,y x c e v z⟩
 .obtain⟨m,⟨o,_,_,F,_⟩,_⟩:=a.loc;exact free _ o (λz=>(B _ z).2.1 rfl) F a.free
 .obtain⟨v,o,F,hd⟩:=a.cell x c e;exact free c o (λz=>(B c z).2.2.1 x c e rfl) F (a.freeC x c e)
 .obtain⟨e,n,ne,R,d⟩:=a.pin p S;have j:p.1∉ch:=λz=>(B p.1 z).2.2.2 p S rfl;exact⟨keep p.1 p.2 ne R j e n,free p.1 p.2 j e n,ne,R,d⟩
def Inv.un{t':Nat}(a:Inv X JB Z H s)(u:Un X.fs [] H H' s.heap h')(hok:HOk X.prog X.w H' h'):Inv X JB Z H' { s with heap:=h',toks:=t'}:=by
 obtain⟨m,⟨o,E,F,y,r⟩,_⟩:=id a.loc;obtain⟨G,hL⟩:=u.any y a.free (by simp)
 exact a.step (g':=s.gens) (d':=s.drawn) (ch:=[]) (λ_ z=>nomatch z) (λb o _ l _ e n=>u.keep b o e n l (by simp)) (λb o _ l _ e n=>u.slot b o e n l (by simp)) (λb o _ e n=>u.free b o e n (by simp)) (λb o _ e=>u.there b o e (by simp)) u.tups u.frzs u.tbls (λM C=>by
  obtain⟨L,j,i,f,B⟩:=C;rw[y]at f;cases f
  exact⟨_,j,i,hL,B⟩) hok a.bare
def Inv.call{g':Array GenState}{t':Nat}{d':Drawn}{C:QR}(a:Inv X JB Z H s)(u:Un (x4 X.stack) C H H' s.heap h')(hok:HOk X.prog X.w H' h')(hg:AllBare g')(j:∀b∈C,(b∈X.ex\/X.s₀.heap.objs.size<=b)/\b≠X.env.locals/\(∀x c,X.env.cells.lookup x=J c->c≠b)/\∀p∈X.pn++JB,p.1≠b):
  Inv X JB Z H' { s with heap:=h',gens:=g',drawn:=d',toks:=t'}:=by
 obtain⟨m,⟨o,L,M,B,r⟩,_⟩:=id a.loc;obtain⟨O,hL⟩:=u.any B a.free λz=>(j _ z).2.1 rfl
 exact a.step j (λb o hL G f e n=>u.keep b o e n (λz=>(p_.mp (a.stkSub b z)).elim hL G) f) (λb o _ _ f e n=>u.any e n f) (λb o f e n=>u.free b o e n f) (λb o f e=>u.there b o e f) u.tups u.frzs u.tbls (λQ F=>by
  obtain⟨P,y,l,i,E⟩:=F;rw[B]at i;cases i
  exact⟨_,y,l,hL,E⟩) hok hg
def Inv.turned{t':Nat}{a:Addr}(i:Inv X JB Z H s)(k:∀b o,b≠a->s.heap.get? b=J o->h'.get? b=J o)(y:H a=Y)(hL:a≠X.env.locals)(L:a∈X.ex\/X.s₀.heap.objs.size<=a)(G:∀x c,X.env.cells.lookup x=J c->c≠a)(B:∀p∈X.pn++JB,p.1≠a):Inv X JB Z H { s with heap:=h',toks:=t'}:=by
 have j:∀b u,H b=J u->b≠a:=λb u e z=>by rw[z,y]at e;cases e
 refine i.step (g':=s.gens) (d':=s.drawn) (ch:=[a]) (λb M=>?_) (λb o _ _ f e _=>k b o (λz=>f (by simp[z])) e) (λb o _ _ f e _=>⟨o.slots,k b o (λz=>f (by simp[z])) e⟩) (λ_ _ _ _ n=>n)
  (λb o f e=>⟨o,k b o (λz=>f (by simp[z])) e⟩) (λ_ _ e=>e) (λ_ _ _ e=>e) (λb O e=>⟨#[],by rw[e];simp⟩) (λm C=>?_) (λb u e=>?_) i.bare
 .have e:b=a:=by simpa using M
  subst e;exact⟨L,hL,G,B⟩
 .obtain⟨o,E,F,l,r⟩:=C;exact⟨o,E,F,k _ o (Ne.symm hL) l,r⟩
 .refine (i.hok b u e).stay (λc v f q=>k c v ?_ q) (λ_ q=>q) λ_ _ q=>q;rcases f with z|z
  .rw[z];exact j b u e
  .exact j c _ z
def Inv.tok(a:Inv X JB Z H s)(t:Nat):Inv X JB Z H { s with toks:=t}:=a.un (h':=s.heap) (t':=t) Un.refl a.hok
def Inv.kept(a:Inv X JB Z H s)(k:∀b u,s.heap.get? b=J u->h'.get? b=J u):Inv X JB Z H { s with heap:=h',toks:=t'}:=a.un (Un.kept k) (a.hok.kept k)
def Inv.laid{a:Addr}{o:HO}{t':Nat}(f:Inv X JB Z H s)(k:∀b u,s.heap.get? b=J u->h'.get? b=J u)(i:s.heap.objs.size<=a)(new:ObjOk X.prog X.w (l_ H a o) h' a o):
  Inv X JB Z (l_ H a o) { s with heap:=h',toks:=t'}:=f.un (Un.laid k i (f.hok.fresh i)) (f.hok.laid k i new)
def Inv.write(a:Inv X JB Z H s)(j:K7 (H x))(i:e=x\/H e=J (.own x))(k:∀b u,b≠e->s.heap.get? b=J u->h'.get? b=J u)(f:∃u,h'.get? e=J u)(new:ObjOk X.prog X.w (l_ H x o) h' x o):Inv X JB Z (l_ H x o) { s with heap:=h',toks:=t'}:=a.un (Un.write j i k f) (a.hok.write j i k f new)
def Inv.pins_of(a:Inv X JB Z H s)(h:∀p∈f,s.heap.get? p.1=J p.2/\H p.1=Y/\p.1≠X.env.locals/\p.1∉X.fs/\∀v,p.2.data≠.cell v):Inv X f Z H s :=
 ⟨a.ok,a.os,a.bare,a.base,a.loc,a.cell,a.free,a.freeC,λp i=>(Dx.mp i).elim (λz=>a.pin p (Hd _ z)) (h p),a.hok,a.len⟩
def rS{N:QM}(hN:N.Nodup){i j:Nat}{x:Str}(a:N[i]?=J x)(b:N[j]?=J x):i=j:=by obtain⟨l,e1⟩:=qi.mp a;obtain⟨f,e2⟩:=qi.mp b;exact(List.getElem_inj hN).mp (e1.trans e2.symm)
def xS{M:Model}{A:Around}{E:QZ}{i:Nat}{x:Str}{v:V}{u:Value}{Q:Unit->Shared->Prop}(f:Inv X JB Z H s)(hN:X.N.Nodup)(hi:X.N[i]?=J x)(F:Loc X.env.scope x)(r:aO v u)(h:∀s',Inv X JB (Z.set i (J v)) H s'->(∃a,Heap.SameBut a s.heap s'.heap/\(a=X.env.locals\/X.env.cells.lookup x=J a))->Q () s')(hf:X.fn x=I\/X.env.scope.names.lookup x=J .local:=by first | exact .inl rfl | exact .inr rfl | assumption):wpAny M A (storeName X.env x u) Q E s:=by
 obtain⟨m,hn,hl⟩:=id f.loc;have ai:(X.env.scope.kind == .class||(X.env.scope.kind == .module&&X.env.locals != X.env.globals))=T:=by rw[f.ok.kind];rfl
 have L:i<Z.length:=by rw[f.len];exact(qi.mp hi).1
 have cne:=f.cne;have B:∀{a:Addr}{h':Heap},(∃o,s.heap.get? a=J o/\H a=Y)->Heap.SameBut a s.heap h'->HOk X.prog X.w H h':=λ{a h'} ha l b ob e=>by
  obtain⟨_,_,G⟩:=ha;refine(f.hok b ob e).stay (λc w' C q=>(l.2 c ?_).trans q) (λ_ q=>q) λ_ _ q=>q;rintro rfl;rcases C with rfl|C
  .rw[G]at e;cases e
  .rw[G]at C;cases C
 rcases F with O|O
 .refine wpAny_storeName_local O hn (λh' an l=>?_) ai;obtain⟨oL,_,_,al,_⟩:=id hn;refine h _ ⟨f.ok,f.os,f.bare,⟨λb o e n P F=>?_,λb o e n P F=>?_,f.base.free,λb o e F=>?_,f.base.tups,f.base.frzs,f.base.tbls⟩,⟨_,an,λj y v' e1 e2 e3=>?_⟩,λy c e=>?_,f.free,f.freeC,λp hp=>?_,B ⟨oL,al,f.free⟩ l,by simpa using f.len⟩ ⟨_,l,.inl rfl⟩
  .exact (l.2 b (vR (sw (pj e) f.ok.above))).trans (f.base.keep b o e n P F)
  .obtain⟨sl,e1⟩:=f.base.slot b o e n P F;exact⟨sl,(l.2 b (vR (sw (pj e) f.ok.above))).trans e1⟩
  .obtain⟨o',e1⟩:=f.base.there b o e F;exact⟨o',(l.2 b (vR (sw (pj e) f.ok.above))).trans e1⟩
  .by_cases R:j=i
   .subst R;rw[hi]at e1;cases e1;rw[zO L]at e2;cases e2;exact⟨u,r,.inl ⟨O,by simp⟩⟩
   .rw[p6 (Ne.symm R)]at e2;obtain⟨u',r',q⟩:=hl j y v' e1 e2 e3;refine⟨u',r',?_⟩;rcases q with⟨k,e⟩|⟨k,c,e,z⟩
    .refine .inl ⟨k,?_⟩
     have:y≠x:=λe=>R (rS hN e1 (e▸hi))
     simp[this,e]
    .exact .inr ⟨k,c,e,z.sameBut l (cne y c e)⟩
  .obtain⟨w',z⟩:=f.cell y c e;exact⟨w',z.sameBut l (cne y c e)⟩
  .obtain⟨e,n,ne,nf,d⟩:=f.pin p hp;exact⟨(l.2 p.1 ne).trans e,n,ne,nf,d⟩
 .have S:X.fn x=I:=by
   rcases hf with z|z
   .exact z
   .rw[z]at O;cases O
  obtain⟨c,C⟩:=f.ok.has x (.inl O);obtain⟨w',z⟩:=f.cell x c C;refine wpAny_storeName_cell f.ok.kind O C z (λh' U l=>?_);obtain⟨oc,ab,W⟩:=id z;refine h { s with heap:=h'} ⟨f.ok,f.os,f.bare,⟨λb o e n P F=>?_,λb o e n P F=>?_,f.base.free,λb o e F=>?_,f.base.tups,f.base.frzs,f.base.tbls⟩,⟨m,hn.sameBut l (Ne.symm (cne x c C)),λj y v' e1 e2 e3=>?_⟩,λy c' e=>?_,f.free,f.freeC,λp hp=>?_,B ⟨oc,ab,f.freeC x c C⟩ l,by simpa using f.len⟩ ⟨c,l,.inr C⟩
  .exact (l.2 b (vR (sw (pj e) (f.ok.cab x c S C)))).trans (f.base.keep b o e n P F)
  .obtain⟨sl,e1⟩:=f.base.slot b o e n P F;exact⟨sl,(l.2 b (vR (sw (pj e) (f.ok.cab x c S C)))).trans e1⟩
  .obtain⟨o',e1⟩:=f.base.there b o e F;exact⟨o',(l.2 b (vR (sw (pj e) (f.ok.cab x c S C)))).trans e1⟩
  .by_cases R:j=i
   .subst R;rw[hi]at e1;cases e1;rw[zO L]at e2;cases e2;exact⟨u,r,.inr ⟨.inl O,c,C,U⟩⟩
   .rw[p6 (Ne.symm R)]at e2;obtain⟨u',r',q⟩:=hl j y v' e1 e2 e3;refine⟨u',r',?_⟩;rcases q with q|⟨k,c',e,z'⟩
    .exact .inl q
    .refine .inr ⟨k,c',e,z'.sameBut l ?_⟩;rintro rfl;exact R (rS hN e1 (f.ok.inj _ _ _ e C▸hi))
  .by_cases ak:c'=c
   .subst ak;exact⟨_,U⟩
   .obtain⟨w2,z2⟩:=f.cell y c' e;exact⟨w2,z2.sameBut l ak⟩
  .obtain⟨e,n,ne,nf,d⟩:=f.pin p hp;refine⟨(l.2 p.1 ?_).trans e,n,ne,nf,d⟩;intro q;rw[q,ab]at e;have q':oc=p.2:=Option.some.inj e;exact d w' (by rw[<-q'];exact W)
def j6(f:Inv X JB Z H s)(hN:X.N.Nodup)(l:X.N[i]?=J x)(y:Loc X.env.scope x)(r:aO v u)(h:∀a,Inv X JB (Z.set i (J v)) H a->Q () a)(hf:X.fn x=I\/X.env.scope.names.lookup x=J .local:=by first | exact .inl rfl | exact .inr rfl | assumption):wpAny M A (storeName X.env x u) Q E s :=
 xS f hN l y r (λa j _=>h a j) hf
def Inv.call'(f:Inv X JB Z H s)(y:s'.os=s.os)(u:Un (x4 X.stack) ch H H' s.heap s'.heap)(hok:HOk X.prog X.w H' s'.heap)(hg:AllBare s'.gens)(a:∀b∈ch,(b∈X.ex\/X.s₀.heap.objs.size<=b)/\b≠X.env.locals/\(∀x c,X.env.cells.lookup x=J c->c≠b)/\∀p∈X.pn++JB,p.1≠b):Inv X JB Z H' s':=by
 obtain⟨h',j,i,l,z⟩:=s';have e:=y;subst e;exact f.call (g':=j) (t':=l) (d':=i) u hok hg a
end
abbrev XK:=Value->QD->Hp->Prop
abbrev St:=List (Option V)
abbrev VK:=V->Hp->Prop
abbrev TE:=St->Hp->VK->Prop
abbrev TT:=St->Hp->(Bool->Hp->Prop)->Prop
abbrev TA:=St->Hp->(List V->Hp->Prop)->Prop
structure Ends where
 nx:St->Hp->Prop
 rt:VK
 bk:St->Hp->Prop:=λ_ _=>False
 ct:St->Hp->Prop:=λ_ _=>False
abbrev TS:=Ends->St->Hp->Prop
inductive EP(X:Cx)(JB:QT)(Z:St)(Q:VK)(u:Value)(s':Shared):Prop
 |mk(v:V)(H':Hp)(i:Inv X JB Z H' s')(r:aO v u)(q:Q v H'):EP X JB Z Q u s'
inductive TP(X:Cx)(JB:QT)(Z:St)(Q:Bool->Hp->Prop)(b:Bool)(s':Shared):Prop
 |mk(H':Hp)(i:Inv X JB Z H' s')(q:Q b H'):TP X JB Z Q b s'
inductive AP(X:Cx)(JB:QT)(Z:St)(Q:List V->Hp->Prop)(us:QS)(s':Shared):Prop
 |mk(vs:List V)(H':Hp)(i:Inv X JB Z H' s')(r:aK vs us)(q:Q vs H'):AP X JB Z Q us s'
inductive SN(X:Cx)(JB:QT)(Q:St->Hp->Prop)(s':Shared):Prop
 |mk(Z':St)(H':Hp)(i:Inv X JB Z' H' s')(q:Q Z' H'):SN X JB Q s'
inductive SR(X:Cx)(JB:QT)(Q:VK)(u:Value)(s':Shared):Prop
 |mk(v:V)(Z':St)(H':Hp)(i:Inv X JB Z' H' s')(r:aO v u)(q:Q v H'):SR X JB Q u s'
def SP(X:Cx)(i:QT)(D:Ends)(f:Flow)(a:Shared):Prop :=
 match f with
 |.next=>SN X i D.nx a
 |.brk=>SN X i D.bk a
 |.cont=>SN X i D.ct a
 |.ret u=>SR X i D.rt u a
def PE(X:Cx)(e:Expr)(t:TE):Prop :=
 ∀(a:QT)(s:Shared)(Z:St)(H:Hp)(Q:VK),Inv X a Z H s->t Z H Q->wpAny (model X.prog X.w) X.A (eval e X.env) (EP X a Z Q) X.xe s
def PT(X:Cx)(e:Expr)(t:TT):Prop :=
 ∀(a:QT)(s:Shared)(Z:St)(H:Hp)(Q:Bool->Hp->Prop),Inv X a Z H s->t Z H Q->wpAny (model X.prog X.w) X.A (isTrue e X.env (eval e X.env)) (TP X a Z Q) X.xe s
def PW(X:Cx)(e:Expr)(t:TT):Prop :=
 ∀(a:Sem Value)(f:QT)(s:Shared)(Z:St)(H:Hp)(Q:Bool->Hp->Prop),Inv X f Z H s->t Z H Q->wpAny (model X.prog X.w) X.A (isTrue e X.env a) (TP X f Z Q) X.xe s
def PW.pt(h:PW X e t):PT X e t:=h _
def PA(X:Cx)(i:QW)(t:TA):Prop :=
 ∀(a:Pos)(f:QT)(s:Shared)(Z:St)(H:Hp)(Q:List V->Hp->Prop),Inv X f Z H s->t Z H Q->wpAny (model X.prog X.w) X.A (spliced (backTo a (starEach i X.env))) (AP X f Z Q) X.xe s
def PS(X:Cx)(st:Stmt)(t:TS):Prop :=
 ∀(a:QT)(s:Shared)(Z:St)(H:Hp)(D:Ends),Inv X a Z H s->t D Z H->wpAny (model X.prog X.w) X.A (exec st X.env) (SP X a D) X.xe s
def PSs(X:Cx)(st:QC)(t:TS):Prop :=
 ∀(a:QT)(s:Shared)(Z:St)(H:Hp)(D:Ends),Inv X a Z H s->t D Z H->wpAny (model X.prog X.w) X.A (execs st X.env) (SP X a D) X.xe s
def j_(h:wpAny M A t Q E s)(f:∀a s,Q a s->Q' a s):wpAny M A t Q' E s:=wpAny_mono h f λ_ _ x=>x
section
variable{X:Cx}
def sD(i:Nat):TE:=λZ H Q=>∃v,Z[i]?=J (J v)/\Q v H
def tC(v:V):TE:=λ_ H Q=>Q v H
def kM{i:Nat}{x:Str}{z:Pos}(hN:X.N[i]?=J x)(hv:Ho X.env.scope x)(hd:(x==("__debug__":Str))=T:=by decide)(y:(x==("__classdict__":Str))=T:=by decide):PE X (.Name x z) (sD i):=by
 intro E s Z H Q f h;obtain⟨v,e,h⟩:=h;obtain⟨m,C,hl⟩:=f.loc;obtain⟨u,r,l⟩:=hl i x v hN e hv;have fin:EP X E Z Q u s:=⟨v,H,f,r,h⟩;rcases l with⟨j,F⟩|⟨j,c,B,a⟩
 .exact wpAny_Name (wpAny_loadName_local f.ok.kind j C F fin) hd
 .rcases j with j|j
  .exact wpAny_Name (wpAny_loadName_cell f.ok.kind j B a fin) hd
  .exact wpAny_Name (wpAny_loadName_free f.ok.kind j B a fin y) hd
def ED{i j pos}:PE X (.Constant (.int i) j pos) (tC (.int i)):=λ_ _ _ H _ a h=>wpAny_Constant_int ⟨.int i,H,a.tok _,⟨_,rfl⟩,h⟩
def HY{b j pos}:PE X (.Constant (.bool b) j pos) (tC (.bl b)):=λ_ _ _ H _ a h=>Constant_bool ⟨.bl b,H,a,rfl,h⟩
def wZ{j pos}:PE X (.Constant .none j pos) (tC .non):=λ_ _ _ H _ a h=>Constant_none ⟨.non,H,a,rfl,h⟩
def Gl(X:Cx)(x:Str):Prop:=X.env.kindOf x=J .globalImplicit
def lP{E:QZ}{i:QT}{s:Shared}{Z:St}{H:Hp}{x:Str}{u:Value}{f:Pos}{Q:QZ}(a:Inv X i Z H s)(hg:Gl X x)(j:X.mg x=J u)(h:Q u s)(hd:(x==("__debug__":Str))=T:=by decide):wpAny (model X.prog X.w) X.A (eval (.Name x f) X.env) Q E s :=
 Calls.Name_function_global a.ok.kind hg (Calls.loadGlobal_global (by rw[a.ok.glob];exact a.mod.glob.keeps a.bk) j h) hd
def gy{E:QZ}{j:QT}{s:Shared}{Z:St}{H:Hp}{x:Str}{u:Value}{f:Pos}{Q:QZ}(a:Inv X j Z H s)(hg:Gl X x)(l:X.mg x=Y)(hv:bootBuiltins x=J u)(h:Q u s)(i:x≠"__name__":=by decide)(hd:(x==("__debug__":Str))=T:=by decide):wpAny (model X.prog X.w) X.A (eval (.Name x f) X.env) Q E s:=by
 obtain⟨B,z,y⟩:=a.mod.blt;exact Calls.Name_function_global a.ok.kind hg (Calls.loadGlobal_builtin (by rw[a.ok.glob];exact a.mod.glob.keeps a.bk) l (by rw[a.ok.blt];exact z.keeps a.bk) ((y x i).trans hv) h) hd
def BF(hg:Gl X x)(f:X.mg x=J u)(r:aO v u)(hd:(x==("__debug__":Str))=T:=by decide):PE X (.Name x pos) (tC v) :=
 λ_ _ _ H _ a h=>lP a hg f ⟨v,H,a,r,h⟩ hd
def pE{x:Str}{v:V}{u:Value}{f:Pos}(hg:Gl X x)(j:X.mg x=Y)(hv:bootBuiltins x=J u)(r:aO v u)(i:x≠"__name__":=by decide)(hd:(x==("__debug__":Str))=T:=by decide):PE X (.Name x f) (tC v) :=
 λ_ _ _ H _ a h=>gy a hg j hv ⟨v,H,a,r,h⟩ i hd
variable{a b:Expr}{ta tb:TE}{pos:Pos}
def tB(t:TE):TT:=λZ H Q=>t Z H λx f=>∃c,x=.bl c/\Q c f
def EF(h:PE X e t)(y:∀f,isTrue e X.env f=(do let v <-f;standAt e.pos;holding [v] (truthy v)):=by intro _;rfl):PT X e (tB t):=by intro j s Z H Q i hw;refine isTrue_plain (j_ (h j s Z H _ i hw) λv C ⟨x,z,B,u,l⟩=>?_) (y _);obtain⟨d,rfl,q⟩:=l;cases u;exact wpAny_truthy_bool ⟨z,B,q⟩
variable{tA tB':TT}{rest:QW}
def PQ(t u:TT):TT:=λZ H Q=>t Z H λc f=>if c=I then Q I f else u Z f Q
def Mc(t:TT):TT:=λZ H Q=>t Z H λc f=>Q (!c) f
def EG(j:PT X a tA):PW X (.BoolOp .Or [a] pos) tA:=by
 intro l i s Z H Q f h;refine isTrue_or (j_ (j i s Z H Q f h) λc u e=>?_)
 cases c with
 |false=>exact isTrue_or_nil e
 |true=>exact e
def HZ(B:PT X a tA)(C:PW X (.BoolOp .Or (b::rest) pos) tB'):PW X (.BoolOp .Or (a::b::rest) pos) (PQ tA tB'):=by
 intro y j s Z H Q f h;refine isTrue_or (j_ (B j s Z H _ f h) λc z ⟨u,i,l⟩=>?_)
 cases c with
 |true=>exact⟨u,i,l⟩
 |false=>exact C y j z Z u Q i l
def EH(u:PT X a tA):PT X (.UnaryOp .Not a pos) (Mc tA):=by intro l s Z H Q f h;exact isTrue_not (j_ (u l s Z H (λc i=>Q (!c) i) f h) λ_ _ ⟨i,j,q⟩=>⟨i,j,q⟩)
def H_(ta tb:TE):TE:=λZ H Q=>ta Z H λx f=>∃c,x=.bl c/\if c=I then tb Z f Q else Q (.bl T) f
def Md(ta tb:TE):TE:=λZ H Q=>ta Z H λx f=>∃c,x=.bl c/\if c=I then Q (.bl I) f else tb Z f Q
def Ia(ta:TE):TE:=λZ H Q=>ta Z H λx f=>∃c,x=.bl c/\Q (.bl (!c)) f
def EJ{op}(h:PE X a t):PE X (.BoolOp op [a] pos) t:=λi s Z H Q f hw=>BoolOp_one (h i s Z H Q f hw)
def EK(C:PE X a ta)(B:PE X (.BoolOp .And (b::rest) pos) tb):PE X (.BoolOp .And (a::b::rest) pos) (H_ ta tb):=by
 intro j s Z H Q i h;refine BoolOp_and (j_ (C j s Z H _ i h) λv y ⟨x,l,u,z,f⟩=>?_);obtain⟨c,rfl,f⟩:=f;cases z;refine wpAny_truthy_bool ?_
 cases c with
 |true=>exact B j y Z l Q u f
 |false=>exact⟨.bl T,l,u,rfl,f⟩
def Ib(C:PE X a ta)(B:PE X (.BoolOp .Or (b::rest) pos) tb):PE X (.BoolOp .Or (a::b::rest) pos) (Md ta tb):=by
 intro j s Z H Q i h;refine BoolOp_or (j_ (C j s Z H _ i h) λv y ⟨x,l,u,z,f⟩=>?_);obtain⟨c,rfl,f⟩:=f;cases z;refine wpAny_truthy_bool ?_
 cases c with
 |false=>exact B j y Z l Q u f
 |true=>exact⟨.bl I,l,u,rfl,f⟩
def EL(y:PE X a ta):PE X (.UnaryOp .Not a pos) (Ia ta):=by intro j s Z H Q f h;refine UnaryOp_ (j_ (y j s Z H _ f h) λv B ⟨x,z,l,u,i⟩=>?_);obtain⟨c,rfl,i⟩:=i;cases u;exact not_of (wpAny_truthy_bool ⟨.bl (!c),z,l,rfl,i⟩)
def PX(t:TT)(ta tb:TE):TE:=λZ H Q=>t Z H λc f=>if c=I then ta Z f Q else tb Z f Q
def yC(C:PT X c tA)(z:PE X a ta)(B:PE X b tb):PE X (.IfExp c a b pos) (PX tA ta tb):=by
 intro i s Z H Q f h;refine wpAny_IfExp (j_ (C i s Z H _ f h) λd l ⟨y,j,u⟩=>?_)
 cases d with
 |true=>exact z i l Z y Q j u
 |false=>exact B i l Z y Q j u
end
def SqL(K:hH)(H:Hp)(a:Addr)(xs:List V):Prop :=
 Rd H a (.lst xs) \/
  ∃(o:Obj) (f:Array Value) (n:Nat),K.lookup a=J o/\o.cls=.type "list"/\o.dict=Y/\o.data=.seq f n/\f.size<=sizeLine/\aK xs f.toList
def SqT(K:hH)(H:Hp)(a:Addr)(xs:List V):Prop :=
 Rd H a (.tup xs) \/
  ∃(o:Obj) (f:Array Value) (n:Nat),K.lookup a=J o/\o.cls=.type "tuple"/\(o.data=.seq f n/\o.dict=Y)/\f.size<=sizeLine/\aK xs f.toList
def Me:Value->Option V
 |.none=>J .non
 |.bool b=>J (.bl b)
 |.int i _=>J (.int i)
 |.str x _=>J (.str x)
 |.bytes b _=>J (.byt b)
 |.float b _=>J (.flt b)
 |.ref a=>J (.ref a)
 |.type n=>J (.ty n)
 |_=>Y
def aO.abs(r:aO x u):Me u=J x:=by
 cases x with
 |non=>cases r;rfl
 |bl _=>cases r;rfl
 |int _=>obtain⟨t,rfl⟩:=r;rfl
 |str _=>obtain⟨t,rfl⟩:=r;rfl
 |byt _=>obtain⟨t,rfl⟩:=r;rfl
 |flt _=>obtain⟨t,rfl⟩:=r;rfl
 |ref _=>cases r;rfl
 |ty _=>cases r;rfl
def aO.inj(r:aO x u)(q:aO y u):x=y:=Option.some.inj (r.abs.symm.trans q.abs)
def aK.inj(r:aK xs us)(q:aK ys us):xs=ys:=by
 induction r generalizing ys with
 |nil=>cases q;rfl
 |cons r t a=>cases q with|cons f i=>rw[r.inj f,a i]
section
variable{X:Cx}{JB:List (Addr × Obj)}{Z:St}{H:Hp}{s:Shared}{a:Addr}{xs ys:List V}
def SqL.of{K:hH}(h:H a=J (.lst xs)):SqL K H a xs:=.inl (.inl h)
def SqT.of{K:hH}(h:H a=J (.tup xs)):SqT K H a xs:=.inl (.inl h)
def Inv.list(i:Inv X JB Z H s)(h:SqL X.K H a xs):∃f:QS,aK xs f/\PlainL s.heap a f.toArray/\xs.length<=sizeLine:=by
 rcases h with h|⟨o,f,n,l,u,hd,j,y,r⟩
 .obtain⟨z,f,n,r,e⟩:=h.ok i.hok;exact⟨f,r,⟨_,n,e,rfl,rfl,rfl⟩,z⟩
 .refine⟨f.toList,r,⟨o,n,i.kIn a o l,u,hd,by simpa using j⟩,?_⟩;have e:=r.length
  grind
def Inv.tupleN(i:Inv X JB Z H s)(h:SqT X.K H a xs):∃f:QS,aK xs f/\iw s.heap a f.toArray/\xs.length<=sizeLine:=by
 rcases h with h|⟨o,f,n,l,u,j,y,r⟩
 .obtain⟨z,f,r,p⟩:=h.ok i.hok;exact⟨f,r,p,z⟩
 .refine⟨f.toList,r,⟨o,i.kIn a o l,u,⟨n,by simpa using j.1⟩,j.2⟩,?_⟩;have e:=r.length
  grind
def Inv.tuple(i:Inv X JB Z H s)(h:SqT X.K H a xs):∃f:QS,aK xs f/\IsTup s.heap a f.toArray/\xs.length<=sizeLine :=
 let⟨f,r,p,z⟩:=i.tupleN h
 ⟨f,r,p.tup,z⟩
def Inv.list_inj(f:Inv X JB Z H s)(h:SqL X.K H a xs)(z:SqL X.K H a ys):xs=ys:=by
 obtain⟨j,r,⟨o,n,e,_,_,d⟩,_⟩:=f.list h;obtain⟨i,y,⟨C,B,u,_,_,l⟩,_⟩:=f.list z;rw[e]at u;cases u;rw[d]at l;injection l with d1 _
 have:j=i:=by simpa using congrArg Array.toList d1
 subst this;exact r.inj y
def Inv.tuple_inj(f:Inv X JB Z H s)(h:SqT X.K H a xs)(z:SqT X.K H a ys):xs=ys:=by
 obtain⟨j,r,⟨o,e,_,n,d⟩,_⟩:=f.tuple h;obtain⟨i,y,⟨C,u,_,B,l⟩,_⟩:=f.tuple z;rw[e]at u;cases u;rw[d]at l;injection l with d1 _
 have:j=i:=by simpa using congrArg Array.toList d1
 subst this;exact r.inj y
end
abbrev Cx.wish(X:Cx)(E:QZ):Cx:={ X with xe:=E}
abbrev Cx.nox(X:Cx):Cx:=X.wish λ_ _=>False
def Cx.Ok.wish{X:Cx}(ok:X.Ok)(E:QZ):(X.wish E).Ok :=
 ⟨ok.mod,ok.kind,ok.glob,ok.blt,ok.above,ok.inj,ok.has,ok.cab,ok.hd,ok.frames,ok.stk,ok.exf,ok.bs,ok.bsz,ok.noex,ok.exfs,ok.funs,ok.frf,ok.tree,ok.top⟩
def Cx.Ok.unwish{X:Cx}{E:QZ}(ok:(X.wish E).Ok):X.Ok :=
 ⟨ok.mod,ok.kind,ok.glob,ok.blt,ok.above,ok.inj,ok.has,ok.cab,ok.hd,ok.frames,ok.stk,ok.exf,ok.bs,ok.bsz,ok.noex,ok.exfs,ok.funs,ok.frf,ok.tree,ok.top⟩
section
variable{X:Cx}{JB:List (Addr × Obj)}{Z:St}{H:Hp}{s:Shared}{E:QZ}
def Inv.wish(a:Inv X JB Z H s)(E:QZ):Inv (X.wish E) JB Z H s:=⟨a.ok.wish E,a.os,a.bare,a.base,a.loc,a.cell,a.free,a.freeC,a.pin,a.hok,a.len⟩
def Inv.unwish(a:Inv (X.wish E) JB Z H s):Inv X JB Z H s:=⟨a.ok.unwish,a.os,a.bare,a.base,a.loc,a.cell,a.free,a.freeC,a.pin,a.hok,a.len⟩
def SP.unwish(h:SP (X.wish E) JB D f s'):SP X JB D f s':=by
 cases f with
 |next=>obtain⟨j,i,a,q⟩:=h;exact⟨j,i,a.unwish,q⟩
 |brk=>obtain⟨j,i,a,q⟩:=h;exact⟨j,i,a.unwish,q⟩
 |cont=>obtain⟨j,i,a,q⟩:=h;exact⟨j,i,a.unwish,q⟩
 |ret u=>obtain⟨v,j,i,a,r,q⟩:=h;exact⟨v,j,i,a.unwish,r,q⟩
def PSs.nox{st:QC}{t:TS}(h:PSs X.nox st t):PSs X st t:=λJB s Z H D a hw =>
 wpAny_mono (h JB s Z H D (a.wish _) hw) (λ_ _ q=>q.unwish) λ_ _ z=>False.elim z
end
section
variable{X:Cx}{st:Stmt}{rest:QC}{t u:TS}{e:Expr}{te:TE}{pos:Pos}
def Ic:TS:=λD Z H=>D.nx Z H
def Ie(t u:TS):TS:=λD Z H=>t { D with nx:=u D} Z H
def BG:PSs X [] Ic:=λ_ _ Z H _ a h=>wpAny_execs_nil ⟨Z,H,a,h⟩
def rm(C:PS X st t)(y:PSs X rest u):PSs X (st::rest) (Ie t u):=by
 intro i s Z H D a h;refine wpAny_execs_cons (j_ (C i s Z H { D with nx:=u D} a h) λf j q=>?_)
 cases f with
 |next =>
  obtain⟨B,z,l,q⟩:=q;exact y i j B z D l q
 |ret v=>exact q
 |brk=>exact q
 |cont=>exact q
def pd(j:PS X st t):PSs X [st] t:=by
 intro i s Z H D a h;refine wpAny_execs_cons (j_ (j i s Z H D a h) λf l q=>?_)
 cases f with
 |next=>exact wpAny_execs_nil q
 |ret v=>exact q
 |brk=>exact q
 |cont=>exact q
def Inv.quiet{f:QT}{Z:St}{H:Hp}{s:Shared}(a:Inv X f Z H s):interactive X.env=T:=by simp[interactive,a.ok.kind]
def Dz(te:TE):TS:=λD Z H=>te Z H λ_ a=>D.nx Z a
def uB(l:PE X e te)(j:swapsWith e Y pos.line X.env=pure T:=by rfl):PS X (.Expr e pos) (Dz te):=by intro i s Z H D a h;exact wpAny_Expr_any (j_ (l i s Z H _ a h) λv B ⟨x,z,f,C,y⟩=>⟨Z,z,f,y⟩) a.quiet j
def Mf(te:TE):TS:=λD Z H=>te Z H D.rt
def EM(l:PE X e te):PS X (.Return (J e) pos) (Mf te):=by intro i s Z H D a h;exact wpAny_Return_some (j_ (l i s Z H _ a h) λv B ⟨x,z,f,j,y⟩=>⟨x,Z,z,f,j,y⟩)
def Mh(c:TT)(t u:TS):TS:=λD Z H=>c Z H λb a=>if b=I then t D Z a else u D Z a
def Ig(E:PT X c tc)(B:PSs X a t)(C:PSs X b u):PS X (.If c a b pos) (Mh tc t u):=by
 intro i s Z H D f h;refine wpAny_If (j_ (E i s Z H _ f h) λd l ⟨z,j,y⟩=>?_)
 cases d with
 |true=>exact B i l Z z D j y
 |false=>exact C i l Z z D j y
end
abbrev TG:=V->St->Hp->(St->Hp->Prop)->Prop
abbrev Hr:=List V->St->Hp->(St->Hp->Prop)->Prop
def PG(X:Cx)(a:Expr)(t:TG):Prop :=
 ∀(f:QT)(s:Shared)(Z:St)(H:Hp)(v:V)(u:Value)(Q:St->Hp->Prop),Inv X f Z H s->aO v u->t v Z H Q ->
  wpAny (model X.prog X.w) X.A (assign a X.env u) (λ_ i=>SN X f Q i) X.xe s
def PGs(X:Cx)(l:QW)(t:Hr):Prop :=
 ∀(f:QT)(s:Shared)(Z:St)(H:Hp)(i:List V)(a:QS)(Q:St->Hp->Prop),Inv X f Z H s->aK i a->t i Z H Q ->
  wpAny (model X.prog X.w) X.A (assignInOrder ((assignEach l X.env).map (·.2)) a) (λ_ j=>SN X f Q j) X.xe s
abbrev Ih:=V->V->V->Hp->(Hp->Prop)->Prop
inductive SE(X:Cx)(JB:QT)(Z:St)(Q:Hp->Prop)(s':Shared):Prop
 |mk(H':Hp)(i:Inv X JB Z H' s')(q:Q H'):SE X JB Z Q s'
def Ii(X:Cx)(t:Ih):Prop :=
 ∀(a:QT)(s:Shared)(Z:St)(H:Hp)(o i v:V)(ov f u:Value)(Q:Hp->Prop),Inv X a Z H s->aO o ov->aO i f->aO v u->t o i v H Q ->
  wpAny (model X.prog X.w) X.A (setItem ov f u) (λ_ j=>SE X a Z Q j) X.xe s
section
variable{X:Cx}{pos:Pos}
def DA(i:Nat):TG:=λv Z H Q=>Q (Z.set i (J v)) H
def uk(hN:X.N.Nodup)(j:X.N[i]?=J x)(l:Loc X.env.scope x)(hf:X.fn x=I\/X.env.scope.names.lookup x=J .local:=by first | exact .inl rfl | exact .inr rfl | assumption):PG X (.Name x pos) (DA i):=by intro y s Z H v u Q a r h;exact wpAny_assign_Name (j6 a hN j l r (λz f=>⟨_,H,f,h⟩) hf)
def Mi:Hr:=λa Z H Q=>a=[]/\Q Z H
def Ij(t:TG)(u:Hr):Hr:=λi Z H Q=>∃v r,i=v::r/\t v Z H λf a=>u r f a Q
def BH:PGs X [] Mi:=by intro i s Z H j f Q a r h;obtain⟨e,h⟩:=h;subst e;cases r;exact assignInOrder_nil ⟨Z,H,a,h⟩
def yT(C:PG X e t)(z:PGs X es u)(i:(assignEach (e::es) X.env).map (·.2)=assign e X.env::(assignEach es X.env).map (·.2):=by rfl):PGs X (e::es) (Ij t u):=by
 intro f s Z H M G Q a r h;obtain⟨v,L,e1,h⟩:=h;subst e1
 cases r with
 |cons r y =>
  rw[i];refine assignInOrder_cons (j_ (C f s Z H _ _ _ a r h) λ_ j ⟨B,E,F,l⟩=>?_);exact z f j B E _ _ Q F y l
def Mj(K:hH)(n:Nat)(t:Hr):TG:=λv Z H Q=>∃a xs,v=.ref a/\SqT K H a xs/\xs.length=n/\t xs Z H Q
def EN{i:QW}{k:Nat}{t:Hr}{n:Nat}(E:X.calm=I)(h:PGs X i t)(y:(assignEach i X.env).length=n:=by rfl)(j:(assignEach i X.env).findIdx? (·.1)=Y:=by rfl):PG X (.Tuple i k pos) (Mj X.K n t):=by
 intro z s Z H v u Q f r hw;obtain⟨a,xs,e1,F,hl,hw⟩:=hw;subst e1;cases r;obtain⟨C,l,G,M⟩:=f.tuple F;refine assign_Tuple_tuple (f.ok.hd E) G (by simp[y,<-hl,l.length]) j λO B=>?_;have L:=f.kept (t':=s.toks) λb o e=>B b o (vR (pj e)) e;exact h z _ Z H xs _ Q L (by simpa using l) hw
def Mk(to f:TE)(t:Ih):TG:=λv Z H Q=>to Z H λo l=>f Z l λi j=>t o i v j λa=>Q Z a
def EO(z:PE X o to)(S:PE X i ti)(B:Ii X t)(ha:∀v,assign (.Subscript o i pos) X.env v=(do
   let ov <-holding [v] (eval o X.env)
   let a <-holding [v,ov] (eval i X.env)
   standAt pos
   holding [v,ov,a] (setItem ov a v)
   release [v,ov,a] []):=by intro _;rfl):PG X (.Subscript o i pos) (Mk to ti t):=by
 intro f s Z H v u Q j r h;refine g_ (wpAny_holding (j_ (z f s Z H _ j h) λov F ⟨x,U,W,P,L⟩=>?_));refine g_ (wpAny_holding (j_ (S f F Z U _ W L) λa C ⟨y,R,l,M,G⟩=>?_));refine g_ (wpAny_standAt (g_ (wpAny_holding (j_ (B f C Z R x y v ov a u _ l P M r G) λ_ s3 ⟨H3,E,O⟩=>?_))));exact wpAny_release ⟨Z,H3,E,O⟩
def Ik(a:TE)(g:TG):TS:=λD Z H=>a Z H λx f=>g x Z f D.nx
def EQ(z:PE X e te)(hg:PG X tg g)(i:swapsWithSole [tg] e pos.line X.env=pure T:=by rfl)(hw:swappedStores [tg] e X.env=pure Y:=by rfl)(y:(assignEach [tg] X.env).map (·.2)=[assign tg X.env]:=by rfl):PS X (.Assign [tg] e pos) (Ik te g):=by
 intro f s Z H D a h;refine wpAny_Assign_stores (j_ (z f s Z H _ a h) λv j ⟨x,B,C,u,l⟩=>?_) i hw;rw[y];exact j_ (hg f j Z B x v _ C u l) λ_ E q=>q
def w6(hN:X.N.Nodup)(C:X.N[i]?=J x)(B:Loc X.env.scope x)(E:PE X e te)(j:swapsWith e (J (.Name x pos')) pos.line X.env=pure T:=by rfl)(hf:X.fn x=I\/X.env.scope.names.lookup x=J .local:=by first | exact .inl rfl | exact .inr rfl | assumption):
  PS X (.Assign [.Name x pos'] e pos) (Ik te (DA i)):=by
 intro l s Z H D a h;refine wpAny_Assign_Name (j_ (E l s Z H _ a h) λv M ⟨y,F,G,z,u⟩=>?_) j;exact j6 G hN C B z (λL f=>⟨_,F,f,u⟩) hf
def Ml(i j:Nat)(f:TA):TS:=λD Z H=>f Z H λa l=>∃v w,a=[v,w]/\D.nx ((Z.set i (J v)).set j (J w)) l
def ER{kt k2 pt2}(hc:X.calm=I)(hN:X.N.Nodup)(hi:X.N[i]?=J x)(hj:X.N[j]?=J y)(C:i≠j)(G:X.env.scope.names.lookup x=J .local)(L:X.env.scope.names.lookup y=J .local)(ha:PA X [a,b] ta)(hw:swappedStores [.Tuple [.Name x px,.Name y py] kt pt] (.Tuple [a,b] k2 pt2) X.env=pure (J [x,y]))(hs:swapsWithSole [.Tuple [.Name x px,.Name y py] kt pt] (.Tuple [a,b] k2 pt2) pos.line X.env=pure T:=by rfl):
  PS X (.Assign [.Tuple [.Name x px,.Name y py] kt pt] (.Tuple [a,b] k2 pt2) pos) (Ml i j ta):=by
 intro F s Z H D u h;refine g_ (wpAny_standAt ?_);refine g_ (oh ?_);refine g_ (Tuple_ (j_ (ha _ F s Z H _ u h) λQ f ⟨vs,M,I1,U,B⟩=>?_));obtain⟨v,w,e1,B⟩:=B;subst e1;obtain⟨z,l,rfl,rv,rw'⟩:∃z l,Q=[z,l]/\aO v z/\aO w l:=by
  cases U with
  |cons p q =>
   cases q with
   |cons W q' =>
    cases q';exact⟨_,_,rfl,p,W⟩
 refine wpAny_newObj_type ?_ (by show 2<=sizeLine;decide);have P:Inv X F Z M { f with heap:=f.heap.push { cls:=.type "tuple",data:=.seq [z,l].toArray}}:=I1.kept (t':=f.toks) λb o e=>n3 _ e;rw[hw];show wpAny (model X.prog X.w) X.A (do rule "assign.swapped-stores";let items <-unpackItems (.ref f.heap.objs.size) 2 Y;assignInOrder [λv=>bindName X.env y v,λv=>bindName X.env x v] items.reverse;pure Flow.next) _ _ _;refine g_ (wpAny_rule (g_ (unpackItems_tuple (items:=#[z,l]) (u.ok.hd hc) (IsTup.new f.heap _) λh' E=>?_)));have R:=P.kept (h':=h') (t':=f.toks) λb o e=>E b o (vR (pj e)) e;refine g_ (assignInOrder_cons (wpAny_bindName (j6 R hN hj (.inl L) rw' (λs2 S=>?_) (.inr L))));refine assignInOrder_cons (wpAny_bindName (j6 S hN hi (.inl G) rv (λs3 O=>assignInOrder_nil (oh ?_)) (.inr G)));rw[List.set_comm _ _ (Ne.symm C)]at O;exact⟨_,M,O,B⟩
def ES(c:TT)(l:TS):TS:=λD Z H=>∃W:Nat->St->Hp->Prop,(∃m,W m Z H)/\∀m Z H,W m Z H ->
 c Z H λb j=>if b=I then ∃N:St->Hp->Prop,(∀f a,N f a->∃i,i<m/\W i f a)/\l { D with nx:=N,ct:=N,bk:=D.nx} Z j else D.nx Z j
def zf(Q:PassesOwn (model X.prog X.w) X.A X.env X.xe)(hc:PT X c tc)(hb:PSs X body tb):PS X (.While c body [] pos) (ES tc tb):=by
 intro y s Z H D F h;obtain⟨W,⟨m0,w0⟩,turn⟩:=h;refine wpAny_While (codeAny_whileLoop (λn s'=>∃P O,Inv X y P O s'/\W n P O) ?_ m0 ⟨Z,H,F,w0⟩);rintro n U ⟨u,R,I1,w1⟩;refine wpAny_passesOwn Q (j_ (hc y U u R _ I1 (turn n u R w1)) λb S ⟨M,L,j⟩=>?_)
 cases b with
 |true =>
  obtain⟨N,hN,j⟩:=j;refine wpAny_passesOwn Q (j_ (hb y S u M _ L j) λf s3 l=>?_)
  cases f with
  |next =>
   obtain⟨a,i,B,E⟩:=l;obtain⟨G,z,C⟩:=hN a i E;exact⟨G,z,a,i,B,C⟩
  |cont =>
   obtain⟨a,i,B,E⟩:=l;obtain⟨G,z,C⟩:=hN a i E;exact⟨G,z,a,i,B,C⟩
  |brk=>exact l
  |ret v=>exact l
 |false =>
  exact wpAny_execs_nil ⟨u,M,L,j⟩
end
structure It where
 go:Nat->Hp->Prop
 yld:Nat->Hp->V->Hp->Prop
 stop:Nat->Hp->Prop
def ij(X:Cx)(a:QT)(H:Hp)(b:Addr):Prop :=
 H b=Y/\b≠X.env.locals/\b∉X.fs/\(b∈X.ex\/X.s₀.heap.objs.size<=b)/\(∀x c,X.env.cells.lookup x=J c->c≠b)/\∀p∈X.pn++a,p.1≠b
def Inv.fpOk{X:Cx}{i:QT}{Z:St}{H H':Hp}{s:Shared}{b:Addr}(a:Inv X i Z H s)(f:s.heap.objs.size<=b)(l:H' b=Y):ij X i H' b:=by
 refine⟨l,AB (sw a.lt f),a.nofs f,.inr (qs a.sz f),λx c e z=>?_,λp j z=>?_⟩
 .obtain⟨v,q⟩:=a.cell x c e;exact absurd (sw q.lt (by rw[z];exact f)) (AD _)
 .exact absurd (sw (pj (a.pin p j).1) (by rw[z];exact f)) (AD _)
inductive OM(X:Cx)(JB:QT)(Z:St)(u:Value)(Y:V->Hp->Prop)(n:Heap->Prop)(fp:QR)(s2:Shared):Prop
 |mk(x:V)(H':Hp)(i:Inv X JB Z H' s2)(r:aO x u)(y:Y x H')(t:n s2.heap)(f:∀b∈fp,H' b=none):OM X JB Z u Y n fp s2
structure AE(P:Program)(w:World)(K:hH)(tg:Expr)(J:It)(fp:QR)(it:Addr)(tn:Nat->Heap->Prop):Prop where
 mem:it∈fp
 obj:∀i h,tn i h->∀b∈fp,∃o,h.get? b=some o/\∀v,o.data≠.cell v
 keep:∀i h h',tn i h->(∀b∈fp,∀o,h.get? b=some o->h'.get? b=some o)->tn i h'
 item:∀(X:Cx),X.prog=P->X.w=w->X.K=K->X.calm=I->∀(i:Nat)(JB:QT)(s:Shared)(Z:St)(H:Hp)(E:QZ),Inv X JB Z H s->(∀b∈fp,ij X JB H b)->tn i s.heap->J.go i H ->
  wpAny (model P w) X.A (pyNext (.ref it)) (λr s1=>∃u,r=some u /\
   wpAny (model P w) X.A (letOwnedTupleGo tg (.ref it) u) (λ_ s2=>OM X JB Z u (J.yld i H) (tn (i+1)) fp s2) E s1) E s
 done:∀(X:Cx),X.prog=P->X.w=w->X.K=K->X.calm=I->∀(i:Nat)(JB:QT)(s:Shared)(Z:St)(H:Hp)(E:QZ),Inv X JB Z H s->(∀b∈fp,ij X JB H b)->tn i s.heap->J.stop i H ->
  wpAny (model P w) X.A (pyNext (.ref it)) (λr s1=>r=Y/\Inv X JB Z H s1) E s
 self:∀(A:Around)(i:Nat)(s:Shared)(Q:QZ)(E:QZ),tn i s.heap->Q (.ref it) s->wpAny (model P w) A (pyIter (.ref it)) Q E s
abbrev TI:=St->Hp->(It->Hp->Prop)->Prop
inductive Mm(X:Cx)(JB:QT)(Z:St)(tg:Expr)(R:It->Hp->Prop)(itv:Value)(s2:Shared):Prop
 |mk(it:Addr)(fp:QR)(tn:Nat->Heap->Prop)(J:It)(H':Hp)(e:itv=.ref it)(i:Inv X JB Z H' s2)(t:AE X.prog X.w X.K tg J fp it tn)(n:tn 0 s2.heap)(f:∀b∈fp,ij X JB H' b)(r:R J H'):Mm X JB Z tg R itv s2
def PI(X:Cx)(l a:Expr)(i:TI):Prop :=
 ∀(f:QT)(s:Shared)(Z:St)(H:Hp)(R:It->Hp->Prop),Inv X f Z H s->i Z H R ->
  wpAny (model X.prog X.w) X.A (eval a X.env) (λv j=>wpAny (model X.prog X.w) X.A (pyIter v) (Mm X f Z l R) X.xe j) X.xe s
def qO(f:s.heap.get? it=J o)(j:o.cls=.type n)(hd:o.data=.fields vs)(i:["enumerate","zip","dict_itemiterator","dict_reverseitemiterator","odict_iterator","itertools.zip_longest","itertools.pairwise"].contains n=T)(a:Q () s):wpAny M A (letOwnedTupleGo tg (.ref it) u) Q E s:=by
 cases tg<;>first
  |exact oh a
  | (cases u<;>first
    |exact oh a
    | (refine g_ (wpAny_load f ?_)
       rw[j,hd];show wpAny M A (if(["enumerate","zip","dict_itemiterator","dict_reverseitemiterator","odict_iterator","itertools.zip_longest","itertools.pairwise"].contains n&&vs[0]? == J (rawInt _))=I then _ else _) Q E s;rw[hI (by intro h;rw[i]at h;cases h)]
       exact oh a))
def Mn(K:hH)(a:Addr):It :=
 ⟨λi H=>∃xs x,SqL K H a xs/\xs[i]?=J x,λi H x f=>f=H/\∀xs,SqL K H a xs->xs[i]?=J x,λi H=>∃xs,SqL K H a xs/\xs.length<=i⟩
def ON(K:hH)(a:Addr):It :=
 ⟨λi H=>∃xs x,SqT K H a xs/\xs[i]?=J x,λi H x f=>f=H/\∀xs,SqT K H a xs->xs[i]?=J x,λi H=>∃xs,SqT K H a xs/\xs.length<=i⟩
def K9(lo:Int)(n:Nat):It:=⟨λi _=>i<n,λi H x a=>a=H/\x=.int (lo+i),λi _=>n<=i⟩
def xK{P:Program}{w:World}{K:hH}{tg:Expr}(a j:Addr):AE P w K tg (Mn K a) [j] j (λi h=>h.IsListIter j a i) where
 mem:=by simp
 obj:=λi h st b l=>by
  have e:b=j:=by simpa using l
  subst e;obtain⟨o,e,c,d⟩:=st;exact⟨o,e,λv z=>by rw[d]at z;cases z⟩
 keep:=λi h h' st k=>st.at λo e=>k j (by simp) o e
 item:=by intro X F hw M W i JB s Z H E f hf st hg;subst F hw M;obtain⟨xs,x,B,O⟩:=hg;obtain⟨R,U,p,hz⟩:=f.list B;obtain⟨u,hu,ru⟩:=U.get O;obtain⟨S,G,f2,Q,L,C⟩:=hf j (by simp);refine wpAny_pyNext_list_item st p.isList (by simpa using hu) λh' y sb=>?_;have I1:=f.turned (t':=s.toks) (λb o l e=>(sb.2 b l).trans e) S G Q L C;obtain⟨o,e,c,d⟩:=id y;exact⟨u,rfl,qO e c d (by decide) ⟨x,H,I1,ru,⟨rfl,λys hy=>by rw[f.list_inj hy B];exact O⟩,y,λb l=>(hf b l).1⟩⟩
 done:=by intro X F hw M W i JB s Z H E f hf st hg;subst F hw M;obtain⟨xs,B,O⟩:=hg;obtain⟨R,U,p,hz⟩:=f.list B;obtain⟨S,G,f2,Q,L,C⟩:=hf j (by simp);have hl:=U.length;exact wpAny_pyNext_list_end (f.ok.hd W) st p.isList (by simp;lia) λh' eb=>⟨rfl,f.turned (t':=s.toks) (λb o l e=>eb b o l e) S G Q L C⟩
 self:=λ_ _ _ _ _ st h=>wpAny_pyIter_listiter st h
def vd{P:Program}{w:World}{K:hH}{tg:Expr}(a j:Addr):AE P w K tg (ON K a) [j] j (λi h=>h.IsTupleIter j a i) where
 mem:=by simp
 obj:=λi h st b l=>by
  have e:b=j:=by simpa using l
  subst e;obtain⟨o,e,c,d⟩:=st;exact⟨o,e,λv z=>by rw[d]at z;cases z⟩
 keep:=λi h h' st k=>st.at λo e=>k j (by simp) o e
 item:=by intro X F hw M W i JB s Z H E f hf st hg;subst F hw M;obtain⟨xs,x,B,O⟩:=hg;obtain⟨R,U,p,hz⟩:=f.tuple B;obtain⟨u,hu,ru⟩:=U.get O;obtain⟨S,G,f2,Q,L,C⟩:=hf j (by simp);refine wpAny_pyNext_tuple_item st (p) (by simpa using hu) λh' y sb=>?_;have I1:=f.turned (t':=s.toks) (λb o l e=>(sb.2 b l).trans e) S G Q L C;obtain⟨o,e,c,d⟩:=id y;exact⟨u,rfl,qO e c d (by decide) ⟨x,H,I1,ru,⟨rfl,λys hy=>by rw[f.tuple_inj hy B];exact O⟩,y,λb l=>(hf b l).1⟩⟩
 done:=by intro X F hw M W i JB s Z H E f hf st hg;subst F hw M;obtain⟨xs,B,O⟩:=hg;obtain⟨R,U,p,hz⟩:=f.tuple B;obtain⟨S,G,f2,Q,L,C⟩:=hf j (by simp);have hl:=U.length;exact wpAny_pyNext_tuple_end (f.ok.hd W) st (p) (by simp;lia) λh' eb=>⟨rfl,f.turned (t':=s.toks) (λb o l e=>eb b o l e) S G Q L C⟩
 self:=λ_ _ _ _ _ st h=>wpAny_pyIter_tupleiter st h
def vM{P:Program}{w:World}{K:hH}{R:Expr}(f:Addr)(lo:Int)(n:Nat):AE P w K R (K9 lo n) [f] f (λi h=>IsRangeIter h f (lo+(i:Nat)*1) ((n:Int)-(i:Nat)) 1) where
 mem:=by simp
 obj:=λi h st b j=>by
  have e:b=f:=by simpa using j
  subst e
  exact⟨_,st,λv z=>by
   have U:=z
   cases U⟩
 keep:=λi h L st k=>k f (by simp) _ st
 item:=by intro X O hw Q F i M s Z H E a hf st hg;subst O hw Q;obtain⟨G,y,f2,C,B,u⟩:=hf f (by simp);have W:=Walks.range (prog:=X.prog) (w:=X.w) (a.ok.hd F) f lo 1 n;refine W.item i s _ _ hg st λv L tk hv l kk=>?_;obtain⟨t,rfl⟩:=hv;have I1:Inv X M Z H { s with heap:=L,toks:=tk}:=a.turned (λb o j e=>kk b o (by simpa using j) e) G y C B u;refine⟨_,rfl,qO l rfl rfl (by decide) ⟨.int (lo+i),H,I1,⟨t,?_⟩,⟨rfl,rfl⟩,l,λb j=>(hf b j).1⟩⟩;rw[Int.mul_one]
 done:=by intro X O hw Q F i M s Z H E a hf st hg;obtain⟨G,y,f2,C,B,u⟩:=hf f (by simp);exact wpAny_pyNext_range_end (a.ok.hd F) st (by have:n<=i:=hg;lia) λL S=>⟨rfl,a.turned (t':=s.toks) (λb o j e=>S b o j e) G y C B u⟩
 self:=λ_ _ _ _ _ st h=>wpAny_pyIter_rangeiter st h
section
variable{X:Cx}{tg:Expr}
def Il(K:hH)(tl:TE):TI:=λZ H R=>tl Z H λx f=>∃a,x=.ref a/\(∃xs,SqL K f a xs)/\R (Mn K a) f
def Mo(K:hH)(tl:TE):TI:=λZ H R=>tl Z H λx f=>∃a,x=.ref a/\(∃xs,SqT K f a xs)/\R (ON K a) f
def BI{l:Expr}{tl:TE}(hl:PE X l tl):PI X tg l (Il X.K tl):=by
 intro u s Z H R j h;refine j_ (hl u s Z H _ j h) λv f ⟨x,E,i,z,y⟩=>?_;obtain⟨a,e,⟨xs,F⟩,q⟩:=y;subst e;cases z;obtain⟨B,L,p,G⟩:=i.list F;refine wpAny_pyIter_list p.isList ?_;refine⟨f.heap.objs.size,[f.heap.objs.size],_,_,E,rfl,i.kept (t':=f.toks) λb o e=>n3 _ e,xK a _,⟨_,wr _ rfl,rfl,rfl⟩,λb C=>?_,q⟩;have e:b=f.heap.objs.size:=by simpa using C
 subst e;exact i.fpOk (mu _) (i.hok.fresh (mu _))
def ET{l:Expr}{tl:TE}(hl:PE X l tl):PI X tg l (Mo X.K tl):=by
 intro u s Z H R j h;refine j_ (hl u s Z H _ j h) λv f ⟨x,E,i,z,y⟩=>?_;obtain⟨a,e,⟨xs,F⟩,q⟩:=y;subst e;cases z;obtain⟨B,L,p,G⟩:=i.tuple F;refine wpAny_pyIter_tuple (p) ?_;refine⟨f.heap.objs.size,[f.heap.objs.size],_,_,E,rfl,i.kept (t':=f.toks) λb o e=>n3 _ e,vd a _,⟨_,wr _ rfl,rfl,rfl⟩,λb C=>?_,q⟩;have e:b=f.heap.objs.size:=by simpa using C
 subst e;exact i.fpOk (mu _) (i.hok.fresh (mu _))
def yD{f:QT}{Z:St}{H:Hp}{s:Shared}{R:It->Hp->Prop}{E:QZ}{lo a:Int}{t u v:Tok}{tk:Nat}(j:Inv X f Z H s)(B:-(2^62)<=lo)(z:lo<2^62)(l:-(2^62)<=a)(y:a<2^62)(q:R (K9 lo (a-lo).toNat) H):wpAny (model X.prog X.w) X.A (pyIter (.ref s.heap.objs.size)) (Mm X f Z tg R) E { s with heap:=s.heap.push { cls:=.type "range",data:=.fields #[.int lo t,.int a u,.int 1 v]},toks:=tk}:=by
 refine wpAny_pyIter_range (IsRange.new ..) (small_one B z l y) ?_;have i:Inv X f Z H { s with heap:=s.heap.push { cls:=.type "range",data:=.fields #[.int lo t,.int a u,.int 1 v]},toks:=tk}:=j.kept λb o e=>n3 _ e
 refine⟨(s.heap.push { cls:=.type "range",data:=.fields #[.int lo t,.int a u,.int 1 v]}).objs.size,[(s.heap.push { cls:=.type "range",data:=.fields #[.int lo t,.int a u,.int 1 v]}).objs.size],_,_,H,rfl,
  i.kept (t':=tk) λb o e=>n3 _ e,vM _ lo (a-lo).toNat,?_,λb C=>?_,q⟩
 .have e1:lo+((0:Nat):Int)*1=lo:=by simp
  have e2:(((a-lo).toNat:Nat):Int)-((0:Nat):Int)=Builtin.Range.rangeSize lo a 1:=by rw[rangeSize_one];split<;>lia
  rw[e1,e2];exact wr _ rfl
 .have e:b=(s.heap.push { cls:=.type "range",data:=.fields #[.int lo t,.int a u,.int 1 v]}).objs.size:=by simpa using C
  subst e;exact i.fpOk (mu _) (i.hok.fresh (mu _))
def Im(f:TA):TI:=λZ H R=>f Z H λa i=>∃j:Int,a=[.int j] /\ -(2^62)<=j/\j<2^62/\R (K9 0 j.toNat) i
def xy{a:Expr}{u:TA}{p i:Pos}(hg:Gl X "range")(B:X.mg "range"=Y)(G:PA X [a] u)(y:starEach [a] X.env=[(T,eval a X.env)]:=by rfl):PI X tg (.Call (.Name "range" p) [a] [] i) (Im u):=by
 intro z s Z H R f h;refine Call_ (gy f hg B boot_range (PyProof.Rows.callWith_type1 (j_ (G i z s Z H _ f h) λM O ⟨P,Q,L,E,l⟩=>?_) y rfl));obtain⟨j,e,l,C,q⟩:=l;subst e
 cases E with
 |cons r F =>
  cases F;obtain⟨t,rfl⟩:=r;exact call_range_1 (yD L ⋯ ⋯ l C (by simpa using q))
def Mp(u:TI)(g:TG)(z:TS):TS:=λD Z H=>u Z H λa B=>∃W:Nat->Nat->St->Hp->Prop,(∃m,W 0 m Z B)/\∀i m Z H,W i m Z H ->
 (a.stop i H/\D.nx Z H)\/(a.go i H/\∃N:St->Hp->Prop,(∀j f,N j f->∃l,l<m/\W (i+1) l j f)/\∀x f,a.yld i H x f->g x Z f λC y=>z { D with nx:=N,ct:=N,bk:=D.nx} C y)
def lh(a:QR)(h:Heap):QT:=a.filterMap λb=>(h.get? b).map λo=>(b,o)
def hJ(a:b∈fp)(e:h.get? b=J o):(b,o)∈lh fp h:=LY.mpr ⟨b,a,by rw[e];rfl⟩
def ym(a:p∈lh fp h):p.1∈fp/\h.get? p.1=J p.2:=by
 obtain⟨b,f,e⟩:=LY.mp a
 cases q:h.get? b with
 |none=>rw[q]at e;cases e
 |some o =>
  rw[q]at e;have i:=Option.some.inj e;subst i;exact⟨f,q⟩
def Inv.pinned{f:QT}{Z:St}{H:Hp}{s:Shared}{i:QR}(a:Inv X f Z H s)(hf:∀b∈i,ij X f H b)(l:∀b∈i,∃o,s.heap.get? b=J o/\∀v,o.data≠.cell v):Inv X (f++lh i s.heap) Z H s :=
 a.pins_of λp u=>(Dx.mp u).elim (λz=>a.pin p (vn _ z)) λz=>by
  obtain⟨j,e⟩:=ym z;obtain⟨B,y,E,_⟩:=hf p.1 j;obtain⟨o,C,d⟩:=l p.1 j
  simp_all
def Inv.unpinned{JB pl:QT}{Z:St}{H:Hp}{s:Shared}(a:Inv X (JB++pl) Z H s):Inv X JB Z H s:=a.pins_of λp f=>a.pin p (vn _ (Hd _ f))
def EU(O:PassesOwn (model X.prog X.w) X.A X.env X.xe)(hc:X.calm=I)(hi:PI X tg iter wi)(hg:PG X tg g)(y:PSs X body tb)(hs:∀x,foldedSetIterable iter X.env x=pure x:=by intro _;rfl):PS X (.For tg iter body [] pos) (Mp wi g tb):=by
 intro F s Z H D ai h;refine wpAny_For (j_ (hi F s Z H _ ai h) λv s1 h1=>j_ h1 λap s2 h2=>?_) hs;obtain⟨it,S,tn,an,H2,e,I2,l,ak,f2,W,⟨m0,w0⟩,turn⟩:=h2;subst e;have B:∀{C:Hp},(∀b∈S,C b=Y)->∀b∈S,ij X F C b:=λhn b y=>⟨hn b y,(f2 b y).2⟩;refine codeAny_forLoop_any (λn s'=>∃i R C,Inv X F R C s'/\tn i s'.heap/\(∀b∈S,C b=Y)/\W i n R C) ?_ m0 ⟨0,Z,H2,I2,ak,λb y=>(f2 b y).1,w0⟩;rintro n s3 ⟨i,L,U,I3,Q,M,w3⟩;rcases turn i n L U w3 with⟨stop,qn⟩|⟨go,N,hN,step⟩
 .refine wpAny_passesOwn O (j_ (l.done X rfl rfl rfl hc i F s3 L U X.xe I3 (B M) Q stop) λr s4 ⟨hr,I4⟩=>?_);subst hr;exact wpAny_execs_nil ⟨L,U,I4,qn⟩
 .refine wpAny_passesOwn O (j_ (l.item X rfl rfl rfl hc i F s3 L U X.xe I3 (B M) Q go) λr s4 ⟨u,hr,h4⟩=>?_);subst hr;refine wpAny_passesOwn O (j_ h4 λ_ s5 ⟨x,H5,I5,r5,y5,G,ab⟩=>?_);have al:=I5.pinned (B ab) (l.obj _ _ G);refine wpAny_passesOwn O (j_ (hg _ s5 L H5 x u _ al r5 (step x H5 y5)) λ_ s6 ⟨Z6,H6,I6,q6⟩=>?_);refine wpAny_passesOwn O (j_ (y _ s6 Z6 H6 _ I6 q6) λf s7 E=>?_);have again:∀{z:St}{j:Hp},Inv X (F++lh S s5.heap) z j s7->N z j->∃m,m<n/\∃i R C,Inv X F R C s7/\tn i s7.heap/\(∀b∈S,C b=Y)/\W i m R C:=λ{z j} a P=>by
   obtain⟨m',hm,w7⟩:=hN z j P;refine⟨m',hm,i+1,z,j,a.unpinned,l.keep _ _ _ G λb y o e=>(a.pin (b,o) (vn _ (vn _ (hJ y e)))).1,λb y=>?_,w7⟩;obtain⟨o,e,d⟩:=l.obj _ _ G b y;exact(a.pin (b,o) (vn _ (vn _ (hJ y e)))).2.1
  cases f with
  |next=>obtain⟨z,j,a,P⟩:=E;exact again a P
  |cont=>obtain⟨z,j,a,P⟩:=E;exact again a P
  |brk=>obtain⟨z,j,a,E⟩:=E;exact⟨z,j,a.unpinned,E⟩
  |ret v=>obtain⟨x7,z,j,a,r7,E⟩:=E;exact⟨x7,z,j,a.unpinned,r7,E⟩
end
abbrev R2:=V->V->Hp->VK->Prop
def OpR(X:Cx)(f:Value->Value->Sem Value)(r:R2):Prop :=
 ∀(a:QT)(s:Shared)(Z:St)(H:Hp)(x y:V)(v u:Value)(Q:VK),Inv X a Z H s->aO x v->aO y u->r x y H Q ->
  wpAny (model X.prog X.w) X.A (f v u) (EP X a Z Q) X.xe s
def K_(X:Cx)(f:Value->Sem Value)(r:V->Hp->VK->Prop):Prop :=
 ∀(a:QT)(s:Shared)(Z:St)(H:Hp)(x:V)(v:Value)(Q:VK),Inv X a Z H s->aO x v->r x H Q ->
  wpAny (model X.prog X.w) X.A (f v) (EP X a Z Q) X.xe s
def cU(X:Cx)(f:Value)(r:List V->Hp->VK->Prop):Prop :=
 ∀(i:QT)(s:Shared)(Z:St)(H:Hp)(xs:List V)(a:QS)(Q:VK),Inv X i Z H s->aK xs a->r xs H Q ->
  wpAny (model X.prog X.w) X.A (call f a) (EP X i Z Q) X.xe s
def Mq(X:Cx)(r:V->Hp->(Bool->Hp->Prop)->Prop):Prop :=
 ∀(a:QT)(s:Shared)(Z:St)(H:Hp)(x:V)(v:Value)(Q:Bool->Hp->Prop),Inv X a Z H s->aO x v->r x H Q ->
  wpAny (model X.prog X.w) X.A (truthy v) (TP X a Z Q) X.xe s
def Io(r:R2)(i a:TE):TE:=λZ H Q=>i Z H λx j=>a Z j λy f=>r x y f Q
def PY(r:V->Hp->VK->Prop)(a:TE):TE:=λZ H Q=>a Z H λx f=>r x f Q
def rI(C:Int->Int->Prop)(g:Int->Int->V):R2:=λx y H Q=>∃i j,x=.int i/\y=.int j/\C i j/\Q (g i j) H
def BJ(g:Int->Int->V):R2:=λx y H Q=>∃i j,x=.int i/\y=.int j/\Q (g i j) H
def rU(g:Int->V):V->Hp->VK->Prop:=λx H Q=>∃i,x=.int i/\Q (g i) H
section
variable{X:Cx}{a b c:Expr}{ta tb tc:TE}{pos:Pos}
def EV(U:PE X a ta)(S:PE X b tb){z:QT}{s:Shared}{Z:St}{H:Hp}{R:V->V->Hp->Prop}(E:Inv X z Z H s)(h:ta Z H λx C=>tb Z C λy i=>R x y i){Q:QZ}{f:Value->Value->Sem Value}(hf:∀v u B x y i,Inv X z Z i B->aO x v->aO y u->R x y i->wpAny (model X.prog X.w) X.A (f v u) Q X.xe B):
  wpAny (model X.prog X.w) X.A (eval a X.env) (λv j=>wpAny (model X.prog X.w) X.A (eval b X.env) (λu l=>wpAny (model X.prog X.w) X.A (f v u) Q X.xe l) X.xe j) X.xe s:=by
 refine j_ (U z s Z H _ E h) λv G ⟨x,C,W,P,M⟩=>?_;refine j_ (S z G Z C _ W M) λu B ⟨y,i,F,O,L⟩=>?_;exact hf v u B x y i F P O L
def Ip{i:Operator}{r:R2}(l:OpR X (binaryOp i) r)(L:PE X a ta)(G:PE X b tb):PE X (.BinOp a i b pos) (Io r ta tb):=by intro B s Z H Q f h;exact wpAny_BinOp (EV L G f h λv u C x y E j z F q=>l B C Z E x y v u Q j z F q)
def Iq(j:K_ X (unaryOp op) r)(z:PE X a ta):PE X (.UnaryOp op a pos) (PY r ta):=by intro i s Z H Q f h;exact UnaryOp_ (j_ (z i s Z H _ f h) λv u ⟨x,C,l,y,B⟩=>j i u Z C x v Q l y B)
def PZ{f:Value->Value->Sem Value}{C:Int->Int->Prop}{g:Int->Int->Int}(rule:∀(i j:Int)(t u:Tok)(s:Shared)(Q:QZ)(E:QZ),C i j->Q (.int (g i j) s.toks) { s with toks:=s.toks+1}->wpAny (model X.prog X.w) X.A (f (.int i t) (.int j u)) Q E s):
  OpR X f (rI C λi j=>.int (g i j)):=by
 intro L s Z H x y v u Q l B F h;obtain⟨i,j,rfl,rfl,G,q⟩:=h;obtain⟨t,rfl⟩:=B;obtain⟨z,rfl⟩:=F;exact rule i j t z s _ _ G ⟨.int (g i j),H,l.tok _,⟨_,rfl⟩,q⟩
def Ir{f:Value->Value->Sem Value}{g:Int->Int->Int}(rule:∀(i j:Int)(t u:Tok)(s:Shared)(Q:QZ)(E:QZ),Q (.int (g i j) s.toks) { s with toks:=s.toks+1}->wpAny (model X.prog X.w) X.A (f (.int i t) (.int j u)) Q E s):
  OpR X f (BJ λi j=>.int (g i j)):=by
 intro F s Z H x y v u Q l B C h;obtain⟨i,j,rfl,rfl,q⟩:=h;obtain⟨t,rfl⟩:=B;obtain⟨z,rfl⟩:=C;exact rule i j t z s _ _ ⟨.int (g i j),H,l.tok _,⟨_,rfl⟩,q⟩
def BK{f:Value->Value->Sem Value}{g:Int->Int->Bool}(rule:∀(i j:Int)(t u:Tok)(s:Shared)(Q:QZ)(E:QZ),Q (.bool (g i j)) s->wpAny (model X.prog X.w) X.A (f (.int i t) (.int j u)) Q E s):
  OpR X f (BJ λi j=>.bl (g i j)):=by
 intro F s Z H x y v u Q l B C h;obtain⟨i,j,rfl,rfl,q⟩:=h;obtain⟨t,rfl⟩:=B;obtain⟨z,rfl⟩:=C;exact rule i j t z s _ _ ⟨.bl (g i j),H,l,rfl,q⟩
def fW(i j:Int):Prop:=0<=j/\j<=1000000/\i.natAbs<2^64
def EW:OpR X (binaryOp .Add) (BJ λi j=>.int (i+j)):=Ir λ_ _ _ _ _ _ _ q=>add_int q
def EX:OpR X (binaryOp .Sub) (BJ λi j=>.int (i-j)):=Ir λ_ _ _ _ _ _ _ q=>sub_int q
def EY:OpR X (binaryOp .Pow) (rI fW λi j=>.int (i^j.toNat)):=PZ λ_ _ _ _ _ _ _ f q=>pow_int_small f.1 f.2.1 f.2.2 q
def P0{f:Value->Sem Value}{g:Int->Int}(rule:∀(i:Int)(t:Tok)(s:Shared)(Q:QZ)(E:QZ),Q (.int (g i) s.toks) { s with toks:=s.toks+1}->wpAny (model X.prog X.w) X.A (f (.int i t)) Q E s):
  K_ X f (rU λi=>.int (g i)):=by
 intro u s Z H x v Q j l h;obtain⟨i,rfl,q⟩:=h;obtain⟨t,rfl⟩:=l;exact rule i t s _ _ ⟨.int (g i),H,j.tok _,⟨_,rfl⟩,q⟩
def EZ:K_ X (unaryOp .USub) (rU λi=>.int (-i)):=P0 λ_ _ _ _ _ q=>neg_int q
def E0{i:QT}{Z:St}{H:Hp}{s:Shared}{Q:VK}{k j:Bool}(f:Inv X i Z H s)(q:Q (.bl k) H)(e:k=j):EP X i Z Q (.bool j) s:=by subst e;exact⟨.bl k,H,f,rfl,q⟩
def Iu:OpR X (compareOp .Lt) (BJ λi j=>.bl (decide (i<j))):=BK λ_ _ _ _ _ _ _ q=>lt_int q
def Iv:OpR X (compareOp .LtE) (BJ λi j=>.bl (decide (i<=j))):=BK λ_ _ _ _ _ _ _ q=>le_int q
def Iw:OpR X (compareOp .Gt) (BJ λi j=>.bl (decide (j<i))):=BK λ_ _ _ _ _ _ _ q=>gt_int q
def Ix:OpR X (compareOp .GtE) (BJ λi j=>.bl (decide (j<=i))):=BK λ_ _ _ _ _ _ _ q=>ge_int q
def E1:OpR X (compareOp .Is) (λx y H Q=>y=.non/\Q (.bl (decide (x=.non))) H):=by
 intro l s Z H x y v u Q f i j h;obtain⟨rfl,q⟩:=h;cases j;refine is_none_gen (E0 f q ?_);cases x<;>first
  |(obtain⟨t,rfl⟩:=i;rfl)
def AF(b:Expr)(h:op≠.In:=by decide)(f:op≠.NotIn:=by decide):behindInMarks op b=T:=by
 have e1:(op==CmpOp.In)=T:=by cases op<;>first | rfl | exact absurd rfl h
 have e2:(op==CmpOp.NotIn)=T:=by cases op<;>first | rfl | exact absurd rfl f
 cases b<;>simp[behindInMarks,e1,e2]
def BL{f:CmpOp}{r:R2}(l:OpR X (compareOp f) r)(M:PE X a ta)(L:PE X b tb)(E:behindInMarks f b=T):PE X (.Compare a [f] [b] pos) (Io r ta tb):=by intro B s Z H Q i h;exact wpAny_Compare1 (EV M L i h λv u C x y F j z G q=>l B C Z F x y v u Q j z G q) E
def Iy(t:TE):TT:=λZ H Q=>t Z H λx f=>∃k,x=.bl k/\Q k f
def BM(l:OpR X (compareOp op) r)(U:PE X a ta)(S:PE X b tb)(C:behindInMarks op b=T):PT X (.Compare a [op] [b] pos) (Iy (Io r ta tb)):=by
 intro f s Z H Q i h
 refine wpAny_isTrue_Compare1 (j_ (U f s Z H _ i h) λv F ⟨x,W,I1,P,L⟩=>j_ (S f F Z W _ I1 L) λu B ⟨y,R,j,M,G⟩ =>
  j_ (l f B Z R x y v u _ j P M G) λc s3 ⟨z,H3,E,r3,k,e,O⟩=>?_) C
 subst e;cases r3;exact wpAny_truthy_bool ⟨H3,E,O⟩
def wK(r i:R2)(ta tb tc:TE):TE:=λZ H Q=>ta Z H λx u=>tb Z u λy l=>r x y l λz f=>∃k,z=.bl k /\
 (if k=I then tc Z f λB j=>i y B j Q else Q (.bl T) f)
def yG(G:OpR X (compareOp op) r)(i:OpR X (compareOp op') r')(ha:PE X a ta)(hb:PE X b tb)(hc:PE X c tc)(M:lastMarks [op,op'] [b,c]=T:=by with_unfolding_all rfl):PE X (.Compare a [op,op'] [b,c] pos) (wK r r' ta tb tc):=by
 intro f s Z H Q j h
 refine Compare_chain (j_ (ha f s Z H _ j h) λv O ⟨x,H1,I1,r1,R⟩=>chain_link (j_ (hb f O Z H1 _ I1 R) λu L ⟨y,H2,F,B,P⟩ =>
  j_ (G f L Z H2 x y v u _ F r1 B P) λd W ⟨z,E,l,r3,k,e,C⟩=>?_)) M
 subst e;cases r3;refine wpAny_truthy_bool ?_
 cases k with
 |false=>exact ite_ff ⟨.bl T,E,l,rfl,C⟩
 |true=>exact ite_tt (chain_last (j_ (hc f W Z E _ l C) λw' s4 ⟨z',H4,I4,S,U⟩=>i f s4 Z H4 y z' u w' Q I4 B S U))
def Iz(K:hH)(x:V)(H:Hp)(k:Bool):Prop :=
 match x with
 |.non=>k=T
 |.bl b=>k=b
 |.int i=>k=(i != 0)
 |.str y=>y.length<=sizeLine/\k=((y.length:Int) != 0)
 |.byt y=>y.size<=sizeLine/\k=((y.size:Int) != 0)
 |.ref p=>(∃xs,SqL K H p xs/\k=!xs.isEmpty)\/(∃xs,SqT K H p xs/\k=!xs.isEmpty)\/∃f,H p=J (.dK f)/\k=!f.isEmpty
 |_=>False
def vw{κ:Type}{f:List (κ×V)}{i:List (κ×Value)}(r:KV f i):(!i.isEmpty)=!f.isEmpty:=by cases r<;>rfl
def nZ(r:aK xs its):(!its.toArray.isEmpty)=!xs.isEmpty:=by cases r<;>simp
def nB:(sizeLine:Nat)<2^63:=by rw[sizeLine_eq];decide
def rA:Mq X (λx H Q=>∃k,Iz X.K x H k/\Q k H):=by
 intro O s Z H x v Q f z h;obtain⟨k,e,q⟩:=h;have P:sizeLine=16777216:=sizeLine_eq
 cases x with
 |non =>
  cases z;have j:k=T:=e;subst j;exact truthy_none ⟨H,f,q⟩
 |bl b =>
  cases z;have j:k=b:=e;subst j;exact wpAny_truthy_bool ⟨H,f,q⟩
 |int i =>
  obtain⟨t,rfl⟩:=z;have j:k=(i != 0):=e;subst j;exact PySem.P.truthy_int ⟨H,f,q⟩
 |str y =>
  obtain⟨t,rfl⟩:=z;obtain⟨M,j⟩:y.length<=sizeLine/\k=((y.length:Int) != 0):=e;subst j;exact PySem.P.truthy_str ⋯ ⟨H,f.tok _,q⟩
 |byt y =>
  obtain⟨t,rfl⟩:=z;obtain⟨M,j⟩:y.size<=sizeLine/\k=((y.size:Int) != 0):=e;subst j;exact PySem.W.truthy_bytes ⋯ ⟨H,f.tok _,q⟩
 |ref p =>
  cases z;have j:(∃xs,SqL X.K H p xs/\k=!xs.isEmpty)\/(∃xs,SqT X.K H p xs/\k=!xs.isEmpty)\/∃l,H p=J (.dK l)/\k=!l.isEmpty:=e;rcases j with⟨xs,B,j⟩|⟨xs,B,j⟩|⟨l,B,j⟩
  .subst j;obtain⟨E,r,F,G⟩:=f.list B;have u:=r.length;exact wpAny_truthy_list F.isList (by simp only[yU];lia) ⟨H,f.tok _,by rw[nZ r];exact q⟩
  .subst j;obtain⟨E,r,F,G⟩:=f.tuple B;have u:=r.length;exact truthy_tuple F (by simp only[yU];lia) ⟨H,f.tok _,by rw[nZ r];exact q⟩
  .subst j;obtain⟨G,L,C,r,m⟩:l.length<=sizeLine/\(p==sysModules)=T/\∃C,KV l C/\s.heap.DictOf (eY X.prog X.w) p C:=f.hok p _ B;have u:l.length=C.length:=Paired.length r;exact wpAny_truthy_dict L m ⋯ ⟨H,f.tok _,by rw[vw r];exact q⟩
 |_=>exact(show False from e).elim
def zQ(C:PE X a ta)(B:∀f,isTrue a X.env f=(do let v <-f;standAt a.pos;holding [v] (truthy v))):
  PT X a (λZ H Q=>ta Z H λx l=>∃k,Iz X.K x l k/\Q k l):=by
 intro j s Z H Q i h;exact isTrue_plain (j_ (C j s Z H _ i h) λv u ⟨x,E,F,z,y⟩=>rA j u Z E x v Q F z y) (B _)
def vk:OpR X (binaryOp .Add) (λx y H Q=>∃i j,x=.str i/\y=.str j/\i.length+j.length<=sizeLine/\Q (.str (i++j)) H):=by intro E s Z H x y v u Q f z C h;obtain⟨i,j,rfl,rfl,B,q⟩:=h;obtain⟨t,rfl⟩:=z;obtain⟨l,rfl⟩:=C;exact add_str (λl tk=>⟨.str (i++j),H,f.tok _,⟨_,rfl⟩,q⟩) B
def gN(r:aK [x] us):∃u,us=[u]/\aO x u:=by
 cases r with
 |cons f i=>cases i;exact⟨_,rfl,f⟩
def vals2(r:aK [x,y] us):∃u f,us=[u,f]/\aO x u/\aO y f:=by
 cases r with
 |cons i z =>
  cases z with
  |cons j l=>cases l;exact⟨_,_,rfl,i,j⟩
def zW:cU X (.builtin "abs") (λxs H Q=>∃i,xs=[.int i]/\Q (.int (if i<0 then -i else i)) H):=by intro l s Z H xs j Q f r h;obtain⟨i,rfl,q⟩:=h;obtain⟨u,rfl,t,rfl⟩:=gN r;exact call_abs_int λu tk=>⟨.int (if i<0 then -i else i),H,f.tok _,⟨_,rfl⟩,q⟩
def wJ(y:X.calm=I):cU X (.builtin "max") (λxs H Q=>∃i j,xs=[.int i,.int j]/\Q (.int (if j>i then j else i)) H):=by
 intro C s Z H xs B Q f r h;obtain⟨i,j,rfl,q⟩:=h;obtain⟨u,E,rfl,⟨t,rfl⟩,⟨z,rfl⟩⟩:=vals2 r;refine max_two_ints (f.ok.hd y) λF tk k=>⟨_,H,f.kept k,?_,q⟩;by_cases l:j>i
 .rw[e_ l,e_ l];exact⟨_,rfl⟩
 .rw[hI l,hI l];exact⟨_,rfl⟩
def xQ(y:X.calm=I):cU X (.builtin "min") (λxs H Q=>∃i j,xs=[.int i,.int j]/\Q (.int (if j<i then j else i)) H):=by
 intro C s Z H xs B Q f r h;obtain⟨i,j,rfl,q⟩:=h;obtain⟨u,E,rfl,⟨t,rfl⟩,⟨z,rfl⟩⟩:=vals2 r;refine min_two_ints (f.ok.hd y) λF tk k=>⟨_,H,f.kept k,?_,q⟩;by_cases l:j<i
 .rw[e_ l,e_ l];exact⟨_,rfl⟩
 .rw[hI l,hI l];exact⟨_,rfl⟩
def pW:cU X (.type "int") (λxs H Q=>(∃i,xs=[.int i]/\Q (.int i) H)\/∃k,xs=[.bl k]/\Q (.int (if k then 1 else 0)) H):=by
 intro y s Z H xs l Q f r h;rcases h with⟨i,rfl,q⟩|⟨k,rfl,q⟩
 .obtain⟨u,rfl,t,rfl⟩:=gN r;exact call_int_int ⟨.int i,H,f,⟨_,rfl⟩,q⟩
 .obtain⟨u,rfl,j⟩:=gN r;cases j;exact call_int_bool ⟨.int (if k then 1 else 0),H,f.tok _,⟨_,rfl⟩,q⟩
def Mr(K:hH)(x:V)(H:Hp)(n:Nat):Prop :=
 match x with
 |.str y=>y.length<=sizeLine/\n=y.length
 |.byt y=>y.size<=sizeLine/\n=y.size
 |.ref p=>(∃xs,SqL K H p xs/\n=xs.length)\/∃xs,SqT K H p xs/\n=xs.length
 |_=>False
def kj:cU X (.builtin "len") (λxs H Q=>∃x n,xs=[x]/\Mr X.K x H n/\Q (.int n) H):=by
 intro M s Z H xs L Q f r h;obtain⟨x,n,rfl,e,q⟩:=h;obtain⟨u,rfl,z⟩:=gN r;have O:=sizeLine_eq
 cases x with
 |str y =>
  obtain⟨t,rfl⟩:=z;obtain⟨G,j⟩:=e;subst j;exact len_str ⋯ ⟨.int _,H,f.tok _,⟨_,rfl⟩,q⟩
 |byt y =>
  obtain⟨t,rfl⟩:=z;obtain⟨G,j⟩:=e;subst j;exact PySem.W.len_bytes ⋯ ⟨.int _,H,f.tok _,⟨_,rfl⟩,q⟩
 |ref p =>
  cases z;have j:=e;rcases j with⟨xs,B,j⟩|⟨xs,B,j⟩
  .subst j;obtain⟨C,l,E,F⟩:=f.list B;have i:=l.length;exact Calls.call_len_list E.isList (by simp only[yU];lia) ⟨.int xs.length,H,f.tok _,⟨_,by simp only[yU];rw[i]⟩,q⟩
  .subst j;obtain⟨C,l,E,F⟩:=f.tuple B;have i:=l.length;exact len_tuple E (by simp only[yU];lia) ⟨.int xs.length,H,f.tok _,⟨_,by simp only[yU];rw[i]⟩,q⟩
 |_=>exact(e).elim
end
def gE.some_of(r:gE (J v) o):∃u,o=J u/\aO v u:=by
 cases o with
 |none=>exact(r).elim
 |some u=>exact⟨u,rfl,r⟩
def gE.none_of(r:gE Y o):o=Y:=by
 cases o with
 |none=>rfl
 |some u=>exact(show False from r).elim
structure Room(k:Nat)(A:Around):Prop where
 hd:A.handled=Y
 dp:A.depth+3*k+105<recursionLimit
 un:A.units+16*k+200<cLine
 gd:A.guards=J []
def Room.mono(r:Room k A)(h:j<=k):Room j A:=⟨r.hd,by have:=r.dp;lia,by have:=r.un;lia,r.gd⟩
def Room.deeper(r:Room (k+1) A)(env:Env):Room k (A.deeper env) :=
 ⟨r.hd,by have:=r.dp;show A.depth+1+3*k+105<_;lia,by have:=r.un;show A.units+3+16*k+200<_;lia,r.gd⟩
def v6{A:Around}{C:Addr}{a:QS}{f:List (Str×Value)}:(A.under (.builtin "type.__call__" ⟨.ref C::a,f⟩)).depth=A.depth+1:=rfl
def vB{A:Around}{C:Addr}{a:QS}{f:List (Str×Value)}:(A.under (.builtin "type.__call__" ⟨.ref C::a,f⟩)).units=A.units+1:=rfl
def Room.make(r:Room (k+1) A)(C:Addr)(a:QS)(f:List (Str×Value)):Room k (A.under (.builtin "type.__call__" ⟨.ref C::a,f⟩)) :=
 ⟨r.hd,by have:=r.dp;rw[v6];lia,by have:=r.un;rw[vB];lia,r.gd⟩
def Room.depth(r:Room k A):A.depth<recursionLimit:=by have:=r.dp;lia
def Room.units(r:Room k A):A.units+64<cLine:=by have:=r.un;lia
def IA:TA:=λ_ H Q=>Q [] H
def vt(i:TE)(a:TA):TA:=λZ H Q=>i Z H λx j=>a Z j λxs f=>Q (x::xs) f
section
variable{X:Cx}{e:Expr}{es:QW}{te:TE}{t:TA}{pos:Pos}
def jG:PA X [] IA:=λ_ _ _ _ H Q a h=>Calls.spliced_nil ⟨[],H,a,.nil,h⟩
def dC(F:PE X e te)(hr:PA X es t)(j:starEach (e::es) X.env=(T,eval e X.env)::starEach es X.env:=by rfl):PA X (e::es) (vt te t):=by intro pos f s Z H Q a h;rw[j];show wpAny _ _ (spliced ((T,eval e X.env)::backTo pos (starEach es X.env))) _ _ s;refine Calls.spliced_cons (j_ (F f s Z H _ a h) λu l ⟨x,G,L,C,z⟩=>?_);exact j_ (hr pos f l Z G _ L z) λM O ⟨xs,E,i,B,y⟩=>⟨x::xs,E,i,.cons C B,y⟩
def Ms(t:TA):TE:=λZ H Q=>t Z H λxs a=>xs.length<=sizeLine/\∀p,a p=Y->Q (.ref p) (l_ a p (.tup xs))
def Mt(t:TA):TE:=λZ H Q=>t Z H λxs a=>xs.length<=sizeLine/\∀p,a p=Y->Q (.ref p) (l_ a p (.lst xs))
def yc{x1}(h:PA X es t):PE X (.Tuple es x1 pos) (Ms t):=by intro l s Z H Q f B;refine wpAny_Tuple_spliced (j_ (h pos l s Z H _ f B) λj a ⟨xs,y,i,r,z,q⟩=>⟨by rw[<-r.length];exact z,?_⟩);have hf:=i.hok.fresh (mu _);refine⟨.ref a.heap.objs.size,l_ y a.heap.objs.size (.tup xs),i.laid (t':=a.toks) (λb u e=>n3 _ e) (mu _) ?_,rfl,q _ hf⟩;exact⟨z,j,r,⟨_,wr _ rfl,rfl,⟨_,rfl⟩,rfl⟩⟩
def E2(h:PA X es t):PE X (.List es pos) (Mt t):=by intro l s Z H Q f B;refine wpAny_List_spliced (j_ (h pos l s Z H _ f B) λj a ⟨xs,y,i,r,z,q⟩=>⟨by rw[<-r.length];exact z,?_⟩);have hf:=i.hok.fresh (mu _);refine⟨.ref a.heap.objs.size,l_ y a.heap.objs.size (.lst xs),i.laid (t':=a.toks) (λb u e=>n3 _ e) (mu _) ?_,rfl,q _ hf⟩;exact⟨z,j,0,r,wr _ rfl⟩
end
abbrev Sp:=List V->Hp->VK->XK->Prop
abbrev Be:=List Env->Hp->Shared->XK->Value->Shared->Prop
structure Env0(P:Program)(w:World)(K:hH)(mg:QA)(base:Heap)(A:Around)(outer:List Env)(s:Shared)(H:Hp):Prop where
 frames:A.frames=J outer
 mod:Mod K mg base
 bs:∀b o,base.get? b=J o->s.heap.get? b=J o/\H b=Y
 bsz:base.objs.size<=s.heap.objs.size
 funs:s.heap.FunFrames base outer
 frf:∀b∈x4 outer,H b=Y
 hok:HOk P w H s.heap
 bare:AllBare s.gens
 tree:P.given.tree=Y
inductive CE(outer:List Env)(P:Program)(w:World)(H:Hp)(s:Shared)(Q:VK)(u:Value)(s':Shared):Prop
 |mk(v:V)(H':Hp)(o:s'.os=s.os)(b:AllBare s'.gens)(n:Un (x4 outer) [] H H' s.heap s'.heap)(k:HOk P w H' s'.heap)(r:aO v u)(q:Q v H'):CE outer P w H s Q u s'
def CR(f:Be)(outer:List Env)(P:Program)(w:World)(H:Hp)(s:Shared)(Q:VK)(E:XK)(r:Result)(a:Shared):Prop :=
 match r with
 |.ok (.ret u)=>CE outer P w H s Q u a
 |.ok _=>False
 |.error e=>f outer H s E e a
structure FnOk(P:Program)(w:World)(K:hH)(mg:QA)(base:Heap)(CX:Be)(k:Nat)(f:Addr)(fd:FuncData)(ps:QM)(sp:Sp):Prop where
 len:∀vs H Q E,sp vs H Q E->vs.length=ps.length
 run:∀(A:Around)(outer:List Env)(s:Shared)(H:Hp)(args:Args)(us:QS)(vs:List V)(Q:VK)(E:XK),Room k A->Env0 P w K mg base A outer s H->BindsTo s fd args (ps.zip us)->aK vs us->sp vs H Q E ->
  codeAny (model P w) A (.call (.ref f) args) (CR CX outer P w H s Q E) s
def FnOk.mono{P:Program}{w:World}{K:hH}{mg:QA}{base:Heap}{i:Be}{j k:Nat}{f:Addr}{fd:FuncData}{u:QM}{l:Sp}(F:FnOk P w K mg base i j f fd u l)(h:j<=k):
  FnOk P w K mg base i k f fd u l:=⟨F.len,λA outer s H a y z Q E hr=>F.run A outer s H a y z Q E (hr.mono h)⟩
def FnOk.imp{P:Program}{w:World}{K:hH}{mg:QA}{base:Heap}{l:Be}{k:Nat}{f:Addr}{fd:FuncData}{y:QM}{u i:Sp}(F:FnOk P w K mg base l k f fd y u)(h:∀a H Q E,i a H Q E->u a H Q E):FnOk P w K mg base l k f fd y i :=
 ⟨λa H Q E q=>F.len a H Q E (h _ _ _ _ q),λA outer s H j z a Q E hr G C hv B=>F.run A outer s H j z a Q E hr G C hv (h _ _ _ _ B)⟩
def Env0.make{P:Program}{w:World}{K:hH}{mg:QA}{base:Heap}{A:Around}{outer:List Env}{s:Shared}{H:Hp}(e:Env0 P w K mg base A outer s H)(C:Addr)(a:QS)(f:List (Str×Value)):
  Env0 P w K mg base (A.under (.builtin "type.__call__" ⟨.ref C::a,f⟩)) outer s H:=⟨by first | exact e.frames | (simpa using e.frames),e.mod,e.bs,e.bsz,e.funs,e.frf,e.hok,e.bare,e.tree⟩
section
variable{X:Cx}{JB:List (Addr × Obj)}{Z:St}{H:Hp}{s s':Shared}
def Inv.env0(a:Inv X JB Z H s):Env0 X.prog X.w X.K X.mg X.base X.A X.stack s H :=
 ⟨a.ok.frames,a.ok.mod,a.bs,qs a.ok.bsz a.sz,a.stack,a.stkFree,a.hok,a.bare,a.ok.tree⟩
def Inv.after(a:Inv X JB Z H s)(h:CE X.stack X.prog X.w H s Q u s'):EP X JB Z Q u s':=by obtain⟨v,i,os,bare,un,hok,r,q⟩:=h;obtain⟨f,g,d,t,j⟩:=s';obtain rfl:=os;exact⟨v,i,a.call (h':=f) (g':=g) (d':=d) (t':=t) un hok bare (λb z=>absurd z (by simp)),r,q⟩
end
def j0(K:hH)(fd:FuncData)(f:QM)(i:QS):Prop :=
 ∀(s:Shared)(a:QS),K.In s.heap->(a++i).length=f.length->BindsTo s fd ⟨a,[]⟩ (f.zip (a++i))
def j0.all{K:hH}{fd:FuncData}{f:QM}(h:∀a:QS,a.length=f.length->bindArgs fd ⟨a,[]⟩=pure (f.zip a)):j0 K fd f []:=λs a _ hl=>by
 rw[Hi]at hl ⊢;exact .of_eq (h a hl)
structure o_(N P:QM)(sc:Scope):Prop where
 kind:sc.kind=.function
 co:sc.isCoroutine=T
 gen:sc.isGenerator=T
 nd:N.Nodup
 pre:N.take P.length=P
 par:∀x∈P,sc.names.lookup x=J .local\/sc.names.lookup x=J .cell
 nofree:∀y∈sc.names,y.2≠.free
def pJ{kindOf:Str->Option NameKind}{x:Str}:∀{binds:List (Str×Value)}{m:QA},(∀v,(x,v)∉binds)->bindL kindOf binds m x=m x
 |[],_,_=>rfl
 |(n,v)::r,m,h=>by
  unfold bindL;rw[pJ λw hw=>h w (p5 _ hw)];split
  .have:x≠n:=by rintro rfl;exact h v Et
   simp[this]
  .rfl
def pY{kindOf:Str->Option NameKind}{x:Str}:∀{binds:List (Str×Value)}{m:QA},(∀v,(x,v)∉binds)->bindC kindOf binds m x=m x
 |[],_,_=>rfl
 |(n,v)::r,m,h=>by
  unfold bindC;rw[pY λw hw=>h w (p5 _ hw)];split
  .rfl
  .have:x≠n:=by rintro rfl;exact h v Et
   simp[this]
def pR{kindOf:Str->Option NameKind}{x:Str}{v:Value}:∀{P:QM}{a:QS}{i:Nat}{m:QA},P.Nodup->P[i]?=J x->a[i]?=J v->kindOf x=J .local ->
  bindL kindOf (P.zip a) m x=J v
 |p::P,w::a,0,m,nd,j,f,l=>by
  simp at j f;subst j;subst f;show bindL kindOf ((p,w)::P.zip a) m p=_;unfold bindL;rw[pJ λv hv=>(vL.mp nd).1 (K2 hv).1,e_ l];simp
 |p::P,w::a,i+1,m,nd,j,f,l=>by
  unfold bindL;exact pR (vL.mp nd).2 (by simpa using j) (by simpa using f) l
def p9{kindOf:Str->Option NameKind}{x:Str}{v:Value}:∀{P:QM}{a:QS}{i:Nat}{m:QA},P.Nodup->P[i]?=J x->a[i]?=J v->kindOf x≠J .local ->
  bindC kindOf (P.zip a) m x=J v
 |p::P,w::a,0,m,nd,j,f,l=>by
  simp at j f;subst j;subst f;show bindC kindOf ((p,w)::P.zip a) m p=_;unfold bindC;rw[pY λv hv=>(vL.mp nd).1 (K2 hv).1,hI l];simp
 |p::P,w::a,i+1,m,nd,j,f,l=>by
  unfold bindC;exact p9 (vL.mp nd).2 (by simpa using j) (by simpa using f) l
def start(N:QM)(a:List V):St:=a.map J++List.replicate (N.length-a.length) Y
def oy(u:Be)(P:Program)(w:World)(K:hH)(mg:QA)(base:Heap)(N:QM)(i:Str)(a:Scope)(f:Addr)(l:Value)(A:Around)(outer:List Env)(s:Shared)(H:Hp)(E:XK):Cx where
 prog:=P
 w:=w
 K:=K
 mg:=mg
 base:=base
 A:=A.deeper (envOfC i a s.heap.objs.size f l)
 N:=N
 s₀:=s
 H₀:=H
 env:=envOfC i a s.heap.objs.size f l
 outer:=outer
 stack:=envOfC i a s.heap.objs.size f l::outer
 ex:=[]
 calm:=I
 fn:=λ_=>I
 pn:=[]
 xe:=λe y=>wpAny (model P w) (A.deeper (envOfC i a s.heap.objs.size f l)) (leaving (envOfC i a s.heap.objs.size f l) e) (λ_ j=>u outer H s E e j) (λz j=>u outer H s E z j) y
def sT{a:Scope}{n:Nat}{x:Str}(h:a.names.lookup x=J .cell):∃c,(cellsFrom n a.names []).lookup x=J c:=by have q:=PySem.W.cellsFrom_some a.names n [] (.inl h);exact Option.isSome_iff_exists.mp q
def wP{CX:Be}{P:Program}{w:World}{K:hH}{mg:QA}{base:Heap}{N G:QM}{l:Str}{j:Scope}{f:Addr}{U:Value}{A:Around}{outer:List Env}{s X:Shared}{H:Hp}{E:XK}{W:QS}{C:List V}(S:o_ N G j)(hd:A.handled=Y)(e0:Env0 P w K mg base A outer s H)(hl:C.length=G.length)(r:aK C W)(x:InCallC s s.heap.objs.size (bindL (envOfC l j s.heap.objs.size f U).kindOf (G.zip W) λ_=>Y) (cellsFrom (s.heap.objs.size+1) j.names []) (bindC (envOfC l j s.heap.objs.size f U).kindOf (G.zip W) λ_=>Y) X):
  Inv (oy CX P w K mg base N l j f U A outer s H E) [] (start N C) H X:=by
 have ab:G.length<=N.length:=by have:=congrArg List.length S.pre;rw[Eu]at this;lia
 obtain⟨Q,tk,rfl,Z⟩:=x.done;have F:∀b:Addr,b∉(oy CX P w K mg base N l j f U A outer s H E).ex:=λb z=>absurd (show b∈([]:QR)from z) (by simp)
 refine⟨⟨e0.mod,S.kind,rfl,rfl,mu _,λy z c Q B=>?_,λy M=>?_,λy c _ h=>?_,λ_=>hd,Around.frames_deeper e0.frames,.inr ⟨rfl,rfl⟩,λb z=>absurd z (F b),e0.bs,e0.bsz,λb _ _=>F b,λb z=>absurd z (F b),e0.funs,e0.frf,e0.tree,⟨_,_,rfl,S.gen,S.co,rfl,rfl⟩⟩,
  rfl,e0.bare,Un.kept Z,⟨_,x.toInCall.ns,λi y v Q B h3=>?_⟩,λy c h=>⟨_,x.cell y c h⟩,e0.hok.fresh (mu _),λy c h=>?_,λp O=>absurd (show p∈([]:QT)from O) (by simp),e0.hok.kept Z,?_⟩
 .exact name_of_addr x.apart (PySem.mem_of_lookup Q) (PySem.mem_of_lookup B)
 .rcases M with M|M
  .exact sT M
  .exact absurd rfl (S.nofree _ (PySem.mem_of_lookup M))
 .exact Hl (x.above y c (PySem.mem_of_lookup h))
 .have R:i<C.length:=by
   unfold start at B;by_cases R:i<C.length
   .exact R
   .rw[AA (by simpa using R)]at B;rw[Ep]at B
    split at B<;>cases B
  have ha:C[i]?=J v:=by
   unfold start at B;rw[q7 (by simpa using R),u_]at B
   cases e:C[i]? with
   |none=>rw[e]at B;cases B
   |some a=>rw[e]at B;cases B;rfl
  obtain⟨u,hu,rv⟩:=r.get ha;have O:G[i]?=J y:=by rw[<-S.pre,List.getElem?_take_of_lt ⋯];exact Q
  have L:G.Nodup:=by rw[<-S.pre];exact S.nd.sublist (List.take_sublist _ _)
  refine⟨u,rv,?_⟩;rcases S.par y (Ab O)with k|k
  .exact .inl ⟨k,pR L O hu k⟩
  .obtain⟨c,e⟩:=sT k;refine .inr ⟨.inl k,c,e,?_⟩;have q:=x.cell y c e;rw[p9 L O hu (by show j.names.lookup y≠_;rw[k];decide)]at q;exact q
 .exact e0.hok.fresh (Hl (x.above y c (PySem.mem_of_lookup h)))
 .unfold start;show _=N.length;rw[Hf,v4,HM];lia
def DB{W:Be}{P:Program}{w:World}{K:hH}{mg:QA}{base:Heap}{k:Nat}{f:Addr}{G i:Str}{z:Arguments}{B:QC}{a:Scope}{dV kV U pm l ct oc:Value}{an od:QD}{ab:Array (QU)}{N Z:QM}{sp:Sp}(lk:K.lookup f=J ⟨oc,od,.func (PySem.W.fnOf G i z B a dV kV U pm an l ct),ab⟩)(ai:PySem.W.codeIn K l i=I)(S:o_ N Z a)(len:∀C H Q E,sp C H Q E->C.length=Z.length)(M:∀(A:Around)(outer:List Env)(s:Shared)(H:Hp)(C:List V)(Q:VK)(E:XK),Room k (A.deeper (envOfC i a s.heap.objs.size f l))->sp C H Q E ->
   ∃t,PSs (oy W P w K mg base N i a f l A outer s H E) B t/\t { nx:=λ_ F=>Q .non F,rt:=Q} (start N C) H):
  FnOk P w K mg base W (k+1) f (PySem.W.fnOf G i z B a dV kV U pm an l ct) Z sp:=by
 refine⟨len,λA outer s H ap us C Q E hr e0 hb r R=>?_⟩;have hl:=len _ _ _ _ R;have KX:=e0.mod.kin.keeps λb o e=>(e0.bs b o e).1;have ak:=e0.mod.nolimit.keeps λb o e=>(e0.bs b o e).1;have L:∀y∈Z.zip us,a.names.lookup y.1=J .local\/(a.names.lookup y.1=J .cell/\((cellsFrom (s.heap.objs.size+1) a.names []).lookup y.1).isSome=I):=λ⟨n,v⟩ hy=>by
  rcases S.par n (K2 hy).1 with q|q
  .exact .inl q
  .exact .inr ⟨q,PySem.W.cellsFrom_some _ _ _ (.inl q)⟩
 refine codeAny_call_function hr.depth (KX _ _ lk) rfl S.co S.gen rfl (PySem.W.codeRec_of KX ai) (hb _ _ _ _ ?_);refine wpAny_newFunctionEnv_cells S.kind L λenv he s1 x=>?_;subst he;refine⟨ak.keeps x.toInCall.keep,codeAny_func ?_⟩;obtain⟨t,ht,hq⟩:=M A outer s H C Q E (hr.deeper _) R;have al:Inv (oy W P w K mg base N i a f l A outer s H E) [] (start N C) H s1:=wP S hr.hd e0 hl r x;refine wpAny_mono (ht [] s1 (start N C) H _ al hq) (λfl s' O=>?_) λe s' O=>O;have fin:∀{X:St}{F:Hp}{v:V}{u:Value},Inv (oy W P w K mg base N i a f l A outer s H E) [] X F s'->aO v u->Q v F->CE outer P w H s Q u s' :=
  λ{X F v u} j rv q=>⟨v,F,j.os,j.bare,j.base,j.hok,rv,q⟩
 cases fl with
 |ret u =>
  obtain⟨v,X,F,j,rv,q⟩:=O;exact fin j rv q
 |next =>
  obtain⟨X,F,j,q⟩:=O;exact fin (v:=V.non) j rfl q
 |brk =>
  obtain⟨_,_,_,q⟩:=O;exact False.elim q
 |cont =>
  obtain⟨_,_,_,q⟩:=O;exact False.elim q
section
variable{X:Cx}{x:Str}{p pos:Pos}{e:Expr}{es:QW}{t:TA}{id T:String}{r:List V->Hp->VK->Prop}
def Mu(r:List V->Hp->VK->Prop)(t:TA):TE:=λZ H Q=>t Z H λa f=>r a f Q
def m5(M:cU X (.builtin id) r)(hg:Gl X x)(y:X.mg x=Y)(hv:bootBuiltins x=J (.builtin id))(G:PA X (e::es) t)(u:x≠"__name__":=by decide)(f:(x==("__debug__":Str))=false:=by decide)(F:starEach (e::es) X.env=(false,eval e X.env)::starEach es X.env:=by rfl)(i:(backTo pos (starEach es X.env)).any (·.1)=false:=by rfl):PE X (.Call (.Name x p) (e::es) [] pos) (Mu r t):=by
 intro j s Z H Q a h;refine wpAny_Call_Name_kw (gy a hg y hv ?_ u f);exact PyProof.Rows.callWith_builtin1 (j_ (G pos j s Z H _ a h) λl z ⟨E,L,O,C,B⟩=>M j z Z L E l Q O C B) F i
def qe(M:cU X (.type T) r)(hg:Gl X x)(y:X.mg x=Y)(hv:bootBuiltins x=J (.type T))(G:PA X (e::es) t)(u:x≠"__name__":=by decide)(f:(x==("__debug__":Str))=false:=by decide)(F:starEach (e::es) X.env=(false,eval e X.env)::starEach es X.env:=by rfl)(i:(backTo pos (starEach es X.env)).any (·.1)=false:=by rfl):PE X (.Call (.Name x p) (e::es) [] pos) (Mu r t):=by
 intro j s Z H Q a h;refine wpAny_Call_Name_kw (gy a hg y hv ?_ u f);exact PyProof.Rows.callWith_type1 (j_ (G pos j s Z H _ a h) λl z ⟨E,L,O,C,B⟩=>M j z Z L E l Q O C B) F i
end
end L2
namespace HT
open PyProof.Rows
section
open PySem.SeqAt
open PySem.AutoSeq1 (wpAny_loadPart')
open PySem.MeetsSeq PySem.MeetsSeq2 PySem.MeetsSeq3
end
section
variable{prog:Program}{w:World}{A:Around}{E:QZ}{s:Shared}
def BN(O:IsTup s.heap t vs.toArray)(L:IsTup s.heap b ws.toArray)(hv:vs≠[])(H:ws=[]->Q (.ref t) s)(G:ws≠[]->Q (.ref s.heap.objs.size) { s with heap:=s.heap.push { cls:=.type "tuple",data:=.seq (vs++ws).toArray}})(u:vs.length+ws.length<=sizeLine):wpAny (model prog w) A (binaryOp .Add (.ref t) (.ref b)) Q E s:=by
 obtain⟨⟨cls,dd,B,F⟩,j,M,n,hd⟩:=id O;obtain⟨⟨C,f,data2,i⟩,a,l,z,y⟩:=id L;subst M hd l y;have e:vs.toArray++ws.toArray=(vs++ws).toArray:=by simp
 by_cases hw:ws=[]
 .exact concat_meets ⟨_,j,rfl⟩ ⟨_,a,rfl⟩ noFill_tuple_add seq_tuple_add PySem.F.slot_tuple_add PySem.F.entry_tuple_add (PySem.F.args_tuple_add_2 _ _)
   (tuple_addW1 t b vs.toArray ws.toArray n z dd f F i (by simpa using hv) (by simp[hw])) ⟨j,a,H hw⟩
 .refine concat_meets ⟨_,j,rfl⟩ ⟨_,a,rfl⟩ noFill_tuple_add seq_tuple_add PySem.F.slot_tuple_add PySem.F.entry_tuple_add (PySem.F.args_tuple_add_2 _ _)
   (tuple_addW2 t b vs.toArray ws.toArray n z dd f F i (by simpa using hv) (by simpa using hw) (by exact u)) ⟨j,a,?_⟩
  rw[e];exact G hw
def nu(n d:Nat):QV->Nat
 |none=>d
 |some v=>if v<0 then(v+(n:Int)).toNat else min v.toNat n
def yX(n d:Nat):nu n d Y=d:=rfl
def BO(n d k:Nat):nu n d (J (k:Int))=min k n:=rfl
def uO(v:Int)(n d:Nat):(if v<0 then max (v+(n:Int)) 0 else min v (n:Int))=((nu n d (J v):Nat):Int):=by
 show(if v<0 then max (v+(n:Int)) 0 else min v (n:Int))=(((if v<0 then(v+(n:Int)).toNat else min v.toNat n):Nat):Int)
 grind
def v9(lo a:QV)(n:Nat):Builtin.Slice.sliceAdjust lo a 1 (n:Int)=(((nu n 0 lo:Nat):Int),((nu n n a:Nat):Int)):=by
 refine Prod.ext ?_ ?_
 .cases lo with
  |none=>rfl
  |some v=>exact uO v n 0
 .cases a with
  |none=>rfl
  |some v=>exact uO v n n
def vZ(i j:Nat):Builtin.Slice.slicePlaces (i:Int) (j:Int) 1=j-i:=by
 unfold Builtin.Slice.slicePlaces;have a:(1:Int)>0:=by lia
 simp only[a,if_true,Int.ediv_one]
 split<;>lia
def og(p:IsPart v o)(h:Q o s):wpAny (model prog w) A (Builtin.Slice.slicePartIndex v) Q E s:=by
 cases p with
 |none=>exact slicePart_none h
 |int i t=>exact slicePart_int h
def m8{l:Addr}{vl j:Value}{lo f:QV}{n:Nat}{Q:Int×Int×Nat->Shared->Prop}(u:s.heap.IsSliceOf l vl j .none)(y:IsPart vl lo)(B:IsPart j f)(h:Q (((nu n 0 lo:Nat):Int),1,nu n n f-nu n 0 lo) s):wpAny (model prog w) A (Builtin.Slice.sliceApplied (.ref l) (pure (n:Int))) Q E s:=by
 obtain⟨os,a,z,i⟩:=id u;refine g_ (g_ (wpAny_field a i rfl (g_ (wpAny_field a i rfl (g_ (wpAny_field a i rfl (oh ?_)))))));refine g_ (slicePart_none ?_);refine g_ (og y (g_ (og B (g_ (oh ?_)))));show wpAny _ _ (match Builtin.Slice.sliceAdjust lo f 1 (n:Int)with | (lo,f)=>pure (lo,(1:Int),Builtin.Slice.slicePlaces lo f 1)) _ _ s;rw[v9 lo f n];show wpAny _ _ (pure (((nu n 0 lo:Nat):Int),(1:Int),Builtin.Slice.slicePlaces ((nu n 0 lo:Nat):Int) ((nu n n f:Nat):Int) 1)) _ _ s;rw[vZ];exact oh h
def zS(xs:Array Value)(i k:Nat):((List.range k).filterMap λ(m:Nat)=>xs[((i:Int)+(m:Int)*1).toNat]?).toArray=((xs.toList.drop i).take k).toArray:=by
 have e:(λ(m:Nat)=>xs[((i:Int)+(m:Int)*1).toNat]?)=λm=>xs[i+m]?:=by grind
 rw[e]
 have:=pick_run xs i k
 rw[List.filterMap_map]at this;have e2:((λx=>xs[x]?)∘λx=>i+x)=λm=>xs[i+m]?:=rfl;rw[e2]at this;rw[this]
def lZ{t z:Addr}{items:Array Value}{vl C:Value}{lo f:QV}{Q:QZ}(i:IsTup s.heap t items)(B:s.heap.IsSliceOf z vl C .none)(H:IsPart vl lo)(F:IsPart C f)(hw:¬(nu items.size 0 lo=0/\nu items.size items.size f=items.size))(h:Q (.ref s.heap.objs.size) { s with heap:=s.heap.push { cls:=.type "tuple",data:=.seq ((items.toList.drop (nu items.size 0 lo)).take (nu items.size items.size f-nu items.size 0 lo)).toArray}})(G:items.size<=sizeLine):wpAny (model prog w) A (getItem (.ref t) (.ref z)) Q E s:=by
 have a:sizeOk (.seq ((items.toList.drop (nu items.size 0 lo)).take (nu items.size items.size f-nu items.size 0 lo)).toArray):=by show((items.toList.drop (nu items.size 0 lo)).take (nu items.size items.size f-nu items.size 0 lo)).toArray.size<=sizeLine;rw[yU,Eu,K0,Array.length_toList];lia
 obtain⟨os,j,u,L⟩:=id B;have y:s.TypeIs (.ref z) "slice":=⟨os,j,u⟩;unfold getItem
 try with_reducible refine wpAny_holding ?_
 refine g_ (wpAny_sequenceKey i.typeIs (by decide) ?_)
 refine g_ (wpAny_callSpecial?_slot i.typeIs PyProof.Rows.slot_tuple_getitem
  (wpAny_call_entry PyProof.Rows.slot_tuple_getitem i.typeIs entry_tuple_getitem ?_ (args_tuple_getitem _ _)))
 show wpAny _ _ (Builtin.Tuple.tupleItemsOf (.ref t) >>= _) _ _ s;refine g_ (tupleItemsOf_ i ?_);refine g_ (wpAny_typeOf y ?_);refine g_ (m8 B H F ?_);have l:¬((((nu items.size 0 lo:Nat):Int)==0&&(1:Int)==1&&(nu items.size items.size f-nu items.size 0 lo)==items.size)=I):=by intro q;rw[Av,Av]at q;have O:=eq_of_beq q.1.1;have M:=eq_of_beq q.2;exact hw ⟨⋯,⋯⟩
 show wpAny _ _ (if(((nu items.size 0 lo:Nat):Int)==0&&(1:Int)==1&&(nu items.size items.size f-nu items.size 0 lo)==items.size)=I then _ else _) _ _ s;rw[hI l,zS]
 first
  |exact g_ (m:=Builtin.Tuple.tupleExact _) (wpAny_newObj_type (g_ (oh (oh ⟨_,rfl,oh h⟩))) a)
end
end HT
namespace L2
open PySem.Spec PyProof.Rows
abbrev TO:=St->Hp->(QV->Hp->Prop)->Prop
def PO(X:Cx)(e:Option Expr)(t:TO):Prop :=
 ∀(f:QT)(s:Shared)(Z:St)(H:Hp)(Q:QV->Hp->Prop),Inv X f Z H s->t Z H Q ->
  wpAny (model X.prog X.w) X.A (evalPart e X.env) (λu i=>∃o a,Inv X f Z a i/\IsPart u o/\Q o a) X.xe s
def BP:TO:=λ_ H Q=>Q Y H
def IB(t:TE):TO:=λZ H Q=>t Z H λx a=>∃i,x=.int i/\Q (J i) a
section
variable{X:Cx}{e:Expr}{te:TE}{lo hi:Option Expr}{tl th:TO}{pos p2:Pos}
def BQ:PO X Y BP:=by intro f s Z H Q a h;rw[evalPart_none];exact oh ⟨Y,H,a,.none,h⟩
def BR(h:PE X e te):PO X (J e) (IB te):=by intro f s Z H Q a hw;refine j_ (h f s Z H _ a hw) λu B ⟨x,y,z,l,j⟩=>?_;obtain⟨i,rfl,q⟩:=j;obtain⟨t,rfl⟩:=l;exact⟨J i,y,z,.int i t,q⟩
def La(X:Cx)(r:V->QV->QV->Hp->VK->Prop):Prop :=
 ∀(j:QT)(s:Shared)(Z:St)(H:Hp)(x:V)(v vl f:Value)(lo hi:QV)(i:Addr)(Q:VK),Inv X j Z H s->aO x v->s.heap.IsSliceOf i vl f .none->IsPart vl lo->IsPart f hi->r x lo hi H Q ->
  ∃a id,typeLookup (.type a) "__getitem__"=pure (J (.builtin id))/\s.TypeIs v a/\wpAny (model X.prog X.w) X.A (getItem v (.ref i)) (EP X j Z Q) X.xe s
def P1(r:V->QV->QV->Hp->VK->Prop)(te:TE)(tl th:TO):TE:=λZ H Q=>te Z H λx i=>tl Z i λl f=>th Z f λu a=>r x l u a Q
def zy(hr:La X r)(he:PE X e te)(hl:PO X lo tl)(W:PO X hi th):PE X (.Subscript e (.Slice lo hi Y p2) pos) (P1 r te tl th):=by intro f s Z H Q i h;refine Subscript_ (j_ (he f s Z H _ i h) λv F ⟨x,H1,I1,R,L⟩=>?_);refine wpAny_Slice (j_ (hl f F Z H1 _ I1 L) λvl C ⟨l,S,z,pl,G⟩=>j_ (W f C Z S _ z G) λj a ⟨u,y,E,M,P⟩=>?_);refine oh ?_;have O:Inv X f Z y { a with heap:=a.heap.push { cls:=.type "slice",data:=.fields #[vl,j,.none]}}:=E.kept (t':=a.toks) λb ob q=>n3 _ q;obtain⟨B,id,U,ht,hg⟩:=hr f { a with heap:=a.heap.push { cls:=.type "slice",data:=.fields #[vl,j,.none]}} Z y x v vl j l u a.heap.objs.size Q O R (Heap.IsSliceOf.new ..) pl M P;exact tail_any ht U hg (by with_unfolding_all rfl)
def m9(xs:List V)(lo hi:QV):List V:=(xs.drop (HT.nu xs.length 0 lo)).take (HT.nu xs.length xs.length hi-HT.nu xs.length 0 lo)
def mq(xs:List V)(lo hi:QV):(m9 xs lo hi).length<=xs.length:=by unfold m9;rw[Eu,K0];lia
def Mw(K:hH):V->QV->QV->Hp->VK->Prop:=λx lo hi H Q=>∃a xs,x=.ref a/\SqT K H a xs /\
 ¬(HT.nu xs.length 0 lo=0/\HT.nu xs.length xs.length hi=xs.length)/\∀p,H p=Y->Q (.ref p) (l_ H p (.tup (m9 xs lo hi)))
def E3:La X (Mw X.K):=by
 intro F s Z H x v vl M lo hi L Q i y z E B h;obtain⟨a,xs,rfl,C,hw,q⟩:=h;cases y;obtain⟨j,r,u,l⟩:=i.tuple C;have f:j.toArray.size=xs.length:=by exact r.length.symm
 refine⟨"tuple",_,PyProof.Rows.slot_tuple_getitem.lookup,u.typeIs,?_⟩;refine HT.lZ u z E B (by rw[f];exact hw) ?_ (by rw[f];exact l);rw[f];refine⟨.ref s.heap.objs.size,_,i.laid (t':=s.toks) (λb G q=>n3 _ q) (mu _) ?_,rfl,q _ (i.hok.fresh (mu _))⟩;exact⟨qs (mq xs lo hi) l,_,(r.drop (HT.nu xs.length 0 lo)).take (HT.nu xs.length xs.length hi-HT.nu xs.length 0 lo),iw.new _ _⟩
def IC(K:hH):R2:=λx y H Q=>∃a b xs ys,x=.ref a/\y=.ref b/\SqT K H a xs/\SqT K H b ys/\xs≠[]/\xs.length+ys.length<=sizeLine /\
 (ys=[]->Q (.ref a) H)/\(ys≠[]->∀p,H p=Y->Q (.ref p) (l_ H p (.tup (xs++ys))))
def aK.nil_iff(r:aK xs us):us=[]↔xs=[]:=by
 cases r with
 |nil=>simp
 |cons _ _=>simp
def BS:OpR X (binaryOp .Add) (IC X.K):=by intro S s Z H x y v u Q f C O h;obtain⟨a,b,xs,ys,rfl,rfl,P,R,L,l,F,E⟩:=h;cases C;cases O;obtain⟨M,j,G,_⟩:=f.tuple P;obtain⟨B,i,p2,_⟩:=f.tuple R;refine HT.BN G p2 (λz=>L (j.nil_iff.mp z)) (λz=>⟨.ref a,H,f,rfl,F (i.nil_iff.mp z)⟩) (λz=>?_) (by rw[<-j.length,<-i.length];exact l);refine⟨.ref s.heap.objs.size,_,f.laid (t':=s.toks) (λb U q=>n3 _ q) (mu _) ?_,rfl,E (λw=>z (i.nil_iff.mpr w)) _ (f.hok.fresh (mu _))⟩;exact⟨by rw[Hf];exact l,_,j.append i,iw.new _ _⟩
end
def vf(n:Nat)(i:Int):Option Nat:=if 0<=i then(if i<n then J i.toNat else Y)else if -(n:Int)<=i then J (i+n).toNat else Y
def pz{α:Type}(xs:List α)(i:Int):Option α:=(vf xs.length i).bind λj=>xs[j]?
def oQ(h:vf n i=J j):seqIndex? i n=J j/\j<n /\ -(n:Int)<=i/\i<n:=by
 unfold vf at h;by_cases f:0<=i
 .rw[e_ f]at h;by_cases a:i<n
  .rw[e_ a]at h;have e:=Option.some.inj h;exact⟨by rw[seqIndex_of f a,e],⋯,⋯,a⟩
  .rw[hI a]at h;cases h
 .rw[hI f]at h;by_cases a:-(n:Int)<=i
  .rw[e_ a]at h;have e:=Option.some.inj h;exact⟨by rw[seqIndex_neg ⋯ a,e],⋯,a,⋯⟩
  .rw[hI a]at h;cases h
def ph(h:pz xs i=J v):∃j,seqIndex? i xs.length=J j/\xs[j]?=J v/\j<xs.length /\ -(xs.length:Int)<=i/\i<xs.length:=by
 unfold pz at h
 cases e:vf xs.length i with
 |none=>rw[e]at h;cases h
 |some j =>
  rw[e]at h;obtain⟨l,a,f,u⟩:=oQ e;exact⟨j,l,h,a,f,u⟩
def dX{α:Type}{xs:List α}{j:Nat}{v:α}(h:xs[j]?=J v):pz xs (j:Int)=J v:=by
 have a:=(qi.mp h).1;have e:vf xs.length (j:Int)=J j:=by
  unfold vf
  simp_all
 unfold pz;rw[e];exact h
def jq(b:Expr):Prop:=∀o i,subscripted b T o i=operate [o,i] (getItem o i)
def IxR(X:Cx)(r:R2):Prop :=
 ∀(f a:Expr)(i:QT)(s:Shared)(Z:St)(H:Hp)(x y:V)(v u:Value)(Q:VK),Inv X i Z H s->aO x v->aO y u->r x y H Q ->
  subscripted a T v u=operate [v,u] (getItem v u)->wpAny (model X.prog X.w) X.A (subscriptTail f a v u) (EP X i Z Q) X.xe s
def ID(X:Cx)(id:String)(r:V->List V->Hp->VK->Prop):Prop :=
 ∀(f:QT)(s:Shared)(Z:St)(H:Hp)(x:V)(xs:List V)(v:Value)(a:QS)(Q:VK),Inv X f Z H s->aO x v->aK xs a->r x xs H Q ->
  wpAny (model X.prog X.w) X.A (call (.builtin id) (v::a)) (EP X f Z Q) X.xe s
section
variable{X:Cx}{a b:Expr}{ta tb:TE}{pos:Pos}
def IxR.or(h:IxR X r)(E:IxR X r'):IxR X (λx y H Q=>r x y H Q\/r' x y H Q):=by
 intro f i l s Z H x y v u Q j z C q B;rcases q with q|q
 .exact h f i l s Z H x y v u Q j z C q B
 .exact E f i l s Z H x y v u Q j z C q B
def IE{r:R2}(hr:IxR X r)(G:PE X a ta)(F:PE X b tb)(B:jq b):PE X (.Subscript a b pos) (Io r ta tb):=by intro l s Z H Q f h;exact Subscript_ (EV G F f h λv u z x y C i j E q=>hr a b l z Z C x y v u Q i j E q (B _ _))
def IF(K:hH):R2:=λx y H Q=>∃p xs i v,x=.ref p/\y=.int i/\SqL K H p xs/\pz xs i=J v/\Q v H
def IG(K:hH):R2:=λx y H Q=>∃p xs i v,x=.ref p/\y=.int i/\SqT K H p xs/\pz xs i=J v/\Q v H
def IH:R2:=λx y H Q=>∃z i c,x=.str z/\y=.int i/\z.length<=sizeLine/\pz z.cps.toList i=J c/\Q (.str ⟨#[c]⟩) H
def BU:IxR X (IF X.K):=by
 intro B G S s Z H x y v u Q f R ry h L;obtain⟨p,xs,i,z,rfl,rfl,hq,he,q⟩:=h;cases R;obtain⟨t,rfl⟩:=ry;obtain⟨C,r,F,hz⟩:=f.list hq;obtain⟨j,l,W,h3,U,P⟩:=ph he;obtain⟨w,M,rw'⟩:=r.get W;have hl:=r.length;have hn:=nB;have fin:EP X S Z Q w s:=⟨z,H,f,rw',q⟩;by_cases O:0<=i
 .have E:i.toNat=j:=by
   rw[seqIndex_of O P]at l;exact Option.some.inj l
  exact item_listR F.isList O ⋯ (by rw[E];simpa using M) fin L
 .have E:(i+(C.toArray.size:Int)).toNat=j:=by
   rw[seqIndex_neg ⋯ U]at l;rw[yU,<-hl];exact Option.some.inj l
  exact subscriptTail_builtinR F.isList.typeIs slot_list_getitem.lookup
   (wpAny_getItem_list_neg F.isList ⋯ (by rw[yU]<;>lia) ⋯ (by rw[E];simpa using M) ⟨rfl,fin⟩) L
def E4:IxR X (IG X.K):=by
 intro l B F s Z H x y v u Q f E R h G;obtain⟨p,xs,i,z,rfl,rfl,U,S,q⟩:=h;cases E;obtain⟨t,rfl⟩:=R;obtain⟨P,r,C,hz⟩:=f.tuple U;obtain⟨j,O,M,h3,h4,W⟩:=ph S;obtain⟨w,L,rw'⟩:=r.get M;have hl:=r.length;have hn:=nB;have fin:EP X F Z Q w s:=⟨z,H,f,rw',q⟩;exact subscriptTail_builtinR C.typeIs slot_tuple_getitem.lookup
  (getItem_tuple C ⋯ ⋯ (by rw[yU,<-hl];exact O) (by simpa using L) ⟨rfl,fin⟩) G
def E5:IxR X IH:=by
 intro f B U s Z H x y v u Q l F O h G;obtain⟨z,i,c,rfl,rfl,hz,P,q⟩:=h;obtain⟨t,rfl⟩:=F;obtain⟨R,rfl⟩:=O;obtain⟨j,C,M,W,L,E⟩:=ph P;have hl:z.cps.toList.length=z.length:=by simp[Str.length]
 rw[hl]at C L E;have S:=nB
 exact tail_any (typeIs_str s z t) slot_str_getitem.lookup (getItem_str (by
  have e1:decide (i < -(2^63:Int))=T:=decide_eq_false ⋯;have e2:decide (i>=2^63)=T:=decide_eq_false ⋯
  rw[e1,e2,Bool.or_false]) (by rw[C];simpa using M) ⟨.str ⟨#[c]⟩,H,l.tok _,⟨_,rfl⟩,q⟩) G
def P2(K:hH):R2:=λx y H Q=>IF K x y H Q\/IG K x y H Q\/IH x y H Q
def E6:IxR X (P2 X.K):=BU.or (E4.or E5)
def vJ(f:QS)(n j:Nat)(u:Value):Obj.mapSeq (·.setIfInBounds j u) { cls:=.type "list",data:=.seq f.toArray n}={ cls:=.type "list",data:=.seq (f.set j u).toArray n}:=by simp[Obj.mapSeq]
def Inv.lst{j:QT}{Z:St}{H:Hp}{s:Shared}{p:Addr}{xs:List V}(i:Inv X j Z H s)(h:H p=J (.lst xs)):
  ∃(f:QS) (n:Nat),aK xs f/\s.heap.get? p=J { cls:=.type "list",data:=.seq f.toArray n}/\xs.length<=sizeLine:=by
 obtain⟨z,f,n,r,e⟩:=i.hok p _ h;exact⟨f,n,r,e,z⟩
def Inv.lstUpd{z:QT}{Z:St}{H:Hp}{s:Shared}{p:Addr}{xs ys:List V}{j i:QS}{n l:Nat}{f:Obj->Obj}(y:Inv X z Z H s)(h:H p=J (.lst xs))(B:s.heap.get? p=J { cls:=.type "list",data:=.seq j.toArray n})(hf:f { cls:=.type "list",data:=.seq j.toArray n}={ cls:=.type "list",data:=.seq i.toArray l})(r:aK ys i)(C:ys.length<=sizeLine)(t:Nat):
  Inv X z Z (l_ H p (.lst ys)) { s with heap:=s.heap.update p f,toks:=t}:=by
 have e:(s.heap.update p f).get? p=J { cls:=.type "list",data:=.seq i.toArray l}:=by rw[KR f B (by rw[hf]<;>rfl),hf]
 refine y.write (by rw[h];trivial) (.inl rfl) (λb u E q=>(LR _ _ (Ne.symm E)).trans q) ⟨_,e⟩ ?_;exact⟨C,i,l,r,e⟩
def II:V->V->V->Hp->(Hp->Prop)->Prop:=λo i v H Q=>∃p xs k j,o=.ref p/\i=.int k/\H p=J (.lst xs)/\vf xs.length k=J j/\Q (l_ H p (.lst (xs.set j v)))
def yo:Ii X II:=by
 intro W s Z H o i v ov iv u Q l M R S h;obtain⟨p,xs,k,j,rfl,rfl,G,P,q⟩:=h;cases M;obtain⟨t,rfl⟩:=R;obtain⟨f,n,r,z,O⟩:=l.lst G;obtain⟨y,h2,C,F⟩:=oQ P;have hl:=r.length;have U:=nB;have E :=
  l.lstUpd G z (vJ f n j u) (r.set S j) (by rw[K3];exact O) s.toks
 by_cases L:0<=k
 .have B:k.toNat=j:=by
   rw[seqIndex_of L F]at y;exact Option.some.inj y
  exact PySem.W.ki_setAt z L ⋯ (by rw[yU,<-hl];exact F) (by rw[B];exact⟨_,E,q⟩)
 .have B:(k+(f.toArray.size:Int)).toNat=j:=by
   rw[seqIndex_neg ⋯ C]at y;rw[yU,<-hl];exact Option.some.inj y
  exact PySem.W.ki_setBack z ⋯ (by rw[yU,<-hl];exact C) ⋯ (by rw[B];exact⟨_,E,q⟩)
def sI(lo f:QV)(n:Nat):(sliceBounds lo f Y n).1=((HT.nu n 0 lo:Nat):Int)/\(sliceBounds lo f Y n).2.1=((HT.nu n n f:Nat):Int)/\(sliceBounds lo f Y n).2.2=1:=by
 refine⟨?_,?_,rfl⟩
 .cases lo with
  |none=>simp[sliceBounds,HT.nu]
  |some i =>
   simp only[sliceBounds,HT.nu,Option.getD_none,show(1:Int)>0 by decide,if_true];by_cases h:i<0
   .simp only[h,if_true]<;>lia
   .simp only[h,if_false]<;>lia
 .cases f with
  |none=>simp[sliceBounds,HT.nu]
  |some i =>
   simp only[sliceBounds,HT.nu,Option.getD_none,show(1:Int)>0 by decide,if_true];by_cases h:i<0
   .simp only[h,if_true]<;>lia
   .simp only[h,if_false]<;>lia
def qu(f:QS)(lo i:QV):slicePick f.toArray lo i Y=((f.drop (HT.nu f.length 0 lo)).take (HT.nu f.length f.length i-HT.nu f.length 0 lo)).toArray:=by obtain⟨u,j,l⟩:=sI lo i f.toArray.size;unfold slicePick;rw[u,j,l];simp only[sliceRange_one,pick_run]<;>rfl
def My(K:hH):V->QV->QV->Hp->VK->Prop:=λx lo f H Q=>∃a xs,x=.ref a/\SqL K H a xs/\∀p,H p=Y->Q (.ref p) (l_ H p (.lst (m9 xs lo f)))
def uE:La X (My X.K):=by intro G s Z H x v vl O lo j M Q f u y F z h;obtain⟨a,xs,rfl,C,q⟩:=h;cases u;obtain⟨E,r,l,B⟩:=f.list C;have i:=r.length;refine⟨"list",_,slot_list_getitem.lookup,l.isList.typeIs,?_⟩;refine wpAny_getItem_list_slice l.isList y F z .none (by simp) ?_ (by rw[yU]<;>lia);rw[qu,<-i];refine⟨.ref s.heap.objs.size,_,f.laid (t':=s.toks) (λb L q=>n3 _ q) (mu _) ?_,rfl,q _ (f.hok.fresh (mu _))⟩;exact⟨qs (mq xs lo j) B,_,0,(r.drop (HT.nu xs.length 0 lo)).take (HT.nu xs.length xs.length j-HT.nu xs.length 0 lo),wr _ rfl⟩
def r9:cU X (.type "list") (λxs H Q=>∃p ys,xs=[.ref p]/\(SqL X.K H p ys\/SqT X.K H p ys)/\∀l,H l=Y->Q (.ref l) (l_ H l (.lst ys))):=by
 intro P s Z H xs R Q i r h;obtain⟨p,ys,rfl,E,q⟩:=h;obtain⟨u,rfl,O⟩:=gN r;cases O;have fin:∀(f:QS),aK ys f->ys.length<=sizeLine->∀(j:Heap)(z:Nat),(∀b M,s.heap.get? b=J M->j.get? b=J M) ->
   j.get? s.heap.objs.size=J { cls:=.type "list",dict:=Y,data:=.seq f.toArray z,slots:=#[]}->EP X P Z Q (.ref s.heap.objs.size) { s with heap:=j}:=λf y B j z kp e =>
  ⟨.ref s.heap.objs.size,_,i.laid (t':=s.toks) kp (mu _) (show ObjOk X.prog X.w _ j _ (.lst ys) from⟨B,f,z,y,e⟩),rfl,q _ (i.hok.fresh (mu _))⟩
 rcases E with E|E
 .obtain⟨f,y,L,B⟩:=i.list E;have C:=y.length;obtain⟨o,F,G,n,hd⟩:=L.isList;exact call_list_seq p (.inl rfl) F G hd (λj z kp e=>fin f y B j z kp e) (by simp only[yU]<;>lia)
 .obtain⟨f,y,L,B⟩:=i.tuple E;have C:=y.length;obtain⟨o,F,G,n,hd⟩:=L;exact call_list_seq p (.inr rfl) F G hd (λj z kp e=>fin f y B j z kp e) (by simp only[yU]<;>lia)
def kD:cU X (.type "tuple") (λxs H Q=>∃p ys,xs=[.ref p]/\((SqL X.K H p ys/\∀l,H l=Y->Q (.ref l) (l_ H l (.tup ys)))\/(SqT X.K H p ys/\Q (.ref p) H))):=by
 intro O s Z H xs M Q f r h;obtain⟨p,ys,rfl,h⟩:=h;obtain⟨u,rfl,G⟩:=gN r;cases G;rcases h with⟨y,q⟩|⟨y,q⟩
 .obtain⟨i,j,z,B⟩:=f.list y;have C:=j.length;refine call_tuple_list z.isList (λL kp=>?_) (by simp only[yU]<;>lia);have E:=f.kept (t':=s.toks) kp;have F :=
   E.laid (t':=s.toks) (λb o e=>n3 _ e) (mu _) (show ObjOk X.prog X.w _ _ _ (.tup ys) from⟨B,i,j,iw.new _ _⟩)
  exact⟨.ref L.objs.size,_,F,rfl,q _ (E.hok.fresh (mu _))⟩
 .obtain⟨i,j,z,B⟩:=f.tuple y;exact call_tuple_same z ⟨.ref p,H,f,rfl,q⟩
def Mz(K:hH)(f:String)(x:V)(H:Hp):Prop:=match x with
 |.str _=>f="str"
 |.int _=>f="int"
 |.ref p=>(f="list"/\∃xs,SqL K H p xs)\/(f="tuple"/\∃o,K.lookup p=J o/\o.cls=.type "tuple"/\o.dict=Y) \/
   (f="dict"/\((∃i,H p=J (.dK i))\/∃i,H p=J (.dT i)))\/(f="set"/\∃S n,H p=J (.set S n))
 |_=>False
def E7{C:QT}{Z:St}{H:Hp}{s:Shared}{l:String}{x:V}{v:Value}(f:Inv X C Z H s)(r:aO x v)(ty:Mz X.K l x H):
  s.TypeIs v l/\∀a,v=.ref a->∃y,s.heap.get? a=J y/\y.dict=Y:=by
 cases x with
 |str z =>
  obtain⟨t,rfl⟩:=r;cases(ty);exact⟨typeIs_str s z t,λ_ e=>nomatch e⟩
 |int i =>
  obtain⟨t,rfl⟩:=r;cases(ty);exact⟨typeIs_int s i t,λ_ e=>nomatch e⟩
 |ref p =>
  cases r;rcases ty with⟨rfl,xs,G⟩|⟨rfl,o,j,F,hd⟩|⟨rfl,j⟩|⟨rfl,S,n,j⟩
  .obtain⟨E,_,B,_⟩:=f.list G;refine⟨B.isList.typeIs,λa e=>?_⟩;cases e;obtain⟨o,n,e,c,hd,_⟩:=B;exact⟨o,e,hd⟩
  .refine⟨⟨o,f.kIn p o j,F⟩,λa e=>?_⟩;cases e;exact⟨o,f.kIn _ o j,hd⟩
  .have z:∃o,s.heap.get? p=J o/\o.ExactDict:=by
    rcases j with⟨u,j⟩|⟨u,j⟩
    .obtain⟨_,_,_,_,o,_,_,e,ex,_⟩:=f.hok p _ j;exact⟨o,e,ex⟩
    .obtain⟨_,_,_,_,o,_,_,e,ex,_⟩:=f.hok p _ j;exact⟨o,e,ex⟩
   obtain⟨o,e,ex⟩:=z;refine⟨⟨o,e,ex.1⟩,λa e2=>?_⟩;cases e2;exact⟨o,e,ex.2.1⟩
  .obtain⟨o,_,_,_,e,ex,_⟩:=f.hok p _ j;refine⟨⟨o,e,ex.1⟩,λa e2=>?_⟩;cases e2;exact⟨o,e,ex.2.1⟩
 |_=>exact False.elim ty
def P4(K:hH)(f:String)(r:V->List V->Hp->VK->Prop)(to:TE)(t:TA):TE:=λZ H Q=>to Z H λx i=>Mz K f x i/\t Z i λxs j=>r x xs j Q
variable{o e:Expr}{es:QW}{to:TE}{t:TA}{name:Str}{apos cpos:Pos}{T id:String}{r:V->List V->Hp->VK->Prop}
def IJ(pa:PlainAttrs T)(slot:Slot T name id)(y:typeOf (.builtin id)=pure (.type "method_descriptor"))(P:ID X id r)(L:PE X o to)(ha:PA X (e::es) t)(i:attributeBase o name X.env (eval o X.env)=eval o X.env:=by rfl)(l:((backTo cpos (starEach (e::es) X.env)).all (λx=>!x.1)&&(backToKw cpos (keywordEach [] X.env)).all (λx=>x.1.isSome)
   && decide ((e::es).length+([]:List Keyword).length+(if([]:List Keyword).isEmpty then 0 else 1)<30))=I:=by rfl)(j:(apos.endLine==cpos.line)=I:=by rfl)(M:starEach (e::es) X.env=(false,eval e X.env)::starEach es X.env:=by rfl)(f:(backTo cpos (starEach es X.env)).any (·.1)=false:=by rfl):
  PE X (.Call (.Attribute o name apos) (e::es) [] cpos) (P4 X.K T r to t):=by
 intro u s Z H Q z h;refine wpAny_Call_method_late i l j rfl (j_ (L u s Z H _ z h) λv R ⟨x,H1,E,C,ty,U⟩=>?_);obtain⟨h1,h2⟩:=E7 E C ty;refine⟨T,id,pa,slot,y,h1,h2,?_⟩;have B:=ha cpos u R Z H1 _ E U;rw[M]at B ⊢;refine Calls.callWith_builtin (by show(false||(backTo cpos (starEach es X.env)).any (·.1))=false;rw[f]<;>rfl) (Calls.evalArgs_plain ?_);exact j_ B λG O ⟨vs,H2,F,W,S⟩=>P u O Z H2 x vs v G Q F C W S
end
def P5(X:Cx)(id:String)(r:V->List V->Hp->VK->Prop):Prop :=
 ∀(f:QT)(s:Shared)(Z:St)(H:Hp)(x:V)(xs:List V)(v:Value)(a:QS)(Q:VK),Inv X f Z H s->aO x v->aK xs a->r x xs H Q ->
  wpAny (model X.prog X.w) X.A (call (.builtin id) (v::a)) (EP X f Z Q) X.xe s
def aK.zero(h:aK [] us):us=[]:=by cases h;rfl
def aK.one(h:aK [x] us):∃u,us=[u]/\aO x u:=by cases h with|cons r t=>exact⟨_,by rw[aK.zero t],r⟩
def aK.two(h:aK [x,y] us):∃u v,us=[u,v]/\aO x u/\aO y v:=by cases h with|cons r t=>obtain⟨v,e,q⟩:=aK.one t;exact⟨_,v,by rw[e],r,q⟩
def aK.rep(h:aK xs us):∀k:Nat,aK (List.replicate k xs).flatten (List.replicate k us).flatten
 |0=>.nil
 |k+1=>by
  exact aK.append h (aK.rep h k)
def pT(f:QS):∀(k:Nat)(a:QS),
  List.foldl (λi j=>i++j) a.toArray (List.replicate k f.toArray)=(a++(List.replicate k f).flatten).toArray
 |0,a=>by simp
 |k+1,a=>by
  have e:a.toArray++f.toArray=(a++f).toArray:=by simp
  have e2:(a++f)++(List.replicate k f).flatten=a++(List.replicate (k+1) f).flatten:=by rw[He,List.flatten_cons,KZ]
  rw[<-e2,<-pT f k (a++f),<-e,He,List.foldl_cons]
section
variable{X:Cx}{JB:List (Addr × Obj)}{Z:St}{H:Hp}{s:Shared}{l b:Addr}{xs ys zs:List V}
def Inv.lset{a its':QS}{n:Nat}{f:Array Value->Array Value}{j:Nat}(i:Inv X JB Z H s)(y:H l=J (.lst xs))(e:s.heap.get? l=J { cls:=.type "list",data:=.seq a.toArray n})(hf:f a.toArray=its'.toArray)(hv:aK ys its')(z:ys.length<=sizeLine):
  Inv X JB Z (l_ H l (.lst ys)) { s with heap:=s.heap.update l (Obj.mapSeq f),toks:=j}:=by
 have q:=PySem.IsL.update e f;rw[hf]at q;refine i.write (x:=l) (e:=l) (by rw[y];exact trivial) (.inl rfl) (λE u C B=>(LR s.heap (Obj.mapSeq f) (Ne.symm C)).trans B) ⟨_,q⟩ ?_;exact⟨z,its',_,hv,q⟩
def Inv.lnew(a:Inv X JB Z H s)(hv:aK ys its)(f:ys.length<=sizeLine):
  Inv X JB Z (l_ H s.heap.objs.size (.lst ys)) { s with heap:=s.heap.push { cls:=.type "list",data:=.seq its.toArray},toks:=t'} :=
 a.laid (λ_ _ q=>n3 _ q) (mu _) ⟨f,its,0,hv,wr _ rfl⟩
def Inv.fresh(a:Inv X JB Z H s):H s.heap.objs.size=Y:=a.hok.fresh (mu _)
def Inv.lstM(f:Inv X JB Z H s)(i:H l=J (.lst xs)):xs.length<=sizeLine/\∃(a:QS) (n:Nat),aK xs a/\xs.length=a.length/\s.heap.get? l=J { cls:=.type "list",data:=.seq a.toArray n}:=by obtain⟨z,a,n,r,e⟩:=f.hok l _ i;exact⟨z,a,n,r,r.length,e⟩
def zN(h:n<=sizeLine):Builtin.List.listTooLong n=T:=by unfold Builtin.List.listTooLong;exact decide_eq_false ⋯
end
section
variable{X:Cx}
def BV:V->List V->Hp->VK->Prop:=λx a H Q=>∃l xs y,x=.ref l/\a=[y]/\H l=J (.lst xs)/\xs.length<sizeLine/\Q .non (l_ H l (.lst (xs++[y])))
def pU:P5 X "list.append" BV:=by
 intro G s Z H x M v E Q f j C h;obtain⟨l,xs,y,rfl,rfl,i,L,q⟩:=h;cases j;obtain⟨u,rfl,B⟩:=C.one;obtain⟨z,a,n,r,hl,e⟩:=f.lstM i;refine call_meets F.slot_list_append ⟨_,e,rfl⟩ F.entry_list_append (F.args_list_append_2 _ _) (PySem.list_append l a.toArray n u (by rw[yU];lia)) ⟨e,?_⟩;refine⟨.non,_,f.lset (its':=a++[u]) i e (by simp) (r.append (.cons B .nil)) ?_,rfl,q⟩
 grind
def MB:R2:=λx y H Q=>∃l b xs a,x=.ref l/\y=.ref b/\H l=J (.lst xs)/\H b=J (.lst a)/\xs.length+a.length<=sizeLine/\∀p,H p=Y->Q (.ref p) (l_ H p (.lst (xs++a)))
def E9:OpR X (binaryOp .Add) MB:=by
 intro O s Z H x y v u Q a j F h;obtain⟨l,b,xs,M,rfl,rfl,L,E,S,q⟩:=h;cases j;cases F;obtain⟨z,i,n,r,hl,e⟩:=a.lstM L;obtain⟨R,f,P,C,G,e2⟩:=a.lstM E;refine PySem.P.add_list e e2 ?_ (by rw[yU,yU];lia);have B:i.toArray++f.toArray=(i++f).toArray:=by simp
 rw[B];exact⟨.ref _,_,a.lnew (t':=s.toks) (r.append C) (by rw[Hf];lia),rfl,q _ a.fresh⟩
def MC:R2:=λx y H Q=>∃l k xs,x=.ref l/\y=.int k/\H l=J (.lst xs) /\ -(2^63)<=k/\k<2^63/\xs.length*k.toNat<=sizeLine /\
 ∀p,H p=Y->Q (.ref p) (l_ H p (.lst (List.replicate k.toNat xs).flatten))
def ur{α:Type}(xs:List α)(k:Nat):(List.replicate k xs).flatten.length=k*xs.length:=by simp
def E_:OpR X (binaryOp .Mult) MC:=by
 intro JB s Z H x y v u Q j P U h;obtain⟨l,k,xs,rfl,rfl,W,S,R,O,q⟩:=h;cases P;obtain⟨t,rfl⟩:=U;obtain⟨z,f,n,r,hl,e⟩:=j.lstM W;have E:f.toArray.size*k.toNat<=sizeLine:=by rw[yU,<-hl];exact O
 have G:¬f.toArray.size*k.toNat>(2^63-1)/8:=by
  have:(sizeLine:Nat)<=(2^63-1)/8:=by decide
  lia
 have C:¬(!Builtin.List.listFitsIndex k)=I:=by rw[fitsIndex_both S R];exact LZ
 have i:¬Builtin.List.listTooLong (f.toArray.size*k.toNat)=I:=by rw[zN E];exact LZ
 have B:List.foldl (λL M=>L++M) #[] (List.replicate (if f.toArray.isEmpty=I then 0 else k.toNat) f.toArray)=(List.replicate k.toNat f).flatten.toArray:=by
  have f0:∀m:Nat,List.foldl (λL M=>L++M) #[] (List.replicate m f.toArray)=(List.replicate m f).flatten.toArray:=λm=>by
   have:=pT f m []
   exact this
  rw[f0]
  cases f with
  |nil=>simp
  |cons a r'=>rw[hI (by simp)]
 refine wpAny_binaryOp_repeat_ref (by decide) ⟨_,e,rfl⟩ (λs'=>typeIs_int s' k t) noFill_list_mul F.fills_int_mul F.slot_int_rmul repeat_list F.slot_int_index.lookup
  (call_meets F.slot_int_rmul (typeIs_int s k t) F.entry_int_rmul (F.args_int_rmul_2 _ _) (int___rmul___int_list k t l f.toArray n)
   ⟨e,rfl,⟨_,e,rfl⟩,call_meets F.slot_list_mul ⟨_,e,rfl⟩ F.entry_list_mul (F.args_list_mul_2 _ _) (AutoListH.list___mul___list_int_3 l f.toArray n k t C G i) ⟨e,?_⟩⟩)
 rw[B];exact⟨.ref _,_,j.lnew (t':=s.toks) (r.rep k.toNat) (by rw[ur,Nat.mul_comm];exact O),rfl,q _ j.fresh⟩
end
end L2
namespace Att
open PySem.W PySem.Calls PyProof.Rows
def oo:∀(ns:QN)(f:QS),WellAll P h f (ns.map WData.int)->IntsAre f ns:=by
 intro ns
 induction ns with
 |nil =>
  intro f w;rw[Hm]at w;cases w;exact .nil
 |cons n ns i =>
  intro f w;rw[n_]at w
  cases w with
  |cons a b =>
   cases a;exact .cons _ _ (i _ b)
def xD{l:OpenLaw}{n:Nat}(G:l.most=J n){P:Params}{h:Heap}{f:List WData}{j:QS}(i:l.row.toRowW.claim.pre f=I)(B:WellAll P h j f):
  ∃a E ns,j=[Value.ref a]/\f=[WData.list (ns.map WData.int)]/\h.get? a=J { cls:=.type "list",data:=.seq E.toArray}/\IntsAre E ns/\ns.length<=n:=by
 have C:=(pre_splitW i).1;have R:=(pre_splitW i).2;obtain⟨d,r,rfl,O,M⟩:=hasAllW_cons C;obtain rfl:=hasAllW_nil M;obtain⟨xs,rfl,H⟩:=hasW_list O;obtain⟨ns,rfl⟩:=items_int H;have y:ns.length<=n:=by
  have z:(WTm.not (.lt (.lit (.int (n:Int))) (.len (.arg 0)))).holds [] { args:=[.list (ns.map .int)]}=I:=by have z:=(holds_andW R).1;rw[G]at z;exact z
  have S:=condW_of z (w_not (w_lt w_lit (w_len_list (w_arg rfl))))
  simp_all
 cases B with
 |cons L Q =>
  cases Q
  cases L with
  |list F u=>exact⟨_,_,ns,rfl,rfl,F,oo ns _ u,y⟩
def wT(l:OpenLaw)(a:List WData):l.row.toRowW.claim.post a (.bool I) a=I :=
 postW_of
  (show WShape.has [] (.bool I) .bool=I by first | rfl | decide | simp)
  (w_eq_bool (w_res rfl) w_lit) rfl
def tO{l:OpenLaw}{n:Nat}{q:Program}{loose:QM}{XP:(Str->QU)->Heap->Prop}{W:World->Heap->Prop}{d:DefRec}(hn:l.most=J n)(M:d.params.defaults=[])(call:∀(w:World)(s₀ i:Shared)(mg P:QA)(B:Addr)(o:Obj)(pm H u:Value)(a:Addr)(y:QS)(ns:QN),
   Ground q loose [] XP w s₀ mg P i.heap->W w i.heap ->
   i.heap.get? B=J o->o.data=.func (docDef d.name d.params d.body d.scope pm H u)->i.heap.CodeRec H d.name->mg d.name=J (.ref B) ->
   i.heap.get? a=J { cls:=.type "list",data:=.seq y.toArray}->IntsAre y ns->ns.length<=n->i.gens=#[] ->
   codeAny (model l.prog w) callerA (.call (.ref B) ⟨[.ref a],[]⟩) (λr F=>r=.ok (.ret (.bool I))/\OldK i.heap F.heap/\F.os=i.os/\AllBare F.gens) i):
  WalkO q loose XP W l.row.toRowW d [] (λf y=>PySem.call f y):=by
 intro w s₀ i mg P G L B o pm H u dV kV ho hd O S R hg X U as z Z ab Q ai;obtain rfl:=Dflts.none S M;obtain rfl:=Dflts.noKw S;obtain⟨a,y,ns,rfl,rfl,C,j,E⟩:=xD hn z Q;refine enter_call (codeAny_mono (call w s₀ i mg P B o pm H u a y ns G L ho (fd_plain hd) O R C j E hg) λr F hq=>?_);obtain⟨rfl,h2,h3,h4⟩:=hq;exact⟨.inl ⟨.bool I,.bool I,[],rfl,λ_=>rfl,.bool I,wT l _,λ_=>⟨List.Pairwise.nil,λ_ hm=>(nomatch hm)⟩⟩,h2,h3,h4⟩
end Att
namespace L2
open PySem.Spec PyProof.Rows
def qf:∀{a:QS}{ns:QN},IntsAre a ns->aK (ns.map V.int) a
 |_,_,.nil=>.nil
 |_,_,.cons n t h=>.cons ⟨t,rfl⟩ (qf h)
def Fa(H:Hp):Prop:=∀b,H b=Y\/∃o xs,H b=J (.frz o (.lst xs))
def zj{P:Program}{w:World}{K:hH}{mg mb:QA}{CX:Be}{k:Nat}{fa a:Addr}{fd:FuncData}{x:Str}{sp:Sp}{f:Shared}{O:QS}{ns:QN}(KX:K.In f.heap)(W:f.heap.Ns mainGlobals mg)(l:f.heap.Ns builtinsNs mb)(ak:∀x:Str,x≠"__name__"->mb x=bootBuiltins x)(Q:f.heap.NoLimit)(C:f.heap.NoSeer)(an:P.given.tree=Y)(hg:f.gens=#[])(U:f.heap.get? a=J { cls:=.type "list",data:=.seq O.toArray})(hi:IntsAre O ns)(hl:ns.length<=sizeLine)(hr:Room k callerA)(F:∀base:Heap,K.In base->base.Ns mainGlobals mg->FnOk P w K mg base CX k fa fd [x] sp)(M:∀(s:Shared) (u:Value),BindsTo s fd ⟨[u],[]⟩ [(x,u)])(ai:∀H:Hp,Fa H->SqL K H a (ns.map V.int)->sp [.ref a] H (λv _=>v=.bl I) λ_ _ _=>False)(al:∀H e y,CX [] H f (λ_ _ _=>False) e y->False):
  codeAny (model P w) callerA (.call (.ref fa) ⟨[.ref a],[]⟩) (λr y=>r=.ok (.ret (.bool I))/\OldK f.heap y.heap/\y.os=f.os/\AllBare y.gens) f:=by
 have rv:=qf hi;have ab:=hi.length;have L:∀H:Hp,Fa H->SqL K H a (ns.map V.int)->HOk P w H f.heap->(∀b,H b≠Y->b=a)->(H a≠Y->K.lookup a=Y) ->
   codeAny (model P w) callerA (.call (.ref fa) ⟨[.ref a],[]⟩) (λr y=>r=.ok (.ret (.bool I))/\OldK f.heap y.heap/\y.os=f.os/\AllBare y.gens) f:=by
  intro H hO hS hok hA hK;have i:∀{b:Addr}{o:Obj},f.heap.get? b=J o->H b=Y->(kq f.heap H).get? b=J o:=λe n=>za e n;have ap:∀{b:Addr}{o:Obj}{es:Array DictEntry}{S:Nat},f.heap.get? b=J o->o.data=.dict es S->H b=Y:=λ{b o es S} e d=>by
   cases q:H b with
   |none=>rfl
   |some u =>
    have e':b=a:=hA b (by rw[q];simp);subst e';rw[U]at e;cases e;have d':Data.seq O.toArray _=Data.dict es S:=d;cases d'
  have j:∀{b:Addr}{m:QA},f.heap.Ns b m->(kq f.heap H).Ns b m:=λ{b m} ⟨o,es,S,e,d,r⟩=>⟨o,es,S,i e (ap e d),d,r⟩
  have R:K.In (kq f.heap H):=λb o e=>i (KX b o e) (by
   cases q:H b with
   |none=>rfl
   |some u =>
    have e':b=a:=hA b (by rw[q];simp);subst e'
    rw[hK (by rw[q];simp)]at e;cases e)
  have hM:Mod K mg (kq f.heap H):=⟨R,j W,⟨mb,j l,ak⟩,let ⟨B,E,G⟩:=Q;⟨B,j E,G⟩,let ⟨B,E,G⟩:=C.statics;⟨B,j E,G⟩,let ⟨B,E,G⟩:=C.mods;⟨B,j E,G⟩,let ⟨B,E,G⟩:=C.imp;⟨B,j E,G⟩,let ⟨B,bm,ob,E,G,h3,h4,h5⟩:=C.main;⟨B,bm,ob,j E,G,i h3 (by
   cases q:H bm with
   |none=>rfl
   |some u =>
    have e':bm=a:=hA bm (by rw[q];simp);subst e';rw[U]at h3;cases h3
    exact absurd (show Value.type "list"=Value.type "module" from h4) (by decide)),h4,h5⟩⟩
  have e0:Env0 P w K mg (kq f.heap H) callerA [] f H:=⟨rfl,hM,λb o e=>BE e,Nat.le_of_eq (wq _ _),trivial,λb l=>absurd (show b∈([]:QR)from l) (by simp),hok,.of_eq hg,an⟩;refine codeAny_mono ((F _ R (j W)).run callerA [] f H ⟨[.ref a],[]⟩ [.ref a] [.ref a] _ _ hr e0 (M f (.ref a)) (.cons rfl .nil) (ai H hO hS)) λr y h=>?_
  cases r with
  |error e=>exact(al H e y h).elim
  |ok fl =>
   cases fl with
   |next=>exact False.elim h
   |brk=>exact False.elim h
   |cont=>exact False.elim h
   |ret u =>
    obtain⟨v,H',os,bare,un,X,r',q⟩:=h;have q':v=.bl I:=q;subst q';obtain rfl:u=Value.bool I:=r';refine⟨rfl,OldK.of_keep λb o e=>?_,os,bare⟩
    cases q:H b with
    |none=>exact un.keep b o e q (by intro z;exact absurd (show b∈([]:QR)from z) (by simp)) (by simp)
    |some u =>
     rcases hO b with z|⟨ob,xs,z⟩
     .rw[q]at z;cases z
     .have z2:=un.frzs b ob _ z;obtain⟨e1,_⟩:=hok b _ z;obtain⟨e2,_⟩:=X b _ z2;rw[e]at e1;cases e1;exact e2
 cases hk:K.lookup a with
 |some o =>
  have e:=KX a o hk;rw[U]at e;cases e;refine L (λ_=>Y) (λ_=>.inl rfl) (.inr ⟨_,O.toArray,_,hk,rfl,rfl,rfl,by rw[yU,ab];exact hl,by simpa using rv⟩) (λb u z=>by have Z:(Y:Option HO)=J u:=z;cases Z) (λb z=>absurd rfl z) λz=>absurd rfl z
 |none =>
  refine L (λb=>if b=a then J (.frz { cls:=.type "list",data:=.seq O.toArray} (.lst (ns.map V.int)))else Y) (λb=>?_) (.inl (.inr ⟨{ cls:=.type "list",data:=.seq O.toArray},e_ rfl⟩)) (λb u z=>?_) (λb z=>?_) λ_=>hk
  .by_cases l:b=a
   .exact .inr ⟨_,_,e_ l⟩
   .exact .inl (hI l)
  .by_cases l:b=a
   .have Z:=(e_ l).symm.trans z;cases Z;subst l;exact⟨U,by rw[v4];exact hl,O,_,rv,U⟩
   .have Z:=(hI l).symm.trans z;cases Z
  .by_cases l:b=a
   .exact l
   .exact absurd (hI l) z
abbrev pk{K:hH}{h:Heap}(_:K.In h):hH:=K
def BW{l:PySem.W.OpenLaw}{n k:Nat}{q:Program}{loose:QM}{XP:(Str->QU)->Heap->Prop}{S:World->Heap->Prop}{d:DefRec}{K:Params->hH}{CX:World->Be}{sp:World->Sp}{x:Str}(X:l.most=J n)(L:n<=sizeLine)(M:d.params.defaults=[])(hr:Room k callerA)(hi:PyProof.Rows.importsNone q=I)(Q:l.prog.given.tree=Y)(hY:∀(w:World)(h:Heap),S w h->(K w.params).In h)(F:∀(w:World)(mg:QA)(B:Addr)(h:Heap),(K w.params).In h->h.Ns mainGlobals mg->mg d.name=J (.ref B) ->
   ∃fd:FuncData,(∀(s:Shared)(u:Value),BindsTo s fd ⟨[u],[]⟩ [(x,u)]) /\
    ∀base:Heap,(K w.params).In base->base.Ns mainGlobals mg->FnOk l.prog w (K w.params) mg base (CX w) k B fd [x] (sp w))(O:∀(w:World)(H:Hp)(a:Addr)(ns:QN),ns.length<=n->Fa H->SqL (K w.params) H a (ns.map V.int)->sp w [.ref a] H (λv _=>v=.bl I) λ_ _ _=>False)(E:∀(w:World)(H:Hp)(s:Shared)(e:Value)(P:Shared),CX w [] H s (λ_ _ _=>False) e P->False):
  PySem.W.WalkO q loose XP S l.row.toRowW d [] (λf W=>PySem.call f W):=by
 refine Att.tO X M λw s₀ y mg mb B o pm cd ai a W ns G C ho hd ab R z j i hg=>?_;have U:=hY w _ C;obtain⟨fd,hb,hF⟩:=F w mg B _ U G.T.g R;exact zj U G.T.g G.T.b G.T.builtins G.T.nolimit (G.T.seer hi) Q hg z j (qs i L) hr hF hb (λH hO Z=>O w H a ns i hO Z) λH e P=>E w H y e P
def fY(s:Stmt):Arguments:=match s with
 |.FunctionDef _ a _ _ _ _ _ _ _ _=>a
 |_=>{ posonlyargs:=[],args:=[],vararg:=Y,kwonlyargs:=[],kw_defaults:=[],kwarg:=Y,defaults:=[]}
def aG(s:Stmt):QC:=match s with
 |.FunctionDef _ _ b _ _ _ _ _ _ _=>b
 |_=>[]
def aj(s:Stmt):Scope:=match s with
 |.FunctionDef _ _ _ _ _ _ a _ _ _=>a
 |_=>{ kind:=.function,names:=[],isGenerator:=T,isCoroutine:=T}
abbrev Hs:Be:=λ_ _ _ _ _ _=>False
structure Fun(K:hH)(x qual:Str)(st:Stmt)(f:Addr)(fd:FuncData):Prop where
 ex:∃(oc:Value)(od:QD)(kV doc pm:Value)(an:QD)(cdv ct:Value)(osl:Array (QU)),
  fd=PySem.W.fnOf x qual (fY st) (aG st) (aj st) .none kV doc pm an cdv ct/\K.lookup f=J ⟨oc,od,.func fd,osl⟩/\PySem.W.codeIn K cdv qual=I
 kp:PySem.W.keepIn K (.ref f)=I
section
variable{P:Program}{w:World}{K:hH}{mg:QA}{base:Heap}
def Fun.ok{x a:Str}{st:Stmt}{f:Addr}{fd:FuncData}{N z:QM}{k:Nat}{y:Sp}(F:Fun K x a st f fd)(S:o_ N z (aj st))(len:∀vs H Q E,y vs H Q E->vs.length=z.length)(j:∀(i:Value)(A:Around)(outer:List Env)(s:Shared)(H:Hp)(vs:List V)(Q:VK)(E:XK),Room k (A.deeper (envOfC a (aj st) s.heap.objs.size f i))->y vs H Q E ->
   ∃t,PSs (oy Hs P w K mg base N a (aj st) f i A outer s H E).nox (aG st) t/\t { nx:=λ_ C=>Q .non C,rt:=Q} (start N vs) H):FnOk P w K mg base Hs (k+1) f fd z y:=by
 obtain⟨O,L,kV,G,pm,M,i,ct,B,rfl,lk,l⟩:=F.ex;refine DB lk l S len λA outer s H vs Q E hr u=>?_;obtain⟨t,h,q⟩:=j i A outer s H vs Q E hr u;exact⟨t,h.nox,q⟩
def Fun.binds{x a:Str}{st:Stmt}{f:Addr}{fd:FuncData}{y:QM}(F:Fun K x a st f fd)(h:∀(kV j pm:Value)(u:QD)(i ct:Value)(l:QS),l.length=y.length->bindArgs (PySem.W.fnOf x a (fY st) (aG st) (aj st) .none kV j pm u i ct) ⟨l,[]⟩=pure (y.zip l)):j0 K fd y []:=by
 obtain⟨E,C,kV,j,pm,u,i,ct,z,rfl,lk,B⟩:=F.ex;exact .all (h kV j pm u i ct)
def yf{x qual:Str}{st:Stmt}{f:Addr}{z:Value}{y u:QD}{j:Array (QU)}{kV i pm a ct:Value}(l:K.lookup f=J ⟨z,y,.func (PySem.W.fnOf x qual (fY st) (aG st) (aj st) .none kV i pm u a ct),j⟩)(c:PySem.W.codeIn K a qual=I)(k:PySem.W.keepIn K (.ref f)=I):Fun K x qual st f (PySem.W.fnOf x qual (fY st) (aG st) (aj st) .none kV i pm u a ct):=⟨⟨z,y,kV,i,pm,u,a,ct,j,rfl,l,c⟩,k⟩
end
end L2
namespace MM
open PySem.Spec PyProof.Rows L2
inductive PV where
 |non | bl (b:Bool) | int (i:Int) | str (x:Str) | tup (xs:List PV) | frl (xs:List PV) | loc (n:Nat)
abbrev _root_.QL:=List PV
abbrev _root_.QE:=Option PV
structure AG where
 cls:Str
 fs:List (Str×PV):=[]
inductive MO where
 |lst(xs:QL)
 |dic(fz:Bool)(ks:QN)(xs:QL)
 |exc(x:AG)
def MO.fzd:MO->Bool
 |.dic fz _ _=>fz
 |_=>T
abbrev MH:=List MO
abbrev n8:=List (QE)
inductive Out(α:Type) where
 |ok(a:α)(h:MH)
 |exc(x:AG)(h:MH)
 |bad
abbrev _root_.QX:=Out PV
def Out.bind{α β:Type}(o:Out α)(f:α->MH->Out β):Out β:=match o with
 |.ok a h=>f a h
 |.exc x h=>.exc x h
 |.bad=>.bad
@[simp]theorem Out.bind_ok(a:α)(h:MH)(f:α->MH->Out β):(Out.ok a h).bind f=f a h:=rfl
@[simp]theorem Out.bind_exc(x:AG)(h:MH)(f:α->MH->Out β):(Out.exc x h).bind f=.exc x h:=rfl
@[simp]theorem Out.bind_bad(f:α->MH->Out β):(Out.bad:Out α).bind f=.bad:=rfl
inductive SOut where
 |nx(Z:n8)(h:MH)
 |rt(v:PV)(h:MH)
 |bk(Z:n8)(h:MH)
 |ct(Z:n8)(h:MH)
 |exc(x:AG)(Z:n8)(h:MH)
 |rse(x:AG)(Z:n8)(h:MH)
 |bad
def Out.ne{α:Type}(o:Out α):Out α:=match o with
 |.exc _ _=>.bad
 |o=>o
@[simp]theorem Out.ne_ok(a:α)(h:MH):(Out.ok a h).ne=.ok a h:=rfl
@[simp]theorem Out.ne_bad:(Out.bad:Out α).ne=.bad:=rfl
@[simp]theorem Out.ne_ne(o:Out α):o.ne.ne=o.ne:=by cases o<;>rfl
def SqF(K:hH)(H:Hp)(a:Addr)(ys:List V):Prop :=
 (∃o,H a=J (.frz o (.lst ys))) \/
  ∃(o:Obj) (f:Array Value) (n:Nat),K.lookup a=J o/\o.cls=.type "list"/\o.dict=Y/\o.data=.seq f n/\f.size<=sizeLine/\aK ys f.toList
def SqF.sq{K:hH}{H:Hp}{a:Addr}{ys:List V}(h:SqF K H a ys):SqL K H a ys:=by
 rcases h with h|h
 .exact .inl (.inr h)
 .exact .inr h
mutual
inductive RP(K:hH)(U:QR)(H:Hp):PV->V->Prop where
 |non:RP K U H .non .non
 |bl(b:Bool):RP K U H (.bl b) (.bl b)
 |int(i:Int):RP K U H (.int i) (.int i)
 |str(x:Str):RP K U H (.str x) (.str x)
 |tup{xs:QL}{a:Addr}{ys:List V}(s:SqT K H a ys)(r:RPs K U H xs ys):RP K U H (.tup xs) (.ref a)
 |frl{xs:QL}{a:Addr}{ys:List V}(s:SqF K H a ys)(r:RPs K U H xs ys):RP K U H (.frl xs) (.ref a)
 |loc{n:Nat}{a:Addr}(e:U[n]?=J a):RP K U H (.loc n) (.ref a)
inductive RPs(K:hH)(U:QR)(H:Hp):QL->List V->Prop where
 |nil:RPs K U H [] []
 |cons{x:PV}{y:V}{xs:QL}{ys:List V}(r:RP K U H x y)(t:RPs K U H xs ys):RPs K U H (x::xs) (y::ys)
end
structure Le(U:QR)(H:Hp)(U':QR)(H':Hp):Prop where
 pre:∃m,U'=U++m
 tup:∀a xs,H a=J (.tup xs)->H' a=J (.tup xs)
 frz:∀a o u,H a=J (.frz o u)->H' a=J (.frz o u)
def Le.refl(U:QR)(H:Hp):Le U H U H:=⟨⟨[],by simp⟩,λ_ _ h=>h,λ_ _ _ h=>h⟩
def Le.trans(a:Le U H U1 H1)(b:Le U1 H1 U2 H2):Le U H U2 H2:=by obtain⟨m,e⟩:=a.pre;obtain⟨f,i⟩:=b.pre;exact⟨⟨m++f,by rw[i,e,KZ]⟩,λc xs h=>b.tup c xs (a.tup c xs h),λc o u h=>b.frz c o u (a.frz c o u h)⟩
def Le.get{U f:QR}{H i:Hp}(l:Le U H f i){n:Nat}{a:Addr}(e:U[n]?=J a):f[n]?=J a:=by obtain⟨m,j⟩:=l.pre;rw[j,q7 (qi.mp e).1];exact e
def Le.sqt{K:hH}{U i:QR}{H f:Hp}(l:Le U H i f){a:Addr}{xs:List V}(h:SqT K H a xs):SqT K f a xs:=by
 rcases h with(h|⟨o,h⟩)|h
 .exact .inl (.inl (l.tup _ _ h))
 .exact .inl (.inr ⟨o,l.frz _ _ _ h⟩)
 .exact .inr h
def Le.sqf{K:hH}{U i:QR}{H f:Hp}(l:Le U H i f){a:Addr}{xs:List V}(h:SqF K H a xs):SqF K f a xs:=by
 rcases h with⟨o,h⟩|h
 .exact .inl ⟨o,l.frz _ _ _ h⟩
 .exact .inr h
section
variable{K:hH}{U U':QR}{H H':Hp}
def RP.le(l:Le U H U' H'){x:PV}{y:V}(r:RP K U H x y):RP K U' H' x y :=
 RP.rec .non .bl .int .str (λs _ i=>.tup (l.sqt s) i) (λs _ i=>.frl (l.sqf s) i) (λe=>.loc (l.get e)) .nil (λ_ _ a b=>.cons a b) r
def RPs.le(l:Le U H U' H')(r:RPs K U H xs ys):RPs K U' H' xs ys:=by
 induction xs generalizing ys with
 |nil=>cases r;exact .nil
 |cons x xs f=>cases r with|cons a t=>exact .cons (a.le l) (f t)
def RPs.length(r:RPs K U H xs ys):xs.length=ys.length:=by
 induction xs generalizing ys with
 |nil=>cases r;rfl
 |cons x xs f=>cases r with|cons a t=>exact congrArg (·+1) (f t)
def RPs.get{xs:QL}{ys:List V}{i:Nat}{x:PV}(r:RPs K U H xs ys)(e:xs[i]?=J x):∃y,ys[i]?=J y/\RP K U H x y:=by
 induction xs generalizing ys i with
 |nil=>cases e
 |cons x xs f =>
  cases r with
  |cons a t =>
   cases i with
   |zero=>cases e;exact⟨_,rfl,a⟩
   |succ i=>have z:=@f _ i t e;exact z
def RPs.set(r:RP K U H x u)(i:Nat)(q:RPs K U H xs us):RPs K U H (xs.set i x) (us.set i u):=by
 induction xs generalizing us i with
 |nil=>cases q;exact .nil
 |cons x xs f =>
  cases q with
  |cons a t =>
   cases i with
   |zero=>exact .cons r t
   |succ i=>exact .cons a (f i t)
def RPs.append(r:RPs K U H xs us)(s:RPs K U H ys ws):RPs K U H (xs++ys) (us++ws):=by
 induction xs generalizing us with
 |nil=>cases r;exact s
 |cons x xs f=>cases r with|cons a t=>exact .cons a (f t)
def RPs.take(n:Nat)(r:RPs K U H xs us):RPs K U H (xs.take n) (us.take n):=by
 induction n generalizing xs us with
 |zero=>exact .nil
 |succ n f =>
  cases xs with
  |nil=>cases r;exact .nil
  |cons x xs=>cases r with|cons a t=>exact .cons a (f t)
def RPs.drop(n:Nat)(r:RPs K U H xs us):RPs K U H (xs.drop n) (us.drop n):=by
 induction n generalizing xs us with
 |zero=>exact r
 |succ n f =>
  cases xs with
  |nil=>cases r;exact .nil
  |cons x xs=>cases r with|cons a t=>exact f t
def RPs.ints:∀(ns:QN),RPs K U H (ns.map PV.int) (ns.map V.int)
 |[]=>.nil
 |n::r=>.cons (.int n) (RPs.ints r)
end
def IK(a C:Addr)(h:Heap):Prop:=∃o f,h.get? a=J o/\o.cls=.ref C/\o.data=.fields f
abbrev A4:=Str->QU
def kz(a:QN)(ys:List V):List (rg×V):=(a.map Sum.inl).zip ys
def dO(fz:Bool)(a:Option HO)(u:HO):Prop:=match fz with
 |false=>a=J u
 |true=>∃o,a=J (.frz o u)
def RO(K:hH)(mg:A4)(U:QR)(H:Hp)(a:Addr):MO->Option HO->Prop
 |.lst xs,f=>∃ys,f=J (.lst ys)/\RPs K U H xs ys
 |.dic fz i xs,f=>∃ys:List V,ys.length=i.length/\RPs K U H xs ys/\dO fz f (.dK (kz i ys))
 |.exc x,f=>x.fs=[]/\∃C,mg x.cls=J (.ref C)/\f=J (.ext (IK a C))
def lK{fz:Bool}{P:Program}{w:World}{H:Hp}{h:Heap}{a:Addr}{f:List (rg×V)}(ok:HOk P w H h)(e:dO fz (H a) (.dK f)):f.length<=sizeLine/\(a==sysModules)=T/\∃i,KV f i/\h.DictOf (eY P w) a i:=by
 cases fz with
 |false=>exact(ok a _ e)
 |true =>
  obtain⟨o,e⟩:=e;exact(ok a _ e).2
structure RH(K:hH)(mg:A4)(U:QR)(H:Hp)(h:MH):Prop where
 len:U.length=h.length
 nd:U.Nodup
 at':∀(n:Nat)(a:Addr)(o:MO),U[n]?=J a->h[n]?=J o->RO K mg U H a o (H a)
def RO.le{K:hH}{mg:A4}{U i:QR}{H f:Hp}{a:Addr}(l:Le U H i f){o:MO}{j:Option HO}(r:RO K mg U H a o j):RO K mg i f a o j:=by
 cases o with
 |lst xs=>obtain⟨ys,e,r⟩:=r;exact⟨ys,e,r.le l⟩
 |dic fz u xs=>obtain⟨ys,e,r,q⟩:=r;exact⟨ys,e,r.le l,q⟩
 |exc x=>exact r
def RO.some{K:hH}{mg:A4}{U:QR}{H:Hp}{a:Addr}{o:MO}{f:Option HO}(r:RO K mg U H a o f):f≠Y:=by
 cases o with
 |lst xs=>obtain⟨ys,e,_⟩:=r;rw[e];simp
 |dic fz i xs =>
  obtain⟨ys,_,_,q⟩:=r
  cases fz with
  |false=>rw[show f=_ from q];simp
  |true=>obtain⟨o,q⟩:=q;rw[q];simp
 |exc x=>obtain⟨_,C,_,e⟩:=r;rw[e];simp
def RO.plain{K:hH}{mg:A4}{U:QR}{H:Hp}{a:Addr}{o:MO}{f:Option HO}(r:RO K mg U H a o f)(hf:o.fzd=T):(∀xs,f≠Option.some (.tup xs))/\∀p u,f≠Option.some (.frz p u):=by
 cases o with
 |lst xs=>obtain⟨ys,e,_⟩:=r;rw[e];exact⟨(λ_ z=>nomatch z),(λ_ _ z=>nomatch z)⟩
 |dic fz i xs =>
  obtain⟨ys,_,_,q⟩:=r
  cases fz with
  |false=>rw[show f=_ from q];exact⟨(λ_ z=>nomatch z),(λ_ _ z=>nomatch z)⟩
  |true=>cases hf
 |exc x=>obtain⟨_,C,_,e⟩:=r;rw[e];exact⟨(λ_ z=>nomatch z),(λ_ _ z=>nomatch z)⟩
section
variable{K:hH}{mg:A4}{U:QR}{H:Hp}{h:MH}
def RH.obj(r:RH K mg U H h){n:Nat}{a:Addr}(e:U[n]?=J a):∃o,h[n]?=J o/\RO K mg U H a o (H a):=by
 have f:n<h.length:=by rw[<-r.len];exact(qi.mp e).1
 exact⟨h[n],by simp,r.at' n a _ e (by simp)⟩
def RH.new(r:RH K mg U H h){p:Addr}(B:H p=Y){o:MO}{ho:HO}(F:RO K mg U H p o (J ho)):RH K mg (U++[p]) (l_ H p ho) (h++[o])/\Le U H (U++[p]) (l_ H p ho):=by
 have i:∀n a,U[n]?=J a->a≠p:=λn a e z=>by
  obtain⟨E,_,q⟩:=r.obj e;rw[z,B]at q;exact q.some rfl
 have l:Le U H (U++[p]) (l_ H p ho):=⟨⟨[p],rfl⟩,λa xs e=>by rw[aI (bC e B)];exact e,λa M u e=>by rw[aI (bC e B)];exact e⟩;refine⟨⟨by simp[r.len],?_,λn a E e1 e2=>?_⟩,l⟩
 .rw[L0];refine⟨r.nd,by simp,λa L b G=>?_⟩;obtain⟨n,e⟩:=LS.mp L;have j:b=p:=by simpa using G
  rw[j];exact i n a e
 .by_cases f:n<U.length
  .rw[q7 f]at e1;rw[q7 (by rw[<-r.len];exact f)]at e2;rw[aI (i n a e1)];exact(r.at' n a E e1 e2).le l
  .rw[AA ⋯]at e1;rw[AA (by rw[<-r.len];lia)]at e2;have C:n-U.length=0:=by
    grind
   rw[C]at e1;have y:n-h.length=0:=by have:=r.len;lia
   rw[y]at e2;simp at e1 e2;subst e1;subst e2;rw[aR];exact F.le l
def RH.put(r:RH K mg U H h){n:Nat}{a:Addr}(e:U[n]?=J a){o:MO}{ho:HO}(y:RO K mg U H a o (J ho))(hd:∃o0,h[n]?=J o0/\o0.fzd=T:=by exact⟨_,by assumption,rfl⟩):RH K mg U (l_ H a ho) (h.set n o)/\Le U H U (l_ H a ho):=by
 obtain⟨o0,j,q⟩:=r.obj e;obtain⟨P,f,hf⟩:=hd;rw[f]at j;cases j;obtain⟨C,B⟩:=q.plain hf
 have l:Le U H U (l_ H a ho):=⟨⟨[],by simp⟩,λb xs z=>by
   have:b≠a:=by rintro rfl;exact C _ z
   rw[aI this];exact z,λb Q u z=>by
   have:b≠a:=by rintro rfl;exact B _ _ z
   rw[aI this];exact z⟩
 refine⟨⟨by simp[r.len],r.nd,λm b M e1 e2=>?_⟩,l⟩;by_cases i:m=n
 .subst i;rw[e]at e1;cases e1;rw[aR]
  have:m<h.length:=by rw[<-r.len];exact(qi.mp e).1
  rw[zO this]at e2;cases e2;exact y.le l
 .rw[p6 (λz=>i z.symm)]at e2;have O:b≠a:=by
   rintro rfl;have L:=qi.mp e;have G:=qi.mp e1;obtain⟨S,F⟩:=L;obtain⟨R,E⟩:=G;exact i ((List.getElem_inj r.nd).mp (E.trans F.symm))
  rw[aI O];exact(r.at' m b M e1 e2).le l
def RH.tup(r:RH K mg U H h){p:Addr}(f:H p=Y)(ys:List V):RH K mg U (l_ H p (.tup ys)) h/\Le U H U (l_ H p (.tup ys)):=by
 have i:∀n a,U[n]?=J a->a≠p:=λn a e z=>by
  obtain⟨y,_,q⟩:=r.obj e;rw[z,f]at q;exact q.some rfl
 have l:Le U H U (l_ H p (.tup ys)):=⟨⟨[],by simp⟩,λa xs e=>by rw[aI (bC e f)];exact e,λa j u e=>by rw[aI (bC e f)];exact e⟩;exact⟨⟨r.len,r.nd,λn a o e1 e2=>by rw[aI (i n a e1)];exact(r.at' n a o e1 e2).le l⟩,l⟩
end
def RS(K:hH)(U:QR)(H:Hp)(a:n8)(Z:L2.St):Prop :=
 Z.length=a.length/\∀(i:Nat)(v:PV),a[i]?=J (J v)->∃f,Z[i]?=J (J f)/\RP K U H v f
def RS.le{K:hH}{U f:QR}{H a:Hp}{σp:n8}{Z:L2.St}(l:Le U H f a)(r:RS K U H σp Z):RS K f a σp Z :=
 ⟨r.1,λi v e=>by obtain⟨j,u,q⟩:=r.2 i v e;exact⟨j,u,q.le l⟩⟩
def RS.set{K:hH}{U:QR}{H:Hp}{a:n8}{Z:L2.St}(r:RS K U H a Z)(i:Nat){v:PV}{f:V}(q:RP K U H v f):RS K U H (a.set i (J v)) (Z.set i (J f)):=by
 refine⟨by simp[r.1],λj u e=>?_⟩;by_cases l:j=i
 .subst l;by_cases hl:j<a.length
  .rw[zO hl]at e;cases e;exact⟨f,zO (by rw[r.1];exact hl),q⟩
  .rw[AN (by simp;lia)]at e;cases e
 .rw[p6 (λz=>l z.symm)]at e;obtain⟨y,B,C⟩:=r.2 j u e;exact⟨y,by rw[p6 (λz=>l z.symm)];exact B,C⟩
def OO(B:Heap)(fs:QR)(h:Heap):Prop:=∀b o,h.get? b=J o->b∉fs->∃a,B.get? b=J a
def MD(l:List Env)(H:Hp)(a:Heap)(C f:Addr)(h:Heap):Prop :=
 ∃B t,Heap.FlyingW B l f (.ref C) (.ref t) h/\(∀b o,H b=J o->∃i,B.get? b=J i)/\OO B (x4 l) a/\H f=Y
structure Bf(X:Cx)(h:Heap):Prop where
 old:∀b o,X.s₀.heap.get? b=J o->b∉X.ex->∃o',h.get? b=J o'
 cell:∀x c,X.env.cells.lookup x=J c->∃o,h.get? c=J o
 pin:∀p∈X.pn,∃o,h.get? p.1=J o
def Inv.bears{X:Cx}{f:QT}{Z:L2.St}{H:Hp}{s:Shared}(a:Inv X f Z H s):Bf X s.heap :=
 ⟨λb o e n=>a.base.there b o e n,λx c e=>let⟨_,o,j,_⟩:=a.cell x c e;⟨o,j⟩,λp i=>⟨_,(a.pin p (Hd _ i)).1⟩⟩
def XP(X:Cx)(l:n8)(U:QR)(H:Hp)(x:AG)(h:MH):Prop:=∀(u C:Addr)(j:QR)(a:Hp)(y:L2.St)(i:Shared)(f:Heap),x.fs=[]->X.mg x.cls=J (.ref C)->Le U H j a->RH X.K X.mg j a h->RS X.K j a l y ->
 Inv X [] y a i->Bf X f->MD X.stack a f C u i.heap->X.xe (.ref u) i
structure DC(h h':Heap)(e C:Addr):Prop where
 keeps:∀b o,h.get? b=J o->h'.get? b=J o
 new:h.get? e=Y
 there:∃t dx,h'.get? e=J { cls:=.ref C,dict:=dx,data:=.fields #[.ref t,.none,.none,.none,.bool T,.none]}
def XM(X:Cx)(j:n8)(U:QR)(H:Hp)(x:AG)(h:MH):Prop:=∀(l C:Addr)(i:QR)(a:Hp)(u:L2.St)(f:Shared)(y:Heap),x.fs=[]->X.mg x.cls=J (.ref C)->Le U H i a->RH X.K X.mg i a h->RS X.K i a j u ->
 Inv X [] u a { f with heap:=y}->DC y f.heap l C->X.xe (.ref l) f
def XP.le(l:Le U H U' H')(q:XP X σp U H x h):XP X σp U' H' x h :=
 λf C y u j i a e1 e2 z=>q f C y u j i a e1 e2 (l.trans z)
def XM.le(l:Le U H U' H')(q:XM X σp U H x h):XM X σp U' H' x h :=
 λf C y u j i a e1 e2 z=>q f C y u j i a e1 e2 (l.trans z)
abbrev Rl(α β:Type):=QR->Hp->α->β->Prop
def Ful{α β:Type}(X:Cx)(R:Rl α β)(f:n8)(U:QR)(H:Hp)(o:Out α)(Q:β->Hp->Prop):Prop:=match o with
 |.ok v j=>∀i a l,Le U H i a->RH X.K X.mg i a j->R i a v l->Q l a
 |.exc x j=>XP X f U H x j
 |.bad=>False
def ji{α β:Type}(X:Cx)(R:Rl α β)(U:QR)(H:Hp)(o:Out α)(Q:β->Hp->Prop):Prop:=match o with
 |.ok v j=>∀f a i,Le U H f a->RH X.K X.mg f a j->R f a v i->Q i a
 |_=>False
def Ful.zero(f:Ful X R σp U H o.ne Q):ji X R U H o Q:=by
 cases o with
 |ok v h=>exact f
 |exc x h=>exact f
 |bad=>exact f
def Ful.le(l:Le U H U1 H1)(f:Ful X R σp U H o Q):Ful X R σp U1 H1 o Q:=by
 cases o with
 |ok v h=>exact λu i a j=>f u i a (l.trans j)
 |exc x h=>exact XP.le l f
 |bad=>exact f
def Ful.bind{α β γ δ:Type}{X:Cx}{R:Rl α β}{S:Rl γ δ}{a:n8}{U:QR}{H:Hp}{o:Out α}{f:α->MH->Out γ}{Q:δ->Hp->Prop}{z:β->Hp->Prop}(q:Ful X S a U H (o.bind f) Q)(k:∀j i v u y,o=.ok v y->Le U H j i->RH X.K X.mg j i y->R j i v u->Ful X S a j i (f v y) Q->z u i):Ful X R a U H o z:=by
 cases o with
 |ok v h=>exact λC B u l r w=>k C B v u h rfl l r w (Ful.le l q)
 |exc x h=>exact q
 |bad=>exact q
abbrev RV'(X:Cx):Rl PV V:=λU H=>RP X.K U H
abbrev RVs'(X:Cx):Rl (QL) (List V):=λU H=>RPs X.K U H
abbrev IL{α:Type}:Rl α α:=λ_ _ x y=>x=y
abbrev Mx(α:Type):=n8->MH->Out α
inductive tM{α β:Type}(X:Cx)(R:Rl α β)(m:Mx α)(Z:L2.St)(H:Hp)(Q:β->Hp->Prop):Prop
 |mk(U:QR)(σp:n8)(h:MH)(rs:RS X.K U H σp Z)(rh:RH X.K X.mg U H h)(q:Ful X R σp U H (m σp h) Q):tM X R m Z H Q
def ME(X:Cx)(e:Expr)(m:Mx PV):Prop:=PE X e (tM X (RV' X) m)
def MT(X:Cx)(e:Expr)(m:Mx Bool):Prop:=PT X e (tM X IL m)
def MW(X:Cx)(e:Expr)(m:Mx Bool):Prop:=PW X e (tM X IL m)
def MA(X:Cx)(a:QW)(m:Mx (QL)):Prop:=PA X a (tM X (RVs' X) m)
def PE.imp(h:PE X e t)(i:∀Z H Q,t' Z H Q->t Z H Q):PE X e t':=λf s Z H Q a q=>h f s Z H Q a (i Z H Q q)
def PT.imp(h:PT X e t)(i:∀Z H Q,t' Z H Q->t Z H Q):PT X e t':=λf s Z H Q a q=>h f s Z H Q a (i Z H Q q)
def PW.imp(h:PW X e t)(i:∀Z H Q,t' Z H Q->t Z H Q):PW X e t':=λa j s Z H Q f q=>h a j s Z H Q f (i Z H Q q)
def PA.imp(h:PA X e t)(i:∀Z H Q,t' Z H Q->t Z H Q):PA X e t':=λf j s Z H Q a q=>h f j s Z H Q a (i Z H Q q)
def PS.imp(h:PS X e t)(i:∀D Z H,t' D Z H->t D Z H):PS X e t':=λf s Z H D a q=>h f s Z H D a (i D Z H q)
def PSs.imp(h:PSs X e t)(i:∀D Z H,t' D Z H->t D Z H):PSs X e t':=λf s Z H D a q=>h f s Z H D a (i D Z H q)
def bg(X:Cx)(U:QR)(H:Hp)(o:SOut)(D:Ends):Prop:=match o with
 |.nx a j=>∀i f l,Le U H i f->RH X.K X.mg i f j->RS X.K i f a l->D.nx l f
 |.bk a j=>∀i f l,Le U H i f->RH X.K X.mg i f j->RS X.K i f a l->D.bk l f
 |.ct a j=>∀i f l,Le U H i f->RH X.K X.mg i f j->RS X.K i f a l->D.ct l f
 |.rt v j=>∀i f u,Le U H i f->RH X.K X.mg i f j->RP X.K i f v u->D.rt u f
 |.exc x a j=>XP X a U H x j
 |.rse x a j=>XM X a U H x j
 |.bad=>False
def bg.le(l:Le U H U1 H1)(f:bg X U H o D):bg X U1 H1 o D:=by
 cases o with
 |nx a h=>exact λy j i u=>f y j i (l.trans u)
 |bk a h=>exact λy j i u=>f y j i (l.trans u)
 |ct a h=>exact λy j i u=>f y j i (l.trans u)
 |rt v h=>exact λy j i u=>f y j i (l.trans u)
 |exc x a h=>exact XP.le l f
 |rse x a h=>exact XM.le l f
 |bad=>exact f
abbrev nr:=n8->MH->SOut
inductive Lb(X:Cx)(m:nr)(D:Ends)(Z:L2.St)(H:Hp):Prop
 |mk(U:QR)(σp:n8)(h:MH)(rs:RS X.K U H σp Z)(rh:RH X.K X.mg U H h)(q:bg X U H (m σp h) D):Lb X m D Z H
def MS(X:Cx)(st:Stmt)(m:nr):Prop:=PS X st (Lb X m)
def Aj(X:Cx)(st:QC)(m:nr):Prop:=PSs X st (Lb X m)
section
variable{X:Cx}{N W G:QM}{k:Nat}
structure Good(X:Cx)(N W G:QM)(k:Nat):Prop where
 hN:X.N=N
 nd:N.Nodup
 loc:∀x∈N,Loc X.env.scope x
 fn:∀x∈W,X.fn x=I\/X.env.scope.names.lookup x=J .local
 gl:∀x∈G,Gl X x
 dbg:∀x∈N++G,(x==("__debug__":Str))=T/\(x==("__classdict__":Str))=T/\x≠"__name__"
 calm:X.calm=I
 room:Room k X.A
 po:PassesOwn (model X.prog X.w) X.A X.env X.xe
def Good.x(g:Good X N W G k){i:Nat}{x:Str}(a:N[i]?=J x):X.N[i]?=J x:=by rw[g.hN];exact a
def aL{l:QM}{i:Nat}{x:Str}(a:l[i]?=J x):x∈l:=Ab a
def rJ(X:Cx)(g:PV->PV->MH->QX):R2:=λa f H Q=>∃U h x y,RH X.K X.mg U H h/\RP X.K U H x a/\RP X.K U H y f/\ji X (RV' X) U H (g x y h) Q
abbrev y_(X:Cx)(f:Value->Value->Sem Value)(g:PV->PV->MH->QX):Prop:=OpR X f (rJ X g)
def uJ(X:Cx)(g:PV->MH->QX):V->Hp->VK->Prop:=λa H Q=>∃U h x,RH X.K X.mg U H h/\RP X.K U H x a/\ji X (RV' X) U H (g x h) Q
abbrev OP(X:Cx)(f:Value->Sem Value)(g:PV->MH->QX):Prop:=K_ X f (uJ X g)
def cJ(X:Cx)(g:QL->MH->QX):List V->Hp->VK->Prop:=λa H Q=>∃U h xs,RH X.K X.mg U H h/\RPs X.K U H xs a/\ji X (RV' X) U H (g xs h) Q
abbrev cK(X:Cx)(f:Value)(g:QL->MH->QX):Prop:=cU X f (cJ X g)
def af(i:Nat):Mx PV:=λZ h=>match Z[i]? with
 |some (J v)=>.ok v h
 |_=>.bad
def mC(v:PV):Mx PV:=λ_ h=>.ok v h
def xE(g:Good X N W G k)(i:Nat){x:Str}{l:Pos}(j:N[i]?=J x):ME X (.Name x l) (af i):=by
 have d:=g.dbg x (Hd _ (aL j));have hv:Ho X.env.scope x:=by
  rcases g.loc x (aL j)with q|q
  .exact .inl q
  .exact .inr (.inl q)
 refine PE.imp (kM (g.x j) hv d.1 d.2.1) λZ H Q ⟨U,a,h,z,y,f⟩=>?_;unfold af at f
 cases e:a[i]? with
 |none=>rw[e]at f;exact f.elim
 |some o =>
  rw[e]at f
  cases o with
  |none=>exact f.elim
  |some v =>
   obtain⟨u,B,r⟩:=z.2 i v e;exact⟨u,B,f U H u (Le.refl _ _) y r⟩
def aC:ME X (.Constant (.int i) j pos) (mC (.int i)):=PE.imp ED λ_ H _ ⟨U,_,_,_,a,f⟩=>f U H _ (Le.refl _ _) a (.int i)
def qN:ME X (.Constant (.bool i) j pos) (mC (.bl i)):=PE.imp HY λ_ H _ ⟨U,_,_,_,a,f⟩=>f U H _ (Le.refl _ _) a (.bl i)
def n6:ME X (.Constant .none j pos) (mC .non):=PE.imp wZ λ_ H _ ⟨U,_,_,_,a,f⟩=>f U H _ (Le.refl _ _) a .non
def ay(f:PV->PV->MH->QX)(a l:Mx PV):Mx PV:=λZ h=>(a Z h).bind λx j=>(l Z j).bind λy i=>(f x y i).ne
def IM(f:PV->MH->QX)(a:Mx PV):Mx PV:=λZ h=>(a Z h).bind λx i=>(f x i).ne
def q0{f:PV->PV->MH->QX}{l u:Mx PV}{Z:L2.St}{H:Hp}{Q:VK}(q:tM X (RV' X) (ay f l u) Z H Q):Io (rJ X f) (tM X (RV' X) l) (tM X (RV' X) u) Z H Q:=by obtain⟨U,a,h,z,L,q⟩:=q;refine⟨U,a,h,z,L,Ful.bind q λC H1 x x' P _ l1 i B E=>?_⟩;refine⟨C,a,P,z.le l1,i,Ful.bind E λM H2 y y' O _ R j S F=>?_⟩;exact⟨M,O,x,y,j,B.le R,S,F.zero⟩
def aN(i:y_ X (binaryOp op) f)(l:ME X a ma)(j:ME X b mb):ME X (.BinOp a op b pos) (ay f ma mb) :=
 PE.imp (Ip i l j) λ_ _ _ q=>q0 q
def IN(l:OP X (unaryOp op) f)(B:ME X a ma):ME X (.UnaryOp op a pos) (IM f ma) :=
 PE.imp (Iq l B) λ_ _ _ ⟨U,i,h,z,F,q⟩=>⟨U,i,h,z,F,Ful.bind q λC M x H y _ L j u E=>⟨C,y,x,j,u,E.zero⟩⟩
def wR(i:y_ X (compareOp op) f)(u:ME X a ma)(l:ME X b mb)(j:behindInMarks op b=T):ME X (.Compare a [op] [b] pos) (ay f ma mb) :=
 PE.imp (BL i u l j) λ_ _ _ q=>q0 q
def mB(m:Mx PV):Mx Bool:=λZ h=>(m Z h).bind λv a=>match v with
 |.bl b=>.ok b a
 |_=>.bad
def IQ(q:tM X IL (mB m) Z H Q):tM X (RV' X) m Z H λx i=>∃c,x=.bl c/\Q c i:=by
 obtain⟨U,a,h,z,y,q⟩:=q;refine⟨U,a,h,z,y,Ful.bind q λu i x B C _ E f l j=>?_⟩
 cases l with
 |bl b=>exact⟨b,rfl,j u i b (Le.refl _ _) f rfl⟩
 |_=>exact j.elim
def yj(j:y_ X (compareOp op) f)(z:ME X a ma)(y:ME X b mb)(l:behindInMarks op b=T):MT X (.Compare a [op] [b] pos) (mB (ay f ma mb)) :=
 PT.imp (BM j z y l) λZ H Q q=>by
  obtain⟨U,i,h,u,B,q⟩:=IQ q;exact q0 ⟨U,i,h,u,B,q⟩
def li(h:ME X e m)(f:∀a,isTrue e X.env a=(do let v <-a;standAt e.pos;holding [v] (truthy v)):=by intro _;rfl):MT X e (mB m) :=
 PT.imp (EF h f) λ_ _ _ q=>IQ q
def mz(m:Mx Bool):Mx Bool:=λZ h=>(m Z h).bind λb a=>.ok (!b) a
def kQ(h:MT X e m):MT X (.UnaryOp .Not e pos) (mz m) :=
 PT.imp (EH h) λ_ _ _ ⟨U,a,h,j,z,q⟩=>⟨U,a,h,j,z,Ful.bind q λl y x B E _ C f i u=>by
  cases i;exact u l y _ (Le.refl _ _) f rfl⟩
def Ht(a b:Mx Bool):Mx Bool:=λZ h=>(a Z h).bind λx f=>if x=I then .ok I f else b Z f
section
variable{a b:Expr}{rest:QW}{ma mb:Mx Bool}{pos:Pos}
def qS(f:MT X a ma):MW X (.BoolOp .Or [a] pos) ma:=EG f
def qH(E:MT X a ma)(C:MW X (.BoolOp .Or (b::rest) pos) mb):MW X (.BoolOp .Or (a::b::rest) pos) (Ht ma mb) :=
 PW.imp (HZ E C) λZ H Q ⟨U,f,h,u,z,q⟩=>⟨U,f,h,u,z,Ful.bind q λj F x M B _ L i y l=>by
  cases y
  cases x with
  |true=>exact l j F _ (Le.refl _ _) i rfl
  |false=>exact⟨j,f,B,u.le L,i,l⟩⟩
def MW.mt(h:MW X e m):MT X e m:=PW.pt h
end
def wj(a b:Mx PV):Mx PV:=λZ h=>(a Z h).bind λx f=>match x with
 |.bl c=>if c=I then b Z f else .ok (.bl T) f
 |_=>.bad
def BX(a b:Mx PV):Mx PV:=λZ h=>(a Z h).bind λx f=>match x with
 |.bl c=>if c=I then .ok (.bl I) f else b Z f
 |_=>.bad
def vP(a:Mx PV):Mx PV:=λZ h=>(a Z h).bind λx f=>match x with
 |.bl c=>.ok (.bl (!c)) f
 |_=>.bad
section
variable{a b:Expr}{rest:QW}{ma mb:Mx PV}{pos:Pos}
def wu(f:ME X a ma):ME X (.BoolOp op [a] pos) ma:=EJ f
def Fb(E:ME X a ma)(C:ME X (.BoolOp .And (b::rest) pos) mb):ME X (.BoolOp .And (a::b::rest) pos) (wj ma mb) :=
 PE.imp (EK E C) λZ H Q ⟨U,f,h,u,z,q⟩=>⟨U,f,h,u,z,Ful.bind q λl F x M B _ L i y j=>by
  cases y with
  |bl c =>
   refine⟨c,rfl,?_⟩
   cases c with
   |true=>exact⟨l,f,B,u.le L,i,j⟩
   |false=>exact j l F _ (Le.refl _ _) i (.bl T)
  |_=>exact j.elim⟩
def IR(E:ME X a ma)(C:ME X (.BoolOp .Or (b::rest) pos) mb):ME X (.BoolOp .Or (a::b::rest) pos) (BX ma mb) :=
 PE.imp (Ib E C) λZ H Q ⟨U,f,h,u,z,q⟩=>⟨U,f,h,u,z,Ful.bind q λl F x M B _ L i y j=>by
  cases y with
  |bl c =>
   refine⟨c,rfl,?_⟩
   cases c with
   |true=>exact j l F _ (Le.refl _ _) i (.bl I)
   |false=>exact⟨l,f,B,u.le L,i,j⟩
  |_=>exact j.elim⟩
def Fc(B:ME X a ma):ME X (.UnaryOp .Not a pos) (vP ma) :=
 PE.imp (EL B) λZ H Q ⟨U,f,h,z,y,q⟩=>⟨U,f,h,z,y,Ful.bind q λu C x E F _ L i l j=>by
  cases l with
  |bl c=>exact⟨c,rfl,j u C _ (Le.refl _ _) i (.bl _)⟩
  |_=>exact j.elim⟩
def Fd(c:Mx Bool)(a b:Mx PV):Mx PV:=λZ h=>(c Z h).bind λx f=>if x=I then a Z f else b Z f
def Fe(L:MT X c mc)(F:ME X a ma)(E:ME X b mb):ME X (.IfExp c a b pos) (Fd mc ma mb) :=
 PE.imp (yC L F E) λZ H Q ⟨U,f,h,j,C,q⟩=>⟨U,f,h,j,C,Ful.bind q λl O x M y _ z i B u=>by
  cases B
  cases x with
  |true=>exact⟨l,f,y,j.le z,i,u⟩
  |false=>exact⟨l,f,y,j.le z,i,u⟩⟩
end
def b_:Mx (QL):=λ_ h=>.ok [] h
def ae(a:Mx PV)(r:Mx (QL)):Mx (QL):=λZ h=>(a Z h).bind λx i=>(r Z i).bind λxs f=>.ok (x::xs) f
def aD:MA X [] b_:=PA.imp jG λZ H Q ⟨U,a,h,i,f,q⟩=>q U H _ (Le.refl _ _) f .nil
def ah(R:ME X e m)(hr:MA X es ms)(u:starEach (e::es) X.env=(T,eval e X.env)::starEach es X.env:=by rfl):MA X (e::es) (ae m ms) :=
 PA.imp (dC R hr u) λZ H Q ⟨U,a,h,j,E,q⟩=>⟨U,a,h,j,E,Ful.bind q λz H1 x x' M _ S f l B =>
  ⟨z,a,M,j.le S,f,Ful.bind B λL F y y' h2 _ O i P C=>C L F _ (Le.refl _ _) i (.cons (l.le O) P)⟩⟩
def tr(xs:QL)(h:MH):QX:=if xs.length<=sizeLine then .ok (.loc h.length) (h++[.lst xs])else .bad
def nc(xs:QL)(h:MH):QX:=if xs.length<=sizeLine then .ok (.tup xs) h else .bad
def lO{U:QR}{H:Hp}{h:MH}{xs:QL}{ys:List V}{Q:VK}(i:RH X.K X.mg U H h)(a:RPs X.K U H xs ys)(f:ji X (RV' X) U H (tr xs h) Q):ys.length<=sizeLine/\∀p,H p=Y->Q (.ref p) (l_ H p (.lst ys)):=by
 unfold tr at f
 split at f
 .rename_i hl
  refine⟨by rw[<-a.length];exact hl,λp l=>?_⟩;obtain⟨u,j⟩:=i.new l (o:=.lst xs) ⟨ys,rfl,a⟩;refine f _ _ _ j u (.loc ?_);rw[<-i.len];simp
 .exact f.elim
def uz{U:QR}{H:Hp}{h:MH}{xs:QL}{ys:List V}{Q:VK}(u:RH X.K X.mg U H h)(i:RPs X.K U H xs ys)(f:ji X (RV' X) U H (nc xs h) Q):ys.length<=sizeLine/\∀p,H p=Y->Q (.ref p) (l_ H p (.tup ys)):=by
 unfold nc at f
 split at f
 .rename_i hl
  refine⟨by rw[<-i.length];exact hl,λp j=>?_⟩;obtain⟨l,a⟩:=u.tup j ys;exact f _ _ _ a l (.tup (.inl (.inl aR)) (i.le a))
 .exact f.elim
def Ff{a:n8}{U:QR}{H:Hp}{h:MH}{xs:QL}{Q:VK}(f:Ful X (RV' X) a U H (tr xs h) Q):ji X (RV' X) U H (tr xs h) Q:=by
 unfold tr at f ⊢
 split at f
 .rw[e_ (by assumption)];exact f
 .exact f.elim
def Fg{a:n8}{U:QR}{H:Hp}{h:MH}{xs:QL}{Q:VK}(f:Ful X (RV' X) a U H (nc xs h) Q):ji X (RV' X) U H (nc xs h) Q:=by
 unfold nc at f ⊢
 split at f
 .rw[e_ (by assumption)];exact f
 .exact f.elim
def fV(m:Mx (QL)):Mx PV:=λZ h=>(m Z h).bind tr
def cY(m:Mx (QL)):Mx PV:=λZ h=>(m Z h).bind nc
def wI(h:MA X es ms):ME X (.List es pos) (fV ms) :=
 PE.imp (E2 h) λZ H Q ⟨U,a,h,u,l,q⟩=>⟨U,a,h,u,l,Ful.bind q λy C x z B _ E f i j=>lO f i (Ff j)⟩
def Fh(h:MA X es ms):ME X (.Tuple es j pos) (cY ms) :=
 PE.imp (yc h) λZ H Q ⟨U,a,h,y,u,q⟩=>⟨U,a,h,y,u,Ful.bind q λz E x B C _ F f i l=>uz f i (Fg l)⟩
def SOut.then(o:SOut)(k:nr):SOut:=match o with
 |.nx Z h=>k Z h
 |o=>o
def aQ(a b:nr):nr:=λZ h=>(a Z h).then b
def n7:nr:=λZ h=>.nx Z h
def eZ:Aj X [] n7:=PSs.imp BG λD Z H ⟨U,f,h,a,i,q⟩=>q U H Z (Le.refl _ _) i a
def BY{st:Stmt}{m:nr}(h:MS X st m):Aj X [st] m:=pd h
def bg.then{U:QR}{H:Hp}{o:SOut}{k:nr}{D:Ends}(q:bg X U H (o.then k) D):bg X U H o { D with nx:=λZ H=>Lb X k D Z H}:=by
 cases o with
 |nx a h=>exact λf i j l r s=>⟨f,a,h,s,r,bg.le l q⟩
 |_=>exact q
def ze{st:Stmt}{rest:QC}{m u:nr}(i:MS X st m)(f:Aj X rest u):Aj X (st::rest) (aQ m u) :=
 PSs.imp (rm i f) λD Z H ⟨U,a,h,j,l,q⟩=>⟨U,a,h,j,l,bg.then q⟩
def bO(m:Mx PV):nr:=λZ h=>match m Z h with
 |.ok v a=>.rt v a
 |.exc x a=>.exc x Z a
 |.bad=>.bad
def Fi(j:ME X e m):MS X (.Return (J e) pos) (bO m) :=
 PS.imp (EM j) λD Z H ⟨U,a,h,f,l,q⟩=>⟨U,a,h,f,l,by
  unfold bO at q
  cases e:m a h with
  |ok v i=>rw[e]at q;exact q
  |exc x i=>rw[e]at q;exact q
  |bad=>rw[e]at q;exact q⟩
def vC{α:Type}(m:Mx α)(k:α->nr):nr:=λZ h=>match m Z h with
 |.ok v a=>k v Z a
 |.exc x a=>.exc x Z a
 |.bad=>.bad
def bg.ex{α β:Type}{R:Rl α β}{m:Mx α}{k:α->nr}{U:QR}{H:Hp}{a:n8}{h:MH}{D:Ends}{Q:β->Hp->Prop}(q:bg X U H (vC m k a h) D)(w:∀i f v j u,Le U H i f->RH X.K X.mg i f u->R i f v j->bg X i f (k v a u) D->Q j f):Ful X R a U H (m a h) Q:=by
 unfold vC at q
 cases e:m a h with
 |ok v y=>rw[e]at q;exact λi f j l r z=>w i f v j y l r z (bg.le l q)
 |exc x y=>rw[e]at q;exact q
 |bad=>rw[e]at q;exact q
def fM(m:Mx PV):nr:=vC m λ_=>n7
def hZ{e:Expr}{m:Mx PV}{a:Pos}(B:ME X e m)(j:swapsWith e Y a.line X.env=pure T:=by rfl):MS X (.Expr e a) (fM m) :=
 PS.imp (uB B j) λD Z H ⟨U,f,h,i,y,q⟩=>⟨U,f,h,i,y,bg.ex q λu C v E F l r z w=>w u C Z (Le.refl _ _) r (i.le l)⟩
def Ax(c:Mx Bool)(a b:nr):nr:=vC c λx=>if x=I then a else b
def hR{c:Expr}{a b:QC}{y:Mx Bool}{u E:nr}{j:Pos}(O:MT X c y)(M:Aj X a u)(L:Aj X b E):MS X (.If c a b j) (Ax y u E) :=
 PS.imp (Ig O M L) λD Z H ⟨U,f,h,i,F,q⟩=>⟨U,f,h,i,F,bg.ex q λB Q v P C l r z w=>by
  cases z
  cases v with
  |true=>exact⟨B,f,C,i.le l,r,w⟩
  |false=>exact⟨B,f,C,i.le l,r,w⟩⟩
def aV(i:Nat)(m:Mx PV):nr:=vC m λv Z h=>.nx (Z.set i (J v)) h
def rD(g:Good X N W G k)(i:Nat){x:Str}{e:Expr}{m:Mx PV}{f a:Pos}(u:N[i]?=J x)(hw:W[i]?=J x)(F:ME X e m)(B:swapsWith e (J (.Name x a)) f.line X.env=pure T:=by rfl):
  MS X (.Assign [.Name x a] e f) (aV i m):=by
 refine PS.imp (w6 (by rw[g.hN];exact g.nd) (g.x u) (g.loc x (aL u)) F B (g.fn x (aL hw))) λD Z H ⟨U,j,h,y,E,q⟩=>?_;exact⟨U,j,h,y,E,bg.ex q λC L v M O l r z w=>w C L _ (Le.refl _ _) r ((y.le l).set i z)⟩
end
section
variable{X:Cx}{N W G:QM}{k:Nat}
abbrev Mg:=PV->nr
def mO(X:Cx)(U:QR)(H:Hp)(o:SOut)(Q:L2.St->Hp->Prop):Prop:=match o with
 |.nx a j=>∀i f l,Le U H i f->RH X.K X.mg i f j->RS X.K i f a l->Q l f
 |.exc x a j=>XP X a U H x j
 |_=>False
def mO.le(l:Le U H U1 H1)(f:mO X U H o Q):mO X U1 H1 o Q:=by
 cases o with
 |nx a h=>exact λy j i u=>f y j i (l.trans u)
 |exc x a h=>exact XP.le l f
 |_=>exact f
inductive tG(X:Cx)(g:Mg)(v':V)(Z:L2.St)(H:Hp)(Q:L2.St->Hp->Prop):Prop
 |mk(U:QR)(σp:n8)(h:MH)(v:PV)(rs:RS X.K U H σp Z)(rh:RH X.K X.mg U H h)(rv:RP X.K U H v v')(q:mO X U H (g v σp h) Q):tG X g v' Z H Q
def MG(X:Cx)(a:Expr)(g:Mg):Prop:=PG X a (tG X g)
def PG.imp(h:PG X e t)(i:∀v Z H Q,t' v Z H Q->t v Z H Q):PG X e t':=λf s Z H v u Q a r q=>h f s Z H v u Q a r (i v Z H Q q)
def mA(i:Nat):Mg:=λv Z h=>.nx (Z.set i (J v)) h
def ue(g:Good X N W G k)(i:Nat)(a:N[i]?=J x)(hw:W[i]?=J x):MG X (.Name x pos) (mA i) :=
 PG.imp (uk (by rw[g.hN];exact g.nd) (g.x a) (g.loc x (aL a)) (g.fn x (aL hw))) λy Z H Q ⟨U,l,h,v,f,u,j,q⟩=>q U H _ (Le.refl _ _) u (f.set i j)
abbrev BZ:=QL->nr
inductive OQ(X:Cx)(g:BZ)(v':List V)(Z:L2.St)(H:Hp)(Q:L2.St->Hp->Prop):Prop
 |mk(U:QR)(σp:n8)(h:MH)(v:QL)(rs:RS X.K U H σp Z)(rh:RH X.K X.mg U H h)(rv:RPs X.K U H v v')(q:mO X U H (g v σp h) Q):OQ X g v' Z H Q
def IS(X:Cx)(a:QW)(g:BZ):Prop:=PGs X a (OQ X g)
def PGs.imp(h:PGs X e t)(i:∀v Z H Q,t' v Z H Q->t v Z H Q):PGs X e t':=λf s Z H v u Q a r q=>h f s Z H v u Q a r (i v Z H Q q)
def wv:BZ:=λa Z h=>match a with
 |[]=>.nx Z h
 |_=>.bad
def qb(a:Mg)(r:BZ):BZ:=λi Z h=>match i with
 |v::f=>(a v Z h).then (r f)
 |[]=>.bad
def f8:IS X [] wv:=PGs.imp BH λl Z H Q ⟨U,i,h,v,a,j,f,q⟩=>by
 cases f with
 |nil=>exact⟨rfl,q U H Z (Le.refl _ _) j a⟩
 |cons _ _=>exact q.elim
def bD(i:MG X e a)(F:IS X es r)(u:(assignEach (e::es) X.env).map (·.2)=assign e X.env::(assignEach es X.env).map (·.2):=by rfl):IS X (e::es) (qb a r) :=
 PGs.imp (yT i F u) λR Z H Q ⟨U,f,h,v,O,B,P,q⟩=>by
  cases P with
  |nil=>exact q.elim
  |@cons x y xs ys j E =>
   refine⟨_,_,rfl,U,f,h,x,O,B,j,?_⟩;dsimp only[qb]at q
   cases e:a x f h with
   |nx L i=>rw[e]at q;exact λM S Z' l C z=>⟨M,L,i,xs,z,C,E.le l,mO.le l q⟩
   |_=>rw[e]at q;exact q
def wy(r:BZ)(n:Nat):Mg:=λv Z h=>match v with
 |.tup xs=>if xs.length=n then r xs Z h else .bad
 |_=>.bad
def iz(g:Good X N W G k){a:QW}{j:Nat}{r:BZ}{n:Nat}{l:Pos}(h:IS X a r)(y:(assignEach a X.env).length=n:=by rfl)(i:(assignEach a X.env).findIdx? (·.1)=Y:=by rfl):
  MG X (.Tuple a j l) (wy r n) :=
 PG.imp (EN g.calm h y i) λE Z H Q ⟨U,f,h,v,B,z,C,q⟩=>by
  cases C with
  |tup s u =>
   dsimp only[wy]at q
   split at q
   .rename_i hl
    exact⟨_,_,rfl,s,by rw[<-u.length];exact hl,U,f,h,_,B,z,u,q⟩
   .exact q.elim
  |_=>exact q.elim
def kZ(m:Mx PV)(g:Mg):nr:=vC m λv Z h=>match g v Z h with
 |.nx f a=>.nx f a
 |.exc x f a=>.exc x f a
 |_=>.bad
def nR{f e:Expr}{m:Mx PV}{g:Mg}{i:Pos}(E:ME X e m)(hg:MG X f g)(y:swapsWithSole [f] e i.line X.env=pure T:=by rfl)(hw:swappedStores [f] e X.env=pure Y:=by rfl)(j:(assignEach [f] X.env).map (·.2)=[assign f X.env]:=by rfl):MS X (.Assign [f] e i) (kZ m g) :=
 PS.imp (EQ E hg y hw j) λD Z H ⟨U,a,h,u,C,q⟩=>⟨U,a,h,u,C,bg.ex q λB L v F j l r z w=>⟨B,a,j,v,u.le l,r,z,by
  cases e:g v a j with
  |_=>rw[e]at w;exact w⟩⟩
def Fj(i j:Nat)(m:Mx (QL)):nr:=vC m λa Z h=>match a with
 |[v,w]=>.nx ((Z.set i (J v)).set j (J w)) h
 |_=>.bad
def Fk(g:Good X N W G k)(i j:Nat)(P:N[i]?=J x)(S:N[j]?=J y)(u:i≠j)(Q:MA X [a,b] m)(M:X.env.scope.names.lookup x=J .local)(O:X.env.scope.names.lookup y=J .local)(hw:swappedStores [.Tuple [.Name x px,.Name y py] kt pt] (.Tuple [a,b] k2 pt2) X.env=pure (J [x,y]))(C:swapsWithSole [.Tuple [.Name x px,.Name y py] kt pt] (.Tuple [a,b] k2 pt2) pos.line X.env=pure T:=by rfl):
  MS X (.Assign [.Tuple [.Name x px,.Name y py] kt pt] (.Tuple [a,b] k2 pt2) pos) (Fj i j m) :=
 PS.imp (ER g.calm (by rw[g.hN];exact g.nd) (g.x P) (g.x S) u M O Q hw C) λD Z H ⟨U,f,h,B,F,q⟩=>⟨U,f,h,B,F,bg.ex q λE R v v' h1 l r z w=>by
  cases z with
  |nil=>exact w.elim
  |cons z1 z =>
   cases z with
   |nil=>exact w.elim
   |cons L z =>
    cases z with
    |nil=>exact⟨_,_,rfl,w E R _ (Le.refl _ _) r (((B.le l).set i z1).set j L)⟩
    |cons _ _=>exact w.elim⟩
def mK(o i v:PV)(h:MH):Option MH:=match o,i with
 |.loc n,.int j=>(match h[n]? with
  |some (.lst xs)=>(vf xs.length j).map λp=>h.set n (.lst (xs.set p v))
  |_=>Y)
 |_,_=>Y
def Bs(mo f:Mx PV):Mg:=λv=>vC mo λo=>vC f λi Z h=>match mK o i v h with
 |some a=>.nx Z a
 |none=>.bad
def nT(ho:ME X o mo)(hi:ME X i mi)(ha:∀v,assign (.Subscript o i pos) X.env v=(do
   let ov <-holding [v] (eval o X.env)
   let z <-holding [v,ov] (eval i X.env)
   standAt pos
   holding [v,ov,z] (setItem ov z v)
   release [v,ov,z] []):=by intro _;rfl):MG X (.Subscript o i pos) (Bs mo mi) :=
 PG.imp (EO ho hi yo ha) λv' Z H Q ⟨U,f,h,v,L,rh,rv,q⟩=>by
  refine⟨U,f,h,L,rh,?_⟩;unfold Bs vC at q
  cases e:mo f h with
  |exc x F=>rw[e]at q;exact q
  |bad=>rw[e]at q;exact q
  |ok ov F =>
   rw[e]at q;intro U1 H1 o' l E ro;refine⟨U1,f,F,L.le l,E,?_⟩;dsimp only at q
   cases e2:mi f F with
   |exc x h2=>rw[e2]at q;exact XP.le l q
   |bad=>rw[e2]at q;exact q
   |ok z h2 =>
    rw[e2]at q;intro U2 H2 i' y u ri;have B:=ro.le y;have O:=(rv.le l).le y;unfold mK at q
    cases B with
    |@loc n a S =>
     cases ri with
     |int j =>
      dsimp only at q;obtain⟨ob,eo,M⟩:=u.obj S;rw[eo]at q
      cases ob with
      |dic fz ks xs=>exact q.elim
      |exc x=>exact q.elim
      |lst xs =>
       obtain⟨ys,ey,R⟩:=M;dsimp only at q
       cases C:vf xs.length j with
       |none=>rw[C]at q;exact q.elim
       |some p =>
        rw[C]at q;refine⟨a,ys,j,p,rfl,rfl,ey,by rw[<-R.length];exact C,?_⟩;obtain⟨r3,P⟩:=u.put S (o:=.lst (xs.set p v)) ⟨_,rfl,RPs.set O p R⟩;exact q U2 _ Z (l.trans (y.trans P)) r3 (L.le (l.trans (y.trans P)))
     |_=>exact q.elim
    |_=>exact q.elim
structure MIt where
 xs:QL
 gd:List (Nat×QL):=[]
def MIt.ok(a:MIt)(h:MH):Prop:=∀p∈a.gd,h[p.1]?=J (.lst p.2)
def mG(X:Cx):Rl MIt It:=λz y f a=>∀U H h (i:Nat),Le z y U H->RH X.K X.mg U H h->f.ok h ->
 (i<f.xs.length->a.go i H/\∀u j,a.yld i H u j->∃l x,Le U H l j/\RH X.K X.mg l j h/\f.xs[i]?=J x/\RP X.K l j x u)/\(f.xs.length<=i->a.stop i H)
def MI(X:Cx)(f a:Expr)(m:Mx MIt):Prop:=PI X f a (tM X (mG X) m)
def PI.imp(h:PI X tg e t)(i:∀Z H Q,t' Z H Q->t Z H Q):PI X tg e t':=λf s Z H Q a q=>h f s Z H Q a (i Z H Q q)
def vr(i:MIt)(g:Mg)(b:nr):QL->nr
 |[]=>λZ h=>if i.ok h then .nx Z h else .bad
 |x::r=>λZ h=>if i.ok h then (match g x Z h with
   |.nx l j=>(match b l j with
    |.nx f a=>vr i g b r f a
    |.ct f a=>vr i g b r f a
    |.bk f a=>.nx f a
    |.rt v a=>.rt v a
    |.exc e f a=>.exc e f a
    |.rse e f a=>.rse e f a
    |.bad=>.bad)
   |.exc e l j=>.exc e l j
   |_=>.bad)else .bad
def je(f:Mx MIt)(g:Mg)(b:nr):nr:=vC f λa=>vr a g b a.xs
def js(gd:Good X N W G k)(hi:MI X tg iter mi)(hg:MG X tg g)(hb:Aj X body mb)(hs:∀x,foldedSetIterable iter X.env x=pure x:=by intro _;rfl):MS X (.For tg iter body [] pos) (je mi g mb):=by
 refine PS.imp (EU gd.po gd.calm hi hg hb hs) λD Z H ⟨U,l,h,rs,rh,q⟩=>⟨U,l,h,rs,rh,bg.ex q λR H1 j al h1 l1 ab jr w=>?_⟩;refine⟨λi m Z H=>m=j.xs.length-i/\i<=j.xs.length/\∃U l h,Le R H1 U H/\RS X.K U H l Z/\RH X.K X.mg U H h/\bg X U H (vr j g mb (j.xs.drop i) l h) D,⟨_,rfl,Hn _,R,l,h1,Le.refl _ _,rs.le l1,ab,w⟩,?_⟩;rintro i m Z2 H2 ⟨rfl,hi,U2,E,h2,l2,O,F,u⟩;by_cases B:i<j.xs.length
 .have ed:j.xs.drop i=j.xs[i]::j.xs.drop (i+1):=Hc B;rw[ed]at u;unfold vr at u
  split at u
  .rename_i hok
   obtain⟨j1,j2⟩:=jr U2 H2 h2 i l2 F hok;obtain⟨go,yl⟩:=j1 B;refine .inr ⟨go,λZ3 P=>∃S C h3,Le R H1 S P/\RS X.K S P C Z3/\RH X.K X.mg S P h3/\bg X S P (vr j g mb (j.xs.drop (i+1)) C h3) D,λZ3 P z=>⟨_,by ext,rfl,B,z⟩,λx' H' y=>?_⟩;obtain⟨U',x,l',ai,ex,rx⟩:=yl x' H' y;have ak:x=j.xs[i]:=by rw[vE B]at ex;exact(Option.some.inj ex).symm
   subst ak;refine⟨U',E,h2,_,O.le l',ai,rx,?_⟩;have f:=bg.le l' u
   cases eg:g j.xs[i] E h2 with
   |nx Z4 h4 =>
    rw[eg]at f;intro U5 H5 Z5 l5 r5 s5;refine⟨U5,Z4,h4,s5,r5,?_⟩;have a:=bg.le l5 f;have l6:Le R H1 U5 H5:=l2.trans (l'.trans l5);dsimp only at a
    cases em:mb Z4 h4 with
    |nx M L=>rw[em]at a;exact λU7 H7 Z7 Q r7 s7=>⟨U7,M,L,l6.trans Q,s7,r7,bg.le Q a⟩
    |ct M L=>rw[em]at a;exact λU7 H7 Z7 Q r7 s7=>⟨U7,M,L,l6.trans Q,s7,r7,bg.le Q a⟩
    |bk M L=>rw[em]at a;exact a
    |rt v L=>rw[em]at a;exact a
    |exc e M L=>rw[em]at a;exact a
    |rse e M L=>rw[em]at a;exact a
    |bad=>rw[em]at a;exact a
   |exc e Z4 h4=>rw[eg]at f;exact f
   |_=>rw[eg]at f;exact f.elim
  .exact u.elim
 .have e:i=j.xs.length:=by ext
  rw[e,List.drop_length]at u;unfold vr at u
  split at u
  .rename_i hok
   obtain⟨j1,j2⟩:=jr U2 H2 h2 i l2 F hok;exact .inl ⟨j2 (by ext),u U2 H2 Z2 (Le.refl _ _) F O⟩
  .exact u.elim
def DD(v:PV)(h:MH):Out MIt:=match v with
 |.loc n=>(match h[n]? with
  |some (.lst xs)=>.ok ⟨xs,[(n,xs)]⟩ h
  |_=>.bad)
 |.frl xs=>.ok ⟨xs,[]⟩ h
 |_=>.bad
def IT(m:Mx PV):Mx MIt:=λZ h=>(m Z h).bind DD
def uQ(M:∀j f h,Le U H j f->RH X.K X.mg j f h->(⟨xs,gd⟩:MIt).ok h->∃ys,SqL X.K f a ys/\RPs X.K j f xs ys):mG X U H ⟨xs,gd⟩ (Mn X.K a):=by
 intro j f h i l E ok;obtain⟨ys,u,L⟩:=M j f h l E ok;refine⟨λB=>?_,λB=>⟨ys,u,by rw[<-L.length];exact B⟩⟩;have F:=vE B;obtain⟨y,C,O⟩:=L.get F;refine⟨⟨ys,y,u,C⟩,λQ P ⟨e,z⟩=>?_⟩;subst e
 have:=z ys u
 rw[C]at this;cases this;exact⟨j,_,Le.refl _ _,E,F,O⟩
def B0(hl:ME X l m):MI X tg l (IT m) :=
 PI.imp (BI hl) λZ H Q ⟨U,u,h,rs,O,q⟩=>⟨U,u,h,rs,O,Ful.bind q λE F x x' h1 _ l1 i M f=>by
  cases M with
  |@loc n a e =>
   obtain⟨P,R,z⟩:=i.obj e;dsimp only[DD]at f;rw[R]at f
   cases P with
   |dic fz ks xs=>exact f.elim
   |exc x=>exact f.elim
   |lst xs =>
    obtain⟨ys,L,ry⟩:=z;refine⟨a,rfl,⟨ys,SqL.of L⟩,f E F _ (Le.refl _ _) i (uQ λU' S h' l j ok=>?_)⟩;obtain⟨C,B,y⟩:=j.at' n a _ (l.get e) (ok (n,xs) (by simp));exact⟨C,SqL.of B,y⟩
  |frl s r =>
   exact⟨_,rfl,⟨_,s.sq⟩,f E F _ (Le.refl _ _) i (uQ λU' S h' l j ok=>⟨_,(l.sqf s).sq,r.le l⟩)⟩
  |_=>exact f.elim⟩
def IU(m:Mx PV):Mx MIt:=λZ h=>(m Z h).bind λv a=>match v with
 |.tup xs=>.ok ⟨xs,[]⟩ a
 |_=>.bad
def Fl(hl:ME X l m):MI X tg l (IU m) :=
 PI.imp (ET hl) λZ H Q ⟨U,f,h,rs,R,q⟩=>⟨U,f,h,rs,R,Ful.bind q λP H1 x S h1 _ l1 j O F=>by
  cases O with
  |@tup xs a ys s r =>
   refine⟨_,rfl,⟨_,s⟩,F P H1 _ (Le.refl _ _) j ?_⟩;intro U' H' h' i l u ok;have C:=l.sqt s;have M:=r.le l;refine⟨λB=>?_,λB=>⟨ys,C,by rw[<-r.length];exact B⟩⟩;have L:=vE B;obtain⟨y,E,ry⟩:=M.get L;refine⟨⟨ys,y,C,E⟩,λS H2 ⟨e,z⟩=>?_⟩;subst e
   have:=z ys C
   rw[E]at this;cases this;exact⟨U',_,Le.refl _ _,u,L,ry⟩
  |_=>exact F.elim⟩
def bH(lo:Int)(n:Nat):QL:=(List.range n).map λ(i:Nat)=>PV.int (lo+(i:Int))
def dQ(lo:Int)(n:Nat):(bH lo n).length=n:=by simp[bH]
def B1(lo:Int)(n:Nat):mG X U H ⟨bH lo n,[]⟩ (K9 lo n):=by intro f y h i l j ok;have hl:=dQ lo n;refine⟨λa=>⟨by rw[hl]at a;exact a,λu z ⟨e1,e2⟩=>?_⟩,λa=>by rw[hl]at a;exact a⟩;subst e1;subst e2;rw[hl]at a;exact⟨f,.int (lo+i),Le.refl _ _,j,by simp[bH,a],.int _⟩
def cQ(m:Mx (QL)):Mx MIt:=λZ h=>(m Z h).bind λf a=>match f with
 |[.int j]=>if -(2^62)<=j/\j<2^62 then .ok ⟨bH 0 j.toNat,[]⟩ a else .bad
 |_=>.bad
def pH(hg:Gl X "range")(C:X.mg "range"=Y)(O:MA X [a] m)(B:starEach [a] X.env=[(T,eval a X.env)]:=by rfl):MI X tg (.Call (.Name "range" p) [a] [] pos) (cQ m):=by
 refine PI.imp (xy hg C O B) λZ H Q ⟨U,i,h,M,F,q⟩=>⟨U,i,h,M,F,Ful.bind q λE P x x' h1 _ l1 l z f=>?_⟩
 cases z with
 |nil=>exact f.elim
 |cons u L =>
  cases L with
  |nil =>
   cases u with
   |int j =>
    dsimp only at f
    split at f
    .rename_i y
     exact⟨j,rfl,y.1,y.2,f E P _ (Le.refl _ _) l (B1 0 j.toNat)⟩
    .exact f.elim
   |_=>exact f.elim
  |cons R S=>cases u<;>exact f.elim
def bY(c:Mx Bool)(b:nr):Nat->nr
 |0=>λ_ _=>.bad
 |n+1=>vC c λx=>if x=I then (λZ h=>match b Z h with
   |.nx f a=>bY c b n f a
   |.ct f a=>bY c b n f a
   |.bk f a=>.nx f a
   |.rt v a=>.rt v a
   |.exc e f a=>.exc e f a
   |.rse e f a=>.rse e f a
   |.bad=>.bad)else n7
def Fm(c:Mx Bool)(b:nr):nr:=λZ h=>if z:∃n,bY c b n Z h≠.bad then bY c b (Classical.choose z) Z h else .bad
def kI:∀{n:Nat}{Z:n8}{h:MH},bY c b n Z h≠.bad->bY c b (n+1) Z h=bY c b n Z h
 |n+1,Z,h,q=>by
  rw[bY]at q;rw[bY]
  conv=>rhs;rw[bY]
  unfold vC at q ⊢
  cases e:c Z h with
  |exc x a=>rfl
  |bad=>rfl
  |ok x a =>
   rw[e]at q
   cases x with
   |false=>rfl
   |true =>
    simp only[if_true]at q ⊢
    cases em:b Z a with
    |nx i f=>rw[em]at q;exact kI q
    |ct i f=>rw[em]at q;exact kI q
    |_=>rfl
def ul(q:bY c b n Z h≠.bad)(l:n<=m):bY c b m Z h=bY c b n Z h:=by
 induction l with
 |refl=>rfl
 |step l a=>rw[kI (by rw[a];exact q),a]
def rR(q:bY c b n Z h≠.bad):Fm c b Z h=bY c b n Z h:=by
 have z:∃n,bY c b n Z h≠.bad:=⟨n,q⟩;unfold Fm;rw[dif_pos z];have a:=Classical.choose_spec z;rcases Nat.le_total n (Classical.choose z)with l|l
 .exact ul q l
 .exact (ul a l).symm
def zH(gd:Good X N W G k)(hc:MT X c mc)(hb:Aj X body mb):MS X (.While c body [] pos) (Fm mc mb):=by
 refine PS.imp (zf gd.po hc hb) λD Z H ⟨U,a,h,rs,R,q⟩=>?_;refine⟨λm Z H=>∃U a h,RS X.K U H a Z/\RH X.K X.mg U H h/\bg X U H (bY mc mb m a h) D,?_,?_⟩
 .unfold Fm at q
  split at q
  .exact⟨_,U,a,h,rs,R,q⟩
  .exact q.elim
 .rintro m Z1 H1 ⟨Q,f,h1,j,y,F⟩
  cases m with
  |zero=>exact F.elim
  |succ m =>
   refine⟨Q,f,h1,j,y,bg.ex F λM S v v' O P L z w=>?_⟩;cases z
   cases v with
   |false=>exact w M S Z1 (Le.refl _ _) L (j.le P)
   |true =>
    rw[e_ rfl]at w ⊢;refine⟨λZ H=>∃U a h,RS X.K U H a Z/\RH X.K X.mg U H h/\bg X U H (bY mc mb m a h) D,λZ' H' z=>⟨m,L8 _,z⟩,M,f,O,j.le P,L,?_⟩
    cases em:mb f O with
    |nx l i=>rw[em]at w;exact λu H7 Z7 E B C=>⟨u,l,i,C,B,bg.le E w⟩
    |ct l i=>rw[em]at w;exact λu H7 Z7 E B C=>⟨u,l,i,C,B,bg.le E w⟩
    |bk l i=>rw[em]at w;exact w
    |rt v i=>rw[em]at w;exact w
    |exc e l i=>rw[em]at w;exact w
    |rse e l i=>rw[em]at w;exact w
    |bad=>rw[em]at w;exact w
def dS(f:PV->Option PyData):QL->Option (List PyData)
 |[]=>J []
 |x::r=>match f x,dS f r with
  |some d,J a=>J (d::a)
  |_,_=>Y
def rd:Nat->MH->PV->Option PyData
 |0,_,v=>(match v with
  |.non=>J .none
  |.bl b=>J (.bool b)
  |.int i=>J (.int i)
  |.str x=>J (.str x)
  |_=>Y)
 |n+1,h,v=>(match v with
  |.non=>J .none
  |.bl b=>J (.bool b)
  |.int i=>J (.int i)
  |.str x=>J (.str x)
  |.tup xs=>(dS (rd n h) xs).map PyData.tuple
  |.frl xs=>(dS (rd n h) xs).map PyData.list
  |.loc m=>(match h[m]? with
   |some (.lst xs)=>(dS (rd n h) xs).map PyData.list
   |_=>Y))
def i7{y:Heap}{f:PV->Option PyData}{K:hH}{U:QR}{H:Hp}(hf:∀v l u d,RP K U H v l->aO l u->f v=J d->∃j,Reads y u d j):
  ∀{xs:QL}{ys:List V}{a:QS}{i:List PyData},RPs K U H xs ys->aK ys a->dS f xs=J i->∃j,ReadsAll y a i j:=by
 intro xs
 induction xs with
 |nil =>
  intro ys a i r v e;cases r;cases v;cases e;exact⟨_,.nil⟩
 |cons x xs C =>
  intro ys a i r v e;cases r with|cons r t=>cases v with|cons v w =>
  simp only[dS]at e
  split at e
  .rename_i d E e1 e2
   cases e;obtain⟨F,B⟩:=hf _ _ _ _ r v e1;obtain⟨L,z⟩:=C t w e2;exact⟨_,.cons B z⟩
  .cases e
def j3{O:QT}{Z:L2.St}{H:Hp}{s:Shared}{U:QR}{h:MH}(f:Inv X O Z H s)(R:RH X.K X.mg U H h):
  ∀(n:Nat)(v:PV)(z:V)(u:Value)(d:PyData),RP X.K U H v z->aO z u->rd n h v=J d->∃B,Reads s.heap u d B:=by
 intro n
 induction n with
 |zero =>
  intro v z u d rp r e
  cases rp with
  |non=>cases e;cases r;exact⟨_,.none⟩
  |bl b=>cases e;cases r;exact⟨_,.bool b⟩
  |int i=>cases e;obtain⟨t,rfl⟩:=r;exact⟨_,.int i t⟩
  |str i=>cases e;obtain⟨t,rfl⟩:=r;exact⟨_,.str i t⟩
  |_=>cases e
 |succ n C =>
  intro v z u d rp r e
  cases rp with
  |non=>cases e;cases r;exact⟨_,.none⟩
  |bl b=>cases e;cases r;exact⟨_,.bool b⟩
  |int i=>cases e;obtain⟨t,rfl⟩:=r;exact⟨_,.int i t⟩
  |str i=>cases e;obtain⟨t,rfl⟩:=r;exact⟨_,.str i t⟩
  |@tup xs a ys s E =>
   cases r;simp only[rd]at e
   cases q:dS (rd n h) xs with
   |none=>rw[q]at e;cases e
   |some L =>
    rw[q]at e;cases e;obtain⟨l,y,⟨o,e1,e2,m,e3⟩,_⟩:=f.tuple s;obtain⟨B,j⟩:=i7 (C) E y q;exact⟨_,.tuple e1 e2 e3 (by simpa using j)⟩
  |@frl xs a ys s E =>
   cases r;simp only[rd]at e
   cases q:dS (rd n h) xs with
   |none=>rw[q]at e;cases e
   |some L =>
    rw[q]at e;cases e;obtain⟨l,y,⟨o,m,e1,e2,_,e3⟩,_⟩:=f.list s.sq;obtain⟨B,j⟩:=i7 (C) E y q;exact⟨_,.list e1 e2 e3 (by simpa using j)⟩
  |loc en =>
   cases r;simp only[rd]at e;obtain⟨P,Q,F⟩:=R.obj en;rw[Q]at e
   cases P with
   |dic fz ks xs=>cases e
   |exc x=>cases e
   |lst xs =>
    obtain⟨ys,M,S⟩:=F;dsimp only at e
    cases q:dS (rd n h) xs with
    |none=>rw[q]at e;cases e
    |some L =>
     rw[q]at e;cases e;obtain⟨l,y,⟨o,m',e1,e2,_,e3⟩,_⟩:=f.list (SqL.of (K:=X.K) M);obtain⟨B,j⟩:=i7 (C) S y q;exact⟨_,.list e1 e2 e3 (by simpa using j)⟩
def Am(x y:PV)(h:MH):QX:=match rd 60 h x,rd 60 h y with
 |some a,J b=>if SeqAt.shaped a=I/\SeqAt.shaped b=I then .ok (.bl (PyData.eqv a b)) h else .bad
 |_,_=>.bad
def An(x y:PV)(h:MH):QX:=match rd 60 h x,rd 60 h y with
 |some a,J b=>if SeqAt.shaped a=I/\SeqAt.shaped b=I then .ok (.bl (!PyData.eqv a b)) h else .bad
 |_,_=>.bad
def ve(hr:Room k X.A):y_ X (compareOp .Eq) Am:=by
 intro R s Z H M O u v Q f l j ⟨U,h,x,y,i,B,P,q⟩;unfold Am at q
 split at q
 .rename_i a b C L
  split at q
  .rename_i z
   obtain⟨_,E⟩:=j3 f i 60 x M u a B l C;obtain⟨_,F⟩:=j3 f i 60 y O v b P j L;exact eq_dataH E F z.1 z.2 hr.units ⟨.bl _,H,f,rfl,q U H _ (Le.refl _ _) i (.bl _)⟩
  .exact q.elim
 .exact q.elim
def qE(hr:Room k X.A):y_ X (compareOp .NotEq) An:=by
 intro R s Z H M O u v Q f l j ⟨U,h,x,y,i,B,P,q⟩;unfold An at q
 split at q
 .rename_i a b C L
  split at q
  .rename_i z
   obtain⟨_,E⟩:=j3 f i 60 x M u a B l C;obtain⟨_,F⟩:=j3 f i 60 y O v b P j L;exact ne_dataH E F z.1 z.2 hr.units ⟨.bl _,H,f,rfl,q U H _ (Le.refl _ _) i (.bl _)⟩
  .exact q.elim
 .exact q.elim
def mx(f:Int->Int->PV):PV->PV->MH->QX:=λx y h=>match x,y with
 |.int i,.int j=>.ok (f i j) h
 |_,_=>.bad
def ny(C:OpR X F (BJ f))(a:∀U H i j,RP X.K U H (g i j) (f i j)):y_ X F (mx g):=by
 intro L s Z H P R u v Q B z l ⟨U,h,x,y,M,E,O,q⟩;unfold mx at q
 split at q
 .cases E;cases O;exact C L s Z H _ _ u v Q B z l ⟨_,_,rfl,rfl,q U H _ (Le.refl _ _) M (a U H _ _)⟩
 .exact q.elim
def Bg:=mx λi j=>.bl (decide (i<j))
def Fo:=mx λi j=>.bl (decide (i<=j))
def Bh:=mx λi j=>.bl (decide (j<i))
def AV:=mx λi j=>.bl (decide (j<=i))
def DE:y_ X (compareOp .Lt) Bg:=ny Iu λ_ _ _ _=>.bl _
def IV:y_ X (compareOp .LtE) Fo:=ny Iv λ_ _ _ _=>.bl _
def DF:y_ X (compareOp .Gt) Bh:=ny Iw λ_ _ _ _=>.bl _
def DG:y_ X (compareOp .GtE) AV:=ny Ix λ_ _ _ _=>.bl _
def Fp(a:Bool):PV->PV->MH->QX:=λx y h=>match y with
 |.non=>(match x with
  |.non=>.ok (.bl (!a)) h
  |_=>.ok (.bl a) h)
 |.bl b=>(match x with
  |.bl c=>.ok (.bl (if a then !(c==b)else c==b)) h
  |.non=>.ok (.bl a) h
  |.int _=>.ok (.bl a) h
  |.str _=>.ok (.bl a) h
  |.tup _=>.ok (.bl a) h
  |_=>.bad)
 |_=>.bad
def ki(x y:PV)(h:MH):QX:=match x,y with
 |.int i,.int j=>if IntMulOk i j then .ok (.int (i*j)) h else .bad
 |.loc n,.int j=>(match h[n]? with
  |some (.lst xs)=>if -(2^63)<=j/\j<2^63 then tr (List.flatten (List.replicate j.toNat xs)) h else .bad
  |_=>.bad)
 |_,_=>.bad
def AH(x y:PV)(h:MH):QX:=match x,y with
 |.int i,.int j=>if j≠0 then .ok (.int (i.fdiv j)) h else .bad
 |_,_=>.bad
def n4(x y:PV)(h:MH):QX:=match x,y with
 |.int i,.int j=>if j≠0 then .ok (.int (i.fmod j)) h else .bad
 |_,_=>.bad
def rk(x y:PV)(h:MH):QX:=match x,y with
 |.int i,.int j=>if fW i j then .ok (.int (i^j.toNat)) h else .bad
 |_,_=>.bad
def jj(x y:PV)(h:MH):QX:=match x,y with
 |.int i,.int j=>.ok (.int (i+j)) h
 |.str a,.str b=>if a.length+b.length<=sizeLine then .ok (.str (a++b)) h else .bad
 |.loc n,.loc m=>(match h[n]?,h[m]? with
  |some (.lst xs),J (.lst ys)=>tr (xs++ys) h
  |_,_=>.bad)
 |.tup xs,.tup ys=>if xs≠[]then nc (xs++ys) h else .bad
 |_,_=>.bad
def Bi:=mx λi j=>.int (i-j)
def Bj(x:PV)(h:MH):QX:=match x with
 |.int i=>.ok (.int (-i)) h
 |_=>.bad
def Fq:y_ X (binaryOp .Sub) Bi:=ny EX λ_ _ _ _=>.int _
def Fs:OP X (unaryOp .USub) Bj:=by
 intro l s Z H z u Q a f ⟨U,h,x,y,j,q⟩
 cases j with
 |int i=>exact EZ l s Z H _ u Q a f ⟨i,rfl,q U H _ (Le.refl _ _) y (.int _)⟩
 |_=>exact q.elim
def P6{u:QT}{Z:L2.St}{H:Hp}{s:Shared}(hr:Room k X.A)(a:Inv X u Z H s):PylongRoom (model X.prog X.w) X.A s:=by obtain⟨e,l,y,i,j,z,f⟩:=a.ok.top;exact PylongRoom.of a.nolimit (by have:=hr.dp;show X.A.depth+100<_;ext) (SeerAt.of (a.ok.mod.seer.keeps a.bk) a.ok.tree (a.ok.frames.trans (congrArg J y)) i j z f)
def vK(hr:Room k X.A):y_ X (binaryOp .FloorDiv) AH:=by
 intro L s Z H M O u v Q a l f ⟨U,h,x,y,C,B,E,q⟩;unfold AH at q
 split at q
 .rename_i i j
  cases B;cases E;obtain⟨t,rfl⟩:=l;obtain⟨F,rfl⟩:=f;by_cases z:j≠0
  .rw[e_ z]at q;exact floordiv_int z ⟨.int _,H,a.tok _,⟨_,rfl⟩,q U H _ (Le.refl _ _) C (.int _)⟩ (.inr (P6 hr a))
  .rw[hI z]at q;exact q.elim
 .exact q.elim
def dP:y_ X (binaryOp .Mod) n4:=by
 intro E s Z H F L u v Q i f a ⟨U,h,x,y,l,j,z,q⟩;unfold n4 at q
 split at q
 .cases j;cases z
  split at q
  .rename_i B
   obtain⟨t,rfl⟩:=f;obtain⟨C,rfl⟩:=a;exact mod_int' B ⟨.int _,H,i.tok _,⟨_,rfl⟩,q U H _ (Le.refl _ _) l (.int _)⟩
  .exact q.elim
 .exact q.elim
def rY:y_ X (binaryOp .Pow) rk:=by
 intro B s Z H L M u v Q l f a ⟨U,h,x,y,C,z,E,q⟩;unfold rk at q
 split at q
 .rename_i i j
  cases z;cases E
  split at q
  .rename_i F
   exact EY B s Z H _ _ u v Q l f a ⟨i,j,rfl,rfl,F,q U H _ (Le.refl _ _) C (.int _)⟩
  .exact q.elim
 .exact q.elim
def cw:y_ X (binaryOp .Add) jj:=by
 intro L s Z H x' y' u v Q B l f ⟨U,h,x,y,C,rx,F,q⟩
 cases rx with
 |int i =>
  cases F with
  |int j=>exact EW L s Z H _ _ u v Q B l f ⟨i,j,rfl,rfl,q U H _ (Le.refl _ _) C (.int _)⟩
  |_=>exact q.elim
 |str a =>
  cases F with
  |str b =>
   dsimp only[jj]at q
   split at q
   .rename_i hl
    exact vk L s Z H _ _ u v Q B l f ⟨a,b,rfl,rfl,hl,q U H _ (Le.refl _ _) C (.str _)⟩
   .exact q.elim
  |_=>exact q.elim
 |@loc n a e =>
  cases F with
  |@loc m b e2 =>
   dsimp only[jj]at q;obtain⟨o1,h1,E⟩:=C.obj e;obtain⟨o2,h2,M⟩:=C.obj e2;rw[h1,h2]at q
   cases o1 with
   |dic fz ks xs=>exact q.elim
   |exc x=>exact q.elim
   |lst xs =>
    cases o2 with
    |dic fz ks xs=>exact q.elim
    |exc x=>exact q.elim
    |lst ys =>
     obtain⟨P,ex,S⟩:=E;obtain⟨ab,ey,R⟩:=M;obtain⟨z1,O⟩:=lO C (S.append R) q;exact E9 L s Z H _ _ u v Q B l f ⟨a,b,P,ab,rfl,rfl,ex,ey,by rw[<-Hf];exact z1,O⟩
  |_=>exact q.elim
 |tup s1 E =>
  cases F with
  |tup s2 M =>
   dsimp only[jj]at q
   split at q
   .rename_i ai
    obtain⟨z1,O⟩:=uz C (E.append M) q;refine BS L s Z H _ _ u v Q B l f ⟨_,_,_,_,rfl,rfl,s1,s2,?_,by rw[<-Hf];exact z1,λz=>?_,λ_=>O⟩
    .rintro rfl;cases E;exact ai rfl
    .subst z;cases M;unfold nc at q
     split at q
     .exact q U H _ (Le.refl _ _) C (by rw[Hi];exact .tup s1 E)
     .exact q.elim
   .exact q.elim
  |_=>exact q.elim
 |_=>cases F<;>exact q.elim
def RPs.rep{K:hH}{U:QR}{H:Hp}{xs:QL}{ys:List V}(r:RPs K U H xs ys):∀n:Nat,RPs K U H (List.replicate n xs).flatten (List.replicate n ys).flatten
 |0=>.nil
 |n+1=>by exact r.append (RPs.rep r n)
def fB:y_ X (binaryOp .Mult) ki:=by
 intro O s Z H x' y' u v Q z l f ⟨U,h,x,y,B,M,C,q⟩
 cases M with
 |int i =>
  cases C with
  |int j =>
   dsimp only[ki]at q
   split at q
   .rename_i hc
    obtain⟨t,rfl⟩:=l;obtain⟨t',rfl⟩:=f;exact PyProof.Rows.mul_int ⟨.int _,H,z.tok _,⟨_,rfl⟩,q U H _ (Le.refl _ _) B (.int _)⟩ hc
   .exact q.elim
  |_=>exact q.elim
 |@loc n a e =>
  cases C with
  |int j =>
   dsimp only[ki]at q;obtain⟨P,h1,S⟩:=B.obj e;rw[h1]at q
   cases P with
   |dic fz ks xs=>exact q.elim
   |exc x=>exact q.elim
   |lst xs =>
    dsimp only at q
    split at q
    .rename_i L
     obtain⟨E,ex,F⟩:=S;obtain⟨z1,R⟩:=lO B (F.rep j.toNat) q;refine E_ O s Z H _ _ u v Q z l f ⟨a,j,E,rfl,rfl,ex,L.1,L.2,?_,R⟩;rw[ur]at z1;rw[Nat.mul_comm];exact z1
    .exact q.elim
  |_=>exact q.elim
 |_=>cases C<;>exact q.elim
def nL{f:QT}{Z:L2.St}{H:Hp}{s:Shared}{Q:VK}{x':V}{u:Value}{b c:Bool}(a:Inv X f Z H s)(r:aO x' u)(i:plainIs u (.bool b)=I)(j:(u == .bool b)=c)(q:Q (.bl c) H):
  wpAny (model X.prog X.w) X.A (compareOp .Is u (.bool b)) (EP X f Z Q) X.xe s:=by
 exact g_ (wpAny_isSame_plain i (oh (by rw[j];exact⟨.bl c,H,a,rfl,q⟩)))
def DH:y_ X (compareOp .Is) (Fp T):=by
 intro B s Z H L M u v Q f a l ⟨U,h,x,y,j,z,C,q⟩
 cases C with
 |non =>
  refine E1 B s Z H _ _ u v Q f a l ⟨rfl,?_⟩;cases z<;>exact q U H _ (Le.refl _ _) j (by first | exact .bl I | exact .bl T)
 |bl b =>
  cases l
  cases z with
  |non=>cases a;exact nL (x':=.non) f rfl (by cases b<;>rfl) (by cases b<;>rfl) (q U H _ (Le.refl _ _) j (.bl T))
  |bl c=>cases a;exact nL (x':=.bl c) f rfl (by cases b<;>cases c<;>rfl) (by cases b<;>cases c<;>rfl) (q U H _ (Le.refl _ _) j (.bl _))
  |int i=>obtain⟨t,rfl⟩:=a;exact nL (x':=.int i) f ⟨_,rfl⟩ (by cases b<;>rfl) (by cases b<;>rfl) (q U H _ (Le.refl _ _) j (.bl T))
  |str i=>obtain⟨t,rfl⟩:=a;exact nL (x':=.str i) f ⟨_,rfl⟩ (by cases b<;>rfl) (by cases b<;>rfl) (q U H _ (Le.refl _ _) j (.bl T))
  |tup E F=>cases a;exact nL (x':=.ref _) f rfl (by cases b<;>rfl) (by cases b<;>rfl) (q U H _ (Le.refl _ _) j (.bl T))
  |_=>exact q.elim
 |_=>exact q.elim
def bc(x y:PV)(h:MH):QX:=match y with
 |.int i=>(match x with
  |.loc n=>(match h[n]? with
   |some (.lst xs)=>(match pz xs i with
    |some v=>.ok v h
    |none=>.bad)
   |_=>.bad)
  |.tup xs=>(match pz xs i with
   |some v=>.ok v h
   |none=>.bad)
  |.frl xs=>(match pz xs i with
   |some v=>.ok v h
   |none=>.bad)
  |.str z=>(match pz z.cps.toList i with
   |some c=>if z.length<=sizeLine then .ok (.str ⟨#[c]⟩) h else .bad
   |none=>.bad)
  |_=>.bad)
 |_=>.bad
def oY{K:hH}{U:QR}{H:Hp}{xs:QL}{ys:List V}{i:Int}{v:PV}(r:RPs K U H xs ys)(e:pz xs i=J v):∃a,pz ys i=J a/\RP K U H v a:=by
 unfold pz at e ⊢;rw[<-r.length]
 cases q:vf xs.length i with
 |none=>rw[q]at e;cases e
 |some j =>
  rw[q]at e;exact r.get e
def DI{a b:Expr}{ma mb:Mx PV}{ab:Pos}(ha:ME X a ma)(hb:ME X b mb)(hs:jq b):ME X (.Subscript a b ab) (ay bc ma mb):=by
 refine PE.imp (IE E6 ha hb hs) λZ H Q q=>?_;obtain⟨U,u,h,rs,rh,q⟩:=q;refine⟨U,u,h,rs,rh,Ful.bind q λU1 H1 x x' h1 _ l1 R rx q1=>⟨U1,u,h1,rs.le l1,R,Ful.bind q1 λM L y y' h2 _ l2 l ry f=>?_⟩⟩;have P:=rx.le l2
 cases ry with
 |int i =>
  cases P with
  |@loc n a e =>
   obtain⟨ob,eo,S⟩:=l.obj e;dsimp only[bc]at f;rw[eo]at f
   cases ob with
   |dic fz ks xs=>exact f.elim
   |exc x=>exact f.elim
   |lst xs =>
    obtain⟨ys,ey,C⟩:=S;dsimp only at f
    cases j:pz xs i with
    |none=>rw[j]at f;exact f.elim
    |some v =>
     rw[j]at f;obtain⟨B,E,F⟩:=oY C j;exact .inl ⟨a,ys,i,B,rfl,rfl,SqL.of ey,E,f M L _ (Le.refl _ _) l F⟩
  |@tup xs a ys O C =>
   dsimp only[bc]at f
   cases j:pz xs i with
   |none=>rw[j]at f;exact f.elim
   |some v =>
    rw[j]at f;obtain⟨B,E,F⟩:=oY C j;exact .inr (.inl ⟨_,_,i,B,rfl,rfl,O,E,f M L _ (Le.refl _ _) l F⟩)
  |@frl xs a ys O C =>
   dsimp only[bc]at f
   cases j:pz xs i with
   |none=>rw[j]at f;exact f.elim
   |some v =>
    rw[j]at f;obtain⟨B,E,F⟩:=oY C j;exact .inl ⟨_,_,i,B,rfl,rfl,O.sq,E,f M L _ (Le.refl _ _) l F⟩
  |str z =>
   dsimp only[bc]at f
   cases j:pz z.cps.toList i with
   |none=>rw[j]at f;exact f.elim
   |some c =>
    rw[j]at f;dsimp only at f
    split at f
    .rename_i hz
     exact .inr (.inr ⟨z,i,c,rfl,rfl,hz,j,f M L _ (Le.refl _ _) l (.str _)⟩)
    .exact f.elim
  |_=>exact f.elim
 |_=>exact f.elim
def qo(f:QL->MH->QX)(m:Mx (QL)):Mx PV:=λZ h=>(m Z h).bind λxs a=>(f xs a).ne
section
variable{x:Str}{id T:String}{e:Expr}{es:QW}{f:QL->MH->QX}{m:Mx (QL)}{p pos:Pos}
def DJ{Z:L2.St}{H:Hp}{Q:VK}(q:tM X (RV' X) (qo f m) Z H Q):Mu (cJ X f) (tM X (RVs' X) m) Z H Q:=by obtain⟨U,a,h,B,y,q⟩:=q;exact⟨U,a,h,B,y,Ful.bind q λl E x C z _ F i j u=>⟨l,z,x,i,j,u.zero⟩⟩
def rV(g:Good X N W G k)(j:Nat)(i:G[j]?=J x)(l:cK X (.builtin id) f)(u:X.mg x=Y)(hv:bootBuiltins x=J (.builtin id))(z:MA X (e::es) m)(y:starEach (e::es) X.env=(false,eval e X.env)::starEach es X.env:=by rfl)(a:(backTo pos (starEach es X.env)).any (·.1)=false:=by rfl):ME X (.Call (.Name x p) (e::es) [] pos) (qo f m) :=
 have d:=g.dbg x (vn _ (aL i))
 PE.imp (m5 l (g.gl x (aL i)) u hv z d.2.2 d.1 y a) λ_ _ _ q=>DJ q
def pZ(g:Good X N W G k)(j:Nat)(i:G[j]?=J x)(l:cK X (.type T) f)(u:X.mg x=Y)(hv:bootBuiltins x=J (.type T))(z:MA X (e::es) m)(y:starEach (e::es) X.env=(false,eval e X.env)::starEach es X.env:=by rfl)(a:(backTo pos (starEach es X.env)).any (·.1)=false:=by rfl):ME X (.Call (.Name x p) (e::es) [] pos) (qo f m) :=
 have d:=g.dbg x (vn _ (aL i))
 PE.imp (qe l (g.gl x (aL i)) u hv z d.2.2 d.1 y a) λ_ _ _ q=>DJ q
end
def Ao(xs:QL)(h:MH):QX:=match xs with
 |[.int i]=>.ok (.int (if i<0 then -i else i)) h
 |_=>.bad
def zb(xs:QL)(h:MH):QX:=match xs with
 |[.int i,.int j]=>.ok (.int (if j<i then j else i)) h
 |_=>.bad
def AI(xs:QL)(h:MH):QX:=match xs with
 |[.int i,.int j]=>.ok (.int (if j>i then j else i)) h
 |_=>.bad
def Bk(xs:QL)(h:MH):QX:=match xs with
 |[.int i]=>.ok (.int i) h
 |[.bl b]=>.ok (.int (if b then 1 else 0)) h
 |_=>.bad
def q_(xs:QL)(h:MH):QX:=match xs with
 |[.loc n]=>(match h[n]? with
  |some (.lst ys)=>.ok (.int ys.length) h
  |_=>.bad)
 |[.tup ys]=>.ok (.int ys.length) h
 |[.frl ys]=>.ok (.int ys.length) h
 |[.str z]=>if z.length<=sizeLine then .ok (.int z.length) h else .bad
 |_=>.bad
def rO:cK X (.builtin "abs") Ao:=by
 intro l s Z H xs j Q a r ⟨U,h,z,u,rp,q⟩
 cases rp with
 |nil=>exact q.elim
 |cons f y =>
  cases y with
  |cons _ _=>cases f<;>exact q.elim
  |nil =>
   cases f with
   |int i=>exact zW l s Z H _ j Q a r ⟨i,rfl,q U H _ (Le.refl _ _) u (.int _)⟩
   |_=>exact q.elim
def sL{f:QL->MH->QX}{F:Int->Int->Int}{r:List V->Hp->VK->Prop}{l:Value}(hf:∀i j h,f [.int i,.int j] h=.ok (.int (F i j)) h)(P:∀xs h,(∀i j,xs≠[.int i,.int j])->f xs h=.bad)(R:cU X l (λxs H Q=>∃i j,xs=[.int i,.int j]/\Q (.int (F i j)) H)):cK X l f:=by
 intro B s Z H xs y Q a r ⟨U,h,u,E,rp,q⟩;by_cases z:∃i j,u=[.int i,.int j]
 .obtain⟨i,j,rfl⟩:=z
  cases rp with
  |cons M O=>cases O with
   |cons C L =>
    cases L;cases M;cases C;rw[hf]at q;exact R B s Z H _ y Q a r ⟨i,j,rfl,q U H _ (Le.refl _ _) E (.int _)⟩
 .rw[P u h λi j e=>z ⟨i,j,e⟩]at q;exact q.elim
def sj(g:Good X N W G k):cK X (.builtin "min") zb:=sL (r:=λ_ _ _=>True) (λ_ _ _=>rfl) (λxs h z=>by unfold zb;split<;>first | rfl | exact absurd rfl (z _ _)) (xQ g.calm)
def Ft(g:Good X N W G k):cK X (.builtin "max") AI:=sL (r:=λ_ _ _=>True) (λ_ _ _=>rfl) (λxs h z=>by unfold AI;split<;>first | rfl | exact absurd rfl (z _ _)) (wJ g.calm)
def xj:cK X (.type "int") Bk:=by
 intro j s Z H xs f Q a r ⟨U,h,z,l,rp,q⟩
 cases rp with
 |nil=>exact q.elim
 |cons u y =>
  cases y with
  |cons _ _=>cases u<;>exact q.elim
  |nil =>
   cases u with
   |int i=>exact pW j s Z H _ f Q a r (.inl ⟨i,rfl,q U H _ (Le.refl _ _) l (.int _)⟩)
   |bl b=>exact pW j s Z H _ f Q a r (.inr ⟨b,rfl,q U H _ (Le.refl _ _) l (.int _)⟩)
   |_=>exact q.elim
def kU:cK X (.builtin "len") q_:=by
 intro u s Z H xs l Q f r ⟨U,h,R,i,rp,q⟩
 cases rp with
 |nil=>exact q.elim
 |cons C O =>
  cases O with
  |cons _ _=>cases C<;>exact q.elim
  |nil =>
   cases C with
   |@loc n a e =>
    obtain⟨F,L,B⟩:=i.obj e;dsimp only[q_]at q;rw[L]at q
    cases F with
    |dic fz P xs=>exact q.elim
    |exc x=>exact q.elim
    |lst xs =>
     obtain⟨ys,E,j⟩:=B;exact kj u s Z H _ l Q f r ⟨_,_,rfl,.inl ⟨ys,SqL.of E,rfl⟩,by rw[<-j.length];exact q U H _ (Le.refl _ _) i (.int _)⟩
   |tup y j=>exact kj u s Z H _ l Q f r ⟨_,_,rfl,.inr ⟨_,y,rfl⟩,by rw[<-j.length];exact q U H _ (Le.refl _ _) i (.int _)⟩
   |frl y j=>exact kj u s Z H _ l Q f r ⟨_,_,rfl,.inl ⟨_,y.sq,rfl⟩,by rw[<-j.length];exact q U H _ (Le.refl _ _) i (.int _)⟩
   |str z =>
    dsimp only[q_]at q
    split at q
    .rename_i M
     exact kj u s Z H _ l Q f r ⟨_,_,rfl,⟨M,rfl⟩,q U H _ (Le.refl _ _) i (.int _)⟩
    .exact q.elim
   |_=>exact q.elim
def B2(h:MH):PV->Option String
 |.non=>J "NoneType"
 |.bl _=>J "bool"
 |.int _=>J "int"
 |.str _=>J "str"
 |.tup _=>J "tuple"
 |.frl _=>J "list"
 |.loc n=>match h[n]? with
  |some (.lst _)=>J "list"
  |some (.dic _ _ _)=>J "dict"
  |_=>Y
def bX(t:String)(a:String):Bool:=t==a||(t == "bool" && a == "int")
def kP(a:List String)(x:PV)(h:MH):QX:=match B2 h x with
 |some t=>.ok (.bl (a.any (bX t))) h
 |none=>.bad
def B3(a:String):Prop:=∀K:hH,∀t∈["NoneType","bool","int","str","tuple","list","dict"],PySem.W.kitOne K (.type t) (.type a)=J (bX t a)
def nY(u:∀K,PySem.W.kitOne K (.type "NoneType") (.type b)=J (bX "NoneType" b))(i:∀K,PySem.W.kitOne K (.type "bool") (.type b)=J (bX "bool" b))(l:∀K,PySem.W.kitOne K (.type "int") (.type b)=J (bX "int" b))(y:∀K,PySem.W.kitOne K (.type "str") (.type b)=J (bX "str" b))(f:∀K,PySem.W.kitOne K (.type "tuple") (.type b)=J (bX "tuple" b))(j:∀K,PySem.W.kitOne K (.type "list") (.type b)=J (bX "list" b))(z:∀K,PySem.W.kitOne K (.type "dict") (.type b)=J (bX "dict" b)):B3 b:=by
 intro K t a;simp only[p_,Dw,or_false]at a;rcases a with rfl|rfl|rfl|rfl|rfl|rfl|rfl
 .exact u K
 .exact i K
 .exact l K
 .exact y K
 .exact f K
 .exact j K
 .exact z K
def B4:B3 "int":=nY (λ_=>rfl) (λ_=>rfl) (λ_=>rfl) (λ_=>rfl) (λ_=>rfl) (λ_=>rfl) (λ_=>rfl)
def zx:B3 "bool":=nY (λ_=>rfl) (λ_=>rfl) (λ_=>rfl) (λ_=>rfl) (λ_=>rfl) (λ_=>rfl) (λ_=>rfl)
def zc:B3 "list":=nY (λ_=>rfl) (λ_=>rfl) (λ_=>rfl) (λ_=>rfl) (λ_=>rfl) (λ_=>rfl) (λ_=>rfl)
def xP:B3 "tuple":=nY (λ_=>rfl) (λ_=>rfl) (λ_=>rfl) (λ_=>rfl) (λ_=>rfl) (λ_=>rfl) (λ_=>rfl)
def uU{O:QT}{Z:L2.St}{H:Hp}{s:Shared}{U:QR}{h:MH}{x:PV}{E:V}{u:Value}{t:String}(f:Inv X O Z H s)(R:RH X.K X.mg U H h)(M:RP X.K U H x E)(j:aO E u)(e:B2 h x=J t):
  t∈["NoneType","bool","int","str","tuple","list","dict"]/\u≠.builtin "__main__.__loader__#opaque"/\∃F,PySem.W.KitX X.K u (.type t) F/\F s.heap:=by
 cases M with
 |non=>cases e;cases j;exact⟨by simp,(λz=>nomatch z),_,PySem.W.kitx_none,trivial⟩
 |bl b=>cases e;cases j;exact⟨by simp,(λz=>nomatch z),_,PySem.W.kitx_bool,trivial⟩
 |int i=>cases e;obtain⟨t,rfl⟩:=j;exact⟨by simp,(λz=>nomatch z),_,PySem.W.kitx_int,trivial⟩
 |str i=>cases e;obtain⟨t,rfl⟩:=j;exact⟨by simp,(λz=>nomatch z),_,PySem.W.kitx_str,trivial⟩
 |tup C S =>
  cases e;cases j;obtain⟨l,L,⟨o,e1,e2,_⟩,_⟩:=f.tuple C;exact⟨by simp,(λz=>nomatch z),_,PySem.W.kitx_tuple,⟨o,e1,e2⟩⟩
 |frl C S =>
  cases e;cases j;obtain⟨l,L,⟨o,m,e1,e2,_,e3⟩,_⟩:=f.list C.sq;exact⟨by simp,(λz=>nomatch z),_,PySem.W.kitx_list,⟨o,e1,e2⟩⟩
 |@loc n a en =>
  obtain⟨P,Q,y⟩:=R.obj en;dsimp only[B2]at e;rw[Q]at e;cases j
  cases P with
  |lst xs =>
   cases e;obtain⟨ys,B,_⟩:=y;obtain⟨l,L,⟨o,m,e1,e2,_,e3⟩,_⟩:=f.list (SqL.of B);exact⟨by simp,(λz=>nomatch z),_,PySem.W.kitx_list,⟨o,e1,e2⟩⟩
  |dic fz ks xs =>
   cases e;obtain⟨zs,_,_,B⟩:=y;obtain⟨_,_,vs,_,p⟩:=lK f.hok B;obtain⟨o,es,ep,h1,h2,_⟩:=p;exact⟨by simp,(λz=>nomatch z),_,PySem.W.kitx_dict,⟨o,h1,h2.1⟩⟩
  |exc x=>cases e
def Fv(g:Good X N W G k){a:Expr}{m:Mx PV}{f:String}{c:Str}{i j:Nat}{p q y:Pos}(R:G[i]?=J "isinstance")(hm:X.mg "isinstance"=Y)(hj:G[j]?=J c)(hc:X.mg c=Y)(hv:bootBuiltins c=J (.type f))(hT:B3 f)(ha:ME X a m)(S:starEach [a,.Name c q] X.env=(T,eval a X.env)::starEach [.Name c q] X.env:=by rfl)(O:starEach [.Name c q] X.env=[(T,eval (.Name c q) X.env)]:=by rfl)(L:(backTo y (starEach [.Name c q] X.env)).any (·.1)=T:=by rfl):
  ME X (.Call (.Name "isinstance" p) [a,.Name c q] [] y) (IM (kP [f]) m):=by
 have d1:=g.dbg _ (vn _ (aL R));have d:=g.dbg c (vn _ (aL hj));have l:cU X (.builtin "isinstance") (λxs H Q=>∃z,xs=[z,.ty f]/\uJ X (kP [f]) z H Q):=by
  intro JB s Z H xs us Q u r ⟨z,e,U,h,x,B,C,q⟩;subst e
  cases r with
  |cons r1 t1=>cases t1 with
   |cons r2 t2 =>
    cases t2;obtain rfl:=(r2);unfold kP at q
    cases F:B2 h x with
    |none=>rw[F]at q;exact q.elim
    |some t =>
     rw[F]at q;obtain⟨ht,P,Hq,Za,hz⟩:=uU u B C r1 F
     exact PySem.W.kia_one Za u.kIn hz (hT X.K t ht) P λtk=>⟨.bl _,H,u.tok _,rfl,by
      have q':=q U H _ (Le.refl _ _) B (.bl _)
      simpa using q'⟩
 refine PE.imp (m5 l (g.gl _ (aL R)) hm PyProof.Rows.Boot.«isinstance» (dC ha (dC (pE (v:=.ty f) (g.gl c (aL hj)) hc hv rfl d.2.2 d.1) jG O) S) d1.2.2 d1.1 S L) λZ H Q ⟨U,E,h,rs,B,q⟩=>?_;exact⟨U,E,h,rs,B,Ful.bind q λU1 H1 x z h1 _ l1 M C q1=>⟨z,rfl,U1,h1,x,M,C,q1.zero⟩⟩
def Fw(K:hH)(mg:A4)(F:QL->MH->QX):Sp:=λu H Q E=>∃U l h,RPs K U H l u/\RH K mg U H h/\match F l h with
 |.ok v i=>∀f a j,Le U H f a->RH K mg f a i->RP K f a v j->Q j a
 |.exc x i=>∀C f a,x.fs=[]->mg x.cls=J (.ref C)->Le U H f a->RH K mg f a i->E (.ref C) Y a
 |.bad=>False
def Hu(P:Program)(w:World):Be:=λouter H s E e a=>∃i C f,e=.ref i/\a.os=s.os/\AllBare a.gens/\Un (x4 outer) [] H f s.heap a.heap/\HOk P w f a.heap/\MD outer f s.heap C i a.heap/\E (.ref C) Y f
structure Cal(X:Cx)(x:Str)(ps:QM)(F:QL->MH->QX)(k:Nat):Prop where
 ex:∃f fd,X.mg x=J (.ref f)/\PySem.W.keepIn X.K (.ref f)=I/\j0 X.K fd ps []/\FnOk X.prog X.w X.K X.mg X.base (Hu X.prog X.w) k f fd ps (Fw X.K X.mg F)
def Cal.to(c:Cal X x ps F i)(e1:g.prog=X.prog)(e2:g.w=X.w)(e3:g.K=X.K)(e4:g.mg=X.mg)(e5:g.base=X.base):Cal g x ps F i:=by obtain⟨f,fd,a,b,d,e⟩:=c.ex;refine⟨f,fd,by rw[e4];exact a,by rw[e3];exact b,by rw[e3];exact d,?_⟩;rw[e1,e2,e3,e4,e5];exact e
def ba(F:QL->MH->QX)(m:Mx (QL)):Mx PV:=λZ h=>(m Z h).bind F
def uG(g:Good X N W G k){x:Str}{j:Nat}(hj:G[j]?=J x){ps:QM}{F:QL->MH->QX}(C:Cal X x ps F k){e:Expr}{es:QW}{m:Mx (QL)}{p S:Pos}(ha:MA X (e::es) m)(he:starEach (e::es) X.env=(T,eval e X.env)::starEach es X.env:=by rfl)(an:(backTo S (starEach es X.env)).any (·.1)=T:=by rfl):ME X (.Call (.Name x p) (e::es) [] S) (ba F m):=by
 obtain⟨f,fd,hm,hk,hb,F'⟩:=C.ex;have d:=g.dbg x (vn _ (aL hj));intro JB s Z H Q R ⟨U,ak,h,rs,rh,q⟩;refine wpAny_Call_Name_kw (lP R (g.gl x (aL hj)) hm ?_ d.1)
 refine PySem.W.callWith_K R.ok.mod.kin hk (j_ (ha S JB s Z H (λvs B=>∃y xs M,Le U H y B/\RH X.K X.mg y B M/\RPs X.K y B xs vs/\Ful X (RV' X) ak y B (F xs M) Q) R
  ⟨U,ak,h,rs,rh,Ful.bind q λy B xs vs M _ l1 L rx O=>⟨y,xs,M,l1,L,rx,O⟩⟩) λus P ⟨vs,B,I1,r,y,xs,M,l1,L,rx,O⟩=>⟨I1.kIn,?_⟩) he an
 have run:∀E:XK,Fw X.K X.mg F vs B Q E->(∀ea C i l,l.os=P.os->AllBare l.gens->Un (x4 X.stack) [] B i P.heap l.heap->HOk X.prog X.w i l.heap->MD X.stack i P.heap C ea l.heap->E (.ref C) Y i->X.xe (.ref ea) l) ->
   wpAny (model X.prog X.w) X.A (call (.ref f) us) (EP X JB Z Q) X.xe P:=λE ai hE=>by
  have hl:(us++[]).length=ps.length:=by rw[Hi,<-r.length];exact F'.len _ _ _ _ ai
  have ab:=hb P us I1.kIn hl;rw[Hi]at ab;refine wpAny_call (codeAny_mono (F'.run X.A X.stack P B ⟨us,[]⟩ us vs Q E g.room I1.env0 ab r ai) λr l hq=>?_)
  cases r with
  |error e =>
   obtain⟨ea,C,i,rfl,a1,a2,a3,a4,a5,a6⟩:=hq;exact hE ea C i l a1 a2 a3 a4 a5 a6
  |ok fl =>
   cases fl with
   |ret u=>exact I1.after hq
   |next=>exact False.elim hq
   |brk=>exact False.elim hq
   |cont=>exact False.elim hq
 cases eF:F xs M with
 |bad=>rw[eF]at O;exact O.elim
 |ok v h' =>
  rw[eF]at O;exact run (λ_ _ _=>False) ⟨y,xs,M,rx,L,by rw[eF];exact O⟩ λ_ _ _ _ _ _ _ _ _ z=>z.elim
 |exc x' h' =>
  rw[eF]at O;refine run (λc _ i=>∃C U',c=.ref C/\x'.fs=[]/\X.mg x'.cls=J (.ref C)/\Le y B U' i/\RH X.K X.mg U' i h') ⟨y,xs,M,rx,L,by rw[eF];exact λC U' i a b c d=>⟨C,U',rfl,a,b,c,d⟩⟩ λea C i l a1 a2 a3 a4 a5 a6=>?_;obtain⟨C',U',eC,b1,b2,b3,b4⟩:=a6;cases eC;have IX:=I1.call' (s':=l) (ch:=[]) a1 a3 a4 a2 (λb z=>absurd z (by simp));have al:=Inv.unpinned (JB:=[]) (pl:=JB) IX;exact O ea C U' i Z l P.heap b1 b2 b3 b4 (rs.le (l1.trans b3)) al (Inv.bears I1) a5
def bh(n:Nat)(a:QL):n8:=a.map J++List.replicate (n-a.length) Y
def cr(n i:Nat)(m:nr):QL->MH->QX:=λf h=>if f.length=i then (match m (bh n f) h with
 |.nx _ a=>.ok .non a
 |.rt v a=>.ok v a
 |.exc x _ a=>.exc x a
 |.rse x _ a=>.exc x a
 |_=>.bad)else .bad
def zX{K:hH}{U:QR}{H:Hp}{N:QM}{a:QL}{j:List V}(r:RPs K U H a j):RS K U H (bh N.length a) (L2.start N j):=by
 have hl:=r.length;refine⟨by simp[bh,L2.start,hl],λi v e=>?_⟩;unfold bh at e;by_cases f:i<a.length
 .rw[q7 (by simpa using f),u_]at e
  cases q:a[i]? with
  |none=>rw[q]at e;cases e
  |some x =>
   rw[q]at e;cases e;obtain⟨l,u,y⟩:=r.get q;refine⟨l,?_,y⟩;unfold L2.start;rw[q7 (by simp;lia),u_,u];rfl
 .rw[AA (by simpa using f),Ep]at e
  split at e<;>cases e
def rK{B h:Heap}(k:B.StaysIn h){b:Addr}{o a:Obj}(e1:B.get? b=J a)(e2:h.get? b=J o):a=o:=by
 have:=k b a e1
 rw[e2]at this;exact(Option.some.inj this).symm
def uD{X:Cx}{Z':L2.St}{M:Hp}{O:Shared}{L B:Heap}(f:Inv X [] Z' M O)(Q:X.ex=[])(U:B.StaysIn O.heap)(F:B.StaysIn L)(sm:O.heap.UpToSlots L)(C:∀b o,X.s₀.heap.get? b=J o->b∉X.fs->∃i,B.get? b=J i)(H:∀b o,M b=J o->∃i,B.get? b=J i):Un X.fs [] X.H₀ M X.s₀.heap L/\HOk X.prog X.w M L:=by
 have j:∀b:Addr,b∉X.ex:=λb=>by rw[Q];simp
 have kp:∀b o i,B.get? b=J i->O.heap.get? b=J o->L.get? b=J o:=λb o i e1 e2=>by
  have:=rK U e1 e2
  subst this;exact F b i e1
 refine⟨⟨λb o e n hf _=>?_,λb o e n hf _=>?_,λb o e n _=>f.base.free b o e n (j b),λb o e _=>?_,f.base.tups,f.base.frzs,f.base.tbls⟩,λa o e=>?_⟩
 .obtain⟨i,l⟩:=C b o e hf;exact kp b o i l (f.base.keep b o e n hf (j b))
 .obtain⟨Z,e1⟩:=f.base.slot b o e n hf (j b);obtain⟨_,oF,y,P⟩:=f.ok.funs.mem hf;rw[e]at y;cases y;obtain⟨E,e2⟩:=sm b _ e1 (λR z=>P R z);exact⟨E,e2⟩
 .by_cases hf:b∈X.fs
  .obtain⟨_,oF,y,P⟩:=f.ok.funs.mem hf;rw[e]at y;cases y;obtain⟨Z,e1⟩:=f.base.slot b o e (f.ok.frf b hf) hf (j b);obtain⟨E,e2⟩:=sm b _ e1 (λR z=>P R z);exact⟨_,e2⟩
  .obtain⟨i,l⟩:=C b o e hf;exact⟨i,F b i l⟩
 .refine (f.hok a o e).stay (λb u S z=>?_) (λ_ z=>z) λ_ _ z=>z;rcases S with rfl|S
  .obtain⟨i,l⟩:=H _ _ e;exact kp _ u i l z
  .obtain⟨i,l⟩:=H _ _ S;exact kp _ u i l z
def _root_.L2.ObjOk.has(x:ObjOk P w H h a o):∃u,h.get? a=J u:=by
 cases o with
 |lst xs=>obtain⟨_,_,_,_,e⟩:=x;exact⟨_,e⟩
 |tup xs=>obtain⟨_,_,_,o,e,_⟩:=x;exact⟨o,e⟩
 |dK i=>obtain⟨_,_,_,_,o,_,_,e,_⟩:=x;exact⟨o,e⟩
 |dT i=>obtain⟨_,_,_,_,o,_,_,e,_⟩:=x;exact⟨o,e⟩
 |set S n=>obtain⟨o,_,_,_,e,_⟩:=x;exact⟨o,e⟩
 |ins C l fs=>obtain⟨_,_,_,e,_⟩:=x;exact⟨_,e⟩
 |own y=>obtain⟨o,e⟩:=x;exact⟨o,e⟩
 |xd fs=>obtain⟨_,⟨o,_,_,e,_⟩,_⟩:=x;exact⟨o,e⟩
 |rng lo z=>obtain⟨_,_,_,e⟩:=x;exact⟨_,e⟩
 |frz j u=>obtain⟨e,_⟩:=x;exact⟨_,e⟩
 |tbl B=>exact⟨_,(x)⟩
 |met f y=>exact⟨_,(x)⟩
 |ext φ=>obtain⟨_,⟨o,e⟩,_⟩:=x;exact⟨o,e⟩
def rZ{M:Model}{A:Around}{E:QZ}{s:Shared}{base h:Heap}{env:Env}{outer:List Env}{L e C:Addr}{Q:Unit->Shared->Prop}(j:A.frames=J (env::outer))(hf:env.frame=J L)(a:base.StaysIn h)(hl:h.FunFrames base (env::outer))(i:DC h s.heap e C)(H:∀f t,Heap.FlyingW base outer e (.ref C) (.ref t) f->s.heap.UpToSlots f->Q () { s with heap:=f}):wpAny M A (leaving env (.ref e)) Q E s:=by
 obtain⟨t,P,F⟩:=i.there;have u:base.get? e=Y:=by
  cases q:base.get? e with
  |none=>rfl
  |some o=>have:=a e o q;rw[i.new]at this;cases this
 refine wpAny_leaving_firstW j (hl.of_keeps λb o l _=>⟨o,i.keeps b o l,rfl⟩) hf F (λb o l=>i.keeps b o (a b o l)) u rfl rfl rfl λf hL=>?_;obtain⟨z,⟨_,_,O⟩,B,y⟩:=hL;exact H f t ⟨z,u,O,B⟩ y
structure h_(X:Cx):Prop where
 stk:X.stack=X.env::X.outer
 fr:X.env.frame=J X.env.locals
 ex:X.ex=[]
def MF{P:Program}{w:World}{K:hH}{mg:QA}{base:Heap}{x a:Str}{st:Stmt}{f:Addr}{fd:FuncData}{ps:QM}{m:nr}(Fu:Fun K x a st f fd)(S:o_ N ps (aj st))(hl:∀y∈N,Loc (aj st) y)(a6:∀y∈G,(aj st).names.lookup y=J .globalImplicit)(dbg:∀x∈N++G,(x==("__debug__":Str))=T/\(x==("__classdict__":Str))=T/\x≠"__name__")(hb:∀X:Cx,X.prog=P->X.w=w->X.K=K->X.mg=mg->X.base=base->X.env.scope=aj st->Good X N N G k->h_ X->Aj X (aG st) m):
  FnOk P w K mg base (Hu P w) (k+1) f fd ps (Fw K mg (cr N.length ps.length m)):=by
 have len:∀vs H Q E,Fw K mg (cr N.length ps.length m) vs H Q E->vs.length=ps.length:=by
  rintro vs H Q E ⟨U,zs,h,r,rh,q⟩;rw[<-r.length];unfold cr at q;by_cases hp:zs.length=ps.length
  .exact hp
  .rw[hI hp]at q;exact q.elim
 obtain⟨oc,od,kV,b1,pm,an,i,ct,a9,rfl,lk,a1⟩:=Fu.ex;refine DB lk a1 S len λA outer s H vs Q E hr a4=>?_;obtain⟨U,zs,h,r,rh,q⟩:=a4;refine⟨_,hb _ rfl rfl rfl rfl rfl rfl ⟨rfl,S.nd,hl,λ_ _=>.inl rfl,a6,dbg,rfl,hr,PassesOwn.leaving⟩ ⟨rfl,rfl,rfl⟩,U,bh N.length zs,h,zX r,rh,?_⟩;unfold cr at q;by_cases hp:zs.length=ps.length
 .rw[e_ hp]at q
  cases e:m (bh N.length zs) h with
  |nx Z' h'=>rw[e]at q;exact λU' R Z' l r' s'=>q U' R .non l r' .non
  |rt v h'=>rw[e]at q;exact q
  |bk Z h'=>rw[e]at q;exact q.elim
  |ct Z h'=>rw[e]at q;exact q.elim
  |bad=>rw[e]at q;exact q.elim
  |exc x Z h' =>
   rw[e]at q;intro ea C U' R Z' s' bm ak ab l al a7 j a0 a2;obtain⟨B,t,aF,O,ar,ai⟩:=a2;refine wpAny_leaves_onW (base:=B) (env:=envOfC a (aj st) s.heap.objs.size f i) (outer:=outer) j.ok.frames rfl aF λas F sm=>?_;have M:∀b o,s.heap.get? b=J o->b∉x4 outer->∃ob,B.get? b=J ob:=λb o eb hf=>by
    obtain⟨o',e'⟩:=a0.old b o eb (by show b∉([]:QR);simp);refine ar b o' e' λhm=>?_;rcases p_.mp (j.stkSub b hm)with z|z
    .exact absurd (pj eb) (by rw[z];exact AD _)
    .exact hf z
   obtain⟨un,ap⟩:=uD (B:=B) j rfl aF.1 F.1 sm M O;exact⟨ea,C,R,rfl,j.os,j.bare,un,ap,⟨B,t,F,O,M,ai⟩,q C U' R ak ab l al⟩
  |rse x Z h' =>
   rw[e]at q;intro ea C U' R Z' s' h0 ak ab l al a7 j L;have a8:=j.stack;have a3:∀env∈(envOfC a (aj st) s.heap.objs.size f i::outer),∀b,env.frame=J b->b∈x4 (envOfC a (aj st) s.heap.objs.size f i::outer):=λenv he b hb=>LY.mpr ⟨env,he,hb⟩;refine rZ (base:=PySem.W.hideAll h0 (x4 (envOfC a (aj st) s.heap.objs.size f i::outer))) (h:=h0) (env:=envOfC a (aj st) s.heap.objs.size f i) (outer:=outer) j.ok.frames rfl (λb o z=>PySem.W.of_hideAll _ z)
    (PySem.W.funFrames_hide (base:=base) a8 a3) L λas t F sm=>?_
   have sub:∀b,b∈x4 (envOfC a (aj st) s.heap.objs.size f i::outer)->b=s.heap.objs.size\/b∈x4 outer:=λb hm=>p_.mp (j.stkSub b hm);have M:∀b o,s.heap.get? b=J o->b∉x4 outer->∃ob,(PySem.W.hideAll h0 (x4 (envOfC a (aj st) s.heap.objs.size f i::outer))).get? b=J ob:=λb o eb hf=>by
    obtain⟨o',e'⟩:=j.base.there b o eb (by show b∉([]:QR);simp);refine⟨o',PySem.W.hideAll_get _ e' λhm=>?_⟩;rcases sub b hm with z|z
    .exact absurd (pj eb) (by rw[z];exact AD _)
    .exact hf z
   have O:∀b o,R b=J o->∃ob,(PySem.W.hideAll h0 (x4 (envOfC a (aj st) s.heap.objs.size f i::outer))).get? b=J ob:=λb o eb=>by
    have b0:=j.hok.lt eb;obtain⟨u,eu⟩:∃u,h0.get? b=J u:=(j.hok b o eb).has;refine⟨u,PySem.W.hideAll_get _ eu λhm=>?_⟩
    have:=j.stkFree b hm
    rw[eb]at this;cases this
   have a5:h0.UpToSlots as:=(Heap.UpToSlots.of_keeps L.keeps).trans sm;obtain⟨un,ap⟩:=uD (B:=PySem.W.hideAll h0 (x4 (envOfC a (aj st) s.heap.objs.size f i::outer))) j rfl (λb o z=>PySem.W.of_hideAll _ z) F.1 a5 M O;have ai:R ea=Y:=by
    cases z:R ea with
    |none=>rfl
    |some o =>
     obtain⟨u,eu⟩:=(j.hok ea o z).has;rw[L.new]at eu;cases eu
   exact⟨ea,C,R,rfl,j.os,j.bare,un,ap,⟨_,t,F,O,M,ai⟩,q C U' R ak ab l al⟩
 .rw[hI hp]at q;exact q.elim
def r_(v:PV)(h:MH):Out MIt:=match v with
 |.loc n=>(match h[n]? with
  |some (.lst xs)=>.ok ⟨xs,[(n,xs)]⟩ h
  |_=>.bad)
 |.frl xs=>.ok ⟨xs,[]⟩ h
 |.tup xs=>.ok ⟨xs,[]⟩ h
 |_=>.bad
def c9(m:Mx PV):Mx MIt:=λZ h=>(m Z h).bind r_
def ii(hl:ME X l m):MI X tg l (c9 m):=by
 intro j s Z H R i ⟨U,a,h,y,u,q⟩;by_cases z:∃xs f,m a h=.ok (.tup xs) f
 .obtain⟨xs,f,e⟩:=z;refine Fl hl j s Z H R i ⟨U,a,h,y,u,?_⟩;unfold c9 at q;unfold IU;rw[e]at q ⊢;exact q
 .refine B0 hl j s Z H R i ⟨U,a,h,y,u,?_⟩;unfold c9 at q;unfold IT
  cases e:m a h with
  |ok v f =>
   rw[e]at q
   cases v with
   |tup xs=>exact absurd ⟨xs,f,e⟩ z
   |_=>exact q
  |exc x f=>rw[e]at q;exact q
  |bad=>rw[e]at q;exact q
def Inv.bigM{f:QT}{Z:L2.St}{H:Hp}{s:Shared}(a:Inv X f Z H s):sysModules<s.heap.objs.size:=by have h:mainGlobals<s.heap.objs.size:=(a.mod.glob.keeps a.bk).lt;exact K5 (by decide) h
def Fx:Mx PV:=λ_ h=>.ok (.loc h.length) (h++[.dic T [] []])
def B5:ME X (.Dict [] [] pos) Fx:=λu s Z H Q a ⟨U,l,h,y,f,q⟩=>by
 have hf:=a.hok.fresh (mu _);obtain⟨j,i⟩:=f.new hf (o:=.dic T [] []) ⟨[],rfl,.nil,rfl⟩;refine wpAny_Dict_empty ⟨.ref s.heap.objs.size,_,a.laid (t':=s.toks) (λ_ _ q=>n3 _ q) (mu _) ?_,rfl,q _ _ _ i j (.loc (by rw[<-f.len];simp))⟩;exact⟨Hn _,beq_eq_false_iff_ne.mpr (Ne.symm (vR (Inv.bigM a))),[],.nil,Heap.DictOf.new s.heap⟩
structure FnAt(P:Program)(w:World)(K:hH)(mg:QA)(base:Heap)(x:Str)(ps:QM)(F:QL->MH->QX)(k:Nat):Prop where
 ex:∃f fd,mg x=J (.ref f)/\PySem.W.keepIn K (.ref f)=I/\j0 K fd ps []/\FnOk P w K mg base (Hu P w) k f fd ps (Fw K mg F)/\∃oc od osl,K.lookup f=J ⟨oc,od,.func fd,osl⟩
def FnAt.mono{P:Program}{w:World}{K:hH}{mg:QA}{base:Heap}{x:Str}{l:QM}{F:QL->MH->QX}{i j:Nat}(c:FnAt P w K mg base x l F i)(h:i<=j):FnAt P w K mg base x l F j :=
 let⟨f,fd,a,b,d,e,z⟩:=c.ex;⟨f,fd,a,b,d,e.mono h,z⟩
def FnAt.cal{P:Program}{w:World}{K:hH}{mg:QA}{base:Heap}{x:Str}{j:QM}{F:QL->MH->QX}{i:Nat}(c:FnAt P w K mg base x j F i){X:Cx}(e1:X.prog=P)(e2:X.w=w)(e3:X.K=K)(e4:X.mg=mg)(e5:X.base=base):Cal X x j F i:=by subst e1;subst e2;subst e3;subst e4;subst e5;obtain⟨f,fd,a,b,d,e,_⟩:=c.ex;exact⟨f,fd,a,b,d,e⟩
structure eT(K:hH)(x:Str)(st:Stmt):Prop where
 ex:∃f fd,PySem.W.nsIn K mainGlobals x=J (J (.ref f))/\Fun K x x st f fd
def Bl{K:hH}{x:Str}{st:Stmt}{f:Addr}{B:Value}{u j:QD}{y:Array (QU)}{kV z pm i ct:Value}(a:PySem.W.nsIn K mainGlobals x=J (J (.ref f)))(l:K.lookup f=J ⟨B,u,.func (PySem.W.fnOf x x (fY st) (aG st) (aj st) .none kV z pm j i ct),y⟩)(c:PySem.W.codeIn K i x=I)(kp:PySem.W.keepIn K (.ref f)=I):eT K x st :=
 ⟨f,_,a,yf l c kp⟩
def fQ(x:Str)(st:Stmt)(j:QM):Prop:=∀(kV i pm:Value)(l:QD)(f ct:Value)(a:QS),a.length=j.length->bindArgs (PySem.W.fnOf x x (fY st) (aG st) (aj st) .none kV i pm l f ct) ⟨a,[]⟩=pure (j.zip a)
def nK{P:Program}{w:World}{K:hH}{mg:QA}{base:Heap}{x:Str}{st:Stmt}{j:QM}{m:nr}(kin:K.In base)(ns:base.Ns mainGlobals mg)(D:eT K x st)(S:o_ N j (aj st))(B:fQ x st j)(hl:∀y∈N,(aj st).names.lookup y=J .local\/(aj st).names.lookup y=J .cell)(l:∀y∈G,(aj st).names.lookup y=J .globalImplicit)(dbg:∀x∈N++G,(x==("__debug__":Str))=T/\(x==("__classdict__":Str))=T/\x≠"__name__")(F:∀X:Cx,X.prog=P->X.w=w->X.K=K->X.mg=mg->X.base=base->X.env.scope=aj st->Good X N N G k->h_ X->Aj X (aG st) m):
  FnAt P w K mg base x j (cr N.length j.length m) (k+1):=by
 obtain⟨f,fd,a,i⟩:=D.ex;have C:=i.ex;obtain⟨L,z,kV,H,pm,M,E,ct,u,e1,e2,_⟩:=C;exact⟨f,fd,PySem.W.mg_of kin ns a,i.kp,i.binds B,MF i S hl l dbg F,L,z,u,e2⟩
def Fy{P:Program}{w:World}{K:hH}{mg:QA}{h:Heap}{x y:Str}{st:Stmt}{F:QL->MH->QX}{z:Addr}(D:eT K x st)(B:fQ x st [y])(l:mg x=J (.ref z))(kin:K.In h)(ns:h.Ns mainGlobals mg)(H:∀base:Heap,K.In base->base.Ns mainGlobals mg->FnAt P w K mg base x [y] F k):
  ∃fd:FuncData,(∀(s:Shared)(u:Value),BindsTo s fd ⟨[u],[]⟩ [(y,u)])/\∀base:Heap,K.In base->base.Ns mainGlobals mg->FnOk P w K mg base (Hu P w) k z fd [y] (Fw K mg F):=by
 obtain⟨f,fd,a,S⟩:=D.ex;have e:=l.symm.trans (PySem.W.mg_of kin ns a);obtain⟨oc,U,kV,j,pm,Q,i,ct,O,e1,e2,e3⟩:=S.ex;refine⟨fd,λs u=>.of_eq ?_,λbase kb M=>?_⟩
 .rw[e1];exact B kV j pm Q i ct [u] rfl
 .obtain⟨f',L,g1,g2,Z,g4,E,R,C,g5⟩:=(H base kb M).ex
  grind
def IW(K:hH):Sp:=λi H Q _=>∃(a:Addr)(ns:QN),i=[.ref a]/\SqF K H a (ns.map V.int)/\ns.length<=63/\∀f,Q (.bl I) f
def Fz{l:PySem.W.OpenLaw}{q:Program}{loose:QM}{XP:(Str->QU)->Heap->Prop}{O:World->Heap->Prop}{d:DefRec}{K:Params->hH}{x:Str}{F:QL->MH->QX}(S:l.most=J 63)(B:d.params.defaults=[])(hr:Room k callerA)(hi:PyProof.Rows.importsNone q=I)(L:l.prog.given.tree=Y)(hY:∀(w:World)(h:Heap),O w h->(K w.params).In h)(HF:∀(w:World)(mg:QA)(i:Addr)(h:Heap),(K w.params).In h->h.Ns mainGlobals mg->mg d.name=J (.ref i) ->
   ∃fd:FuncData,(∀(s:Shared)(u:Value),BindsTo s fd ⟨[u],[]⟩ [(x,u)])/\∀base:Heap,(K w.params).In base->base.Ns mainGlobals mg->FnOk l.prog w (K w.params) mg base (Hu l.prog w) k i fd [x] (Fw (K w.params) mg F))(ht:∀ns:QN,ns.length<=63->∃R,F [.frl (ns.map .int)] []=.ok (.bl I) R):
  PySem.W.WalkO q loose XP O l.row.toRowW d [] (λf P=>PySem.call f P):=by
 refine L2.BW (x:=x) (CX:=λw=>Hu l.prog w) (sp:=λw=>IW (K w.params)) S (by decide) B hr hi L hY (λw mg i h Z j M=>?_) (λw H a ns hl hO U=>?_) λw H s e s' z=>?_
 .obtain⟨fd,hb,hF⟩:=HF w mg i h Z j M;refine⟨fd,hb,λbase kb nb=>(hF base kb nb).imp λP H Q E z=>?_⟩;obtain⟨a,ns,rfl,C,hl,hq⟩:=z;obtain⟨R,e⟩:=ht ns hl;refine⟨[],[.frl (ns.map .int)],[],.cons (.frl C (RPs.ints ns)) .nil,⟨rfl,List.nodup_nil,λn a o z _=>by simp at z⟩,?_⟩;rw[e];intro U' H' v' _ _ r;cases r;exact hq H'
 .have C:SqF (K w.params) H a (ns.map V.int):=by
   rcases U with(z|z)|z
   .rcases hO a with y|⟨o,xs,y⟩
    .rw[y]at z;cases z
    .rw[y]at z;cases z
   .exact .inl z
   .exact .inr z
  exact⟨a,ns,rfl,C,hl,λ_=>rfl⟩
 .obtain⟨_,_,_,_,_,_,_,_,_,z⟩:=z;exact z
end
section
variable{α:Type}{Z:n8}{h:MH}
@[simp]theorem DK:mC v Z h=.ok v h:=rfl
@[simp]theorem nX{v:PV}{r:n8}:af 0 (J v::r) h=.ok v h:=rfl
@[simp]theorem om{i:Nat}{o:QE}{r:n8}:af (i+1) (o::r) h=af i r h:=by simp[af]
@[simp]theorem B6:ay f a b Z h=(a Z h).bind λx h1=>(b Z h1).bind λy h2=>(f x y h2).ne:=rfl
@[simp]theorem MK:IM f a Z h=(a Z h).bind λx h1=>(f x h1).ne:=rfl
@[simp]theorem FA:qo f a Z h=(a Z h).bind λx h1=>(f x h1).ne:=rfl
@[simp]theorem zw:ba f a Z h=(a Z h).bind f:=rfl
@[simp]theorem dW:b_ Z h=.ok [] h:=rfl
@[simp]theorem cO:ae a r Z h=(a Z h).bind λx h1=>(r Z h1).bind λxs h2=>.ok (x::xs) h2:=rfl
@[simp]theorem uY:fV a Z h=(a Z h).bind tr:=rfl
@[simp]theorem Lc:cY a Z h=(a Z h).bind nc:=rfl
@[simp]theorem Ld:Fx Z h=.ok (.loc h.length) (h++[.dic T [] []]):=rfl
@[simp]theorem OS:mB a Z h=(a Z h).bind λv h1=>match v with|.bl b=>.ok b h1|_=>.bad:=rfl
@[simp]theorem Lf:mz a Z h=(a Z h).bind λb h1=>.ok (!b) h1:=rfl
@[simp]theorem ML:Ht a b Z h=(a Z h).bind λx h1=>if x=I then .ok I h1 else b Z h1:=rfl
@[simp]theorem IY:wj a b Z h=(a Z h).bind λx h1=>match x with|.bl c=>if c=I then b Z h1 else .ok (.bl T) h1|_=>.bad:=rfl
@[simp]theorem Lg:BX a b Z h=(a Z h).bind λx h1=>match x with|.bl c=>if c=I then .ok (.bl I) h1 else b Z h1|_=>.bad:=rfl
@[simp]theorem IZ:vP a Z h=(a Z h).bind λx h1=>match x with|.bl c=>.ok (.bl (!c)) h1|_=>.bad:=rfl
@[simp]theorem Lh:Fd c a b Z h=(c Z h).bind λx h1=>if x=I then a Z h1 else b Z h1:=rfl
@[simp]theorem sJ:n7 Z h=.nx Z h:=rfl
@[simp]theorem aS:aQ a b Z h=(a Z h).then b:=rfl
@[simp]theorem ax:(SOut.nx Z h).then k=k Z h:=rfl
@[simp]theorem oU:(SOut.rt v h).then k=.rt v h:=rfl
@[simp]theorem then_bk:(SOut.bk Z h).then k=.bk Z h:=rfl
@[simp]theorem then_ct:(SOut.ct Z h).then k=.ct Z h:=rfl
@[simp]theorem zp:(SOut.rse x Z h).then k=.rse x Z h:=rfl
@[simp]theorem zn:(SOut.exc x Z h).then k=.exc x Z h:=rfl
@[simp]theorem zu:SOut.bad.then k=.bad:=rfl
def Out.rt(o:QX)(Z:n8):SOut:=match o with
 |.ok v a=>.rt v a
 |.exc x a=>.exc x Z a
 |.bad=>.bad
@[simp]theorem OT:(Out.ok v h).rt Z=.rt v h:=rfl
@[simp]theorem MN:(Out.exc x h:QX).rt Z=.exc x Z h:=rfl
@[simp]theorem MP:(Out.bad:QX).rt Z=.bad:=rfl
@[simp]theorem uW:bO m Z h=(m Z h).rt Z:=rfl
def Out.go{α:Type}(o:Out α)(Z:n8)(k:α->nr):SOut:=match o with
 |.ok v a=>k v Z a
 |.exc x a=>.exc x Z a
 |.bad=>.bad
@[simp]theorem aB:(Out.ok v h).go Z k=k v Z h:=rfl
@[simp]theorem go_exc:(Out.exc x h:Out α).go Z k=.exc x Z h:=rfl
@[simp]theorem go_bad:(Out.bad:Out α).go Z k=.bad:=rfl
@[simp]theorem FC:vC m k Z h=(m Z h).go Z k:=rfl
@[simp]theorem iu:fM m Z h=(m Z h).go Z λ_=>n7:=rfl
@[simp]theorem wN:Ax c a b Z h=(c Z h).go Z λx=>if x=I then a else b:=rfl
@[simp]theorem fi:aV i m Z h=(m Z h).go Z λv Z h=>.nx (Z.set i (J v)) h:=rfl
@[simp]theorem Li:Fj i j m Z h=(m Z h).go Z λvs Z h=>match vs with|[v,w]=>.nx ((Z.set i (J v)).set j (J w)) h|_=>.bad:=rfl
@[simp]theorem Lj:kZ m g Z h=(m Z h).go Z λv Z h=>match g v Z h with|.nx Z2 h2=>.nx Z2 h2|.exc x Z2 h2=>.exc x Z2 h2|_=>.bad:=rfl
@[simp]theorem MQ:mA i v Z h=.nx (Z.set i (J v)) h:=rfl
@[simp]theorem MR:wv [] Z h=.nx Z h:=rfl
@[simp]theorem MU:qb a r (v::vs) Z h=(a v Z h).then (r vs):=rfl
@[simp]theorem MV:wy r n (.tup xs) Z h=if xs.length=n then r xs Z h else .bad:=rfl
@[simp]theorem fP:je mi g b Z h=(mi Z h).go Z λit=>vr it g b it.xs:=rfl
@[simp]theorem B7:c9 m Z h=(m Z h).bind r_:=rfl
@[simp]theorem I_:cQ m Z h=(m Z h).bind λvs h1=>match vs with
 |[.int j]=>if -(2^62)<=j/\j<2^62 then .ok ⟨bH 0 j.toNat,[]⟩ h1 else .bad
 |_=>.bad:=rfl
@[simp]theorem FD:Bs mo mi v Z h=(mo Z h).go Z λo=>vC mi λi Z h=>match mK o i v h with
 |some h2=>.nx Z h2
 |none=>.bad:=rfl
def SOut.fin(o:SOut):QX:=match o with
 |.nx _ a=>.ok .non a
 |.rt v a=>.ok v a
 |.exc x _ a=>.exc x a
 |.rse x _ a=>.exc x a
 |_=>.bad
@[simp]theorem fin_exc:(SOut.exc x Z h).fin=.exc x h:=rfl
@[simp]theorem fin_rse:(SOut.rse x Z h).fin=.exc x h:=rfl
@[simp]theorem bS:(SOut.rt v h).fin=.ok v h:=rfl
@[simp]theorem xI:(SOut.nx Z h).fin=.ok .non h:=rfl
theorem d3(e:ps.length=np):cr n np m ps h=(m (bh n ps) h).fin:=by unfold cr;rw[e_ e];rfl
end
section
variable{h:MH}{i j:Int}
@[simp]theorem Ja:jj (.int i) (.int j) h=.ok (.int (i+j)) h:=rfl
@[simp]theorem Jb:Bi (.int i) (.int j) h=.ok (.int (i-j)) h:=rfl
@[simp]theorem Lk:Bj (.int i) h=.ok (.int (-i)) h:=rfl
@[simp]theorem Ll:Bg (.int i) (.int j) h=.ok (.bl (decide (i<j))) h:=rfl
@[simp]theorem Lm:Fo (.int i) (.int j) h=.ok (.bl (decide (i<=j))) h:=rfl
@[simp]theorem Ln:Bh (.int i) (.int j) h=.ok (.bl (decide (j<i))) h:=rfl
@[simp]theorem Lo:AV (.int i) (.int j) h=.ok (.bl (decide (j<=i))) h:=rfl
@[simp]theorem Lp:Am (.int i) (.int j) h=.ok (.bl (decide (i=j))) h:=rfl
@[simp]theorem Lq:An (.int i) (.int j) h=.ok (.bl (!decide (i=j))) h:=rfl
@[simp]theorem Lr:Am (.bl a) (.bl b) h=.ok (.bl (a==b)) h:=by simp[Am,rd,SeqAt.shaped,PyData.canLay0,PyData.depth,PyData.eqv]
@[simp]theorem Ls:An (.bl a) (.bl b) h=.ok (.bl (!(a==b))) h:=by simp[An,rd,SeqAt.shaped,PyData.canLay0,PyData.depth,PyData.eqv]
theorem fU(a:j≠0):n4 (.int i) (.int j) h=.ok (.int (i.fmod j)) h:=by simp[n4,a]
def tT(a:j≠0):AH (.int i) (.int j) h=.ok (.int (i.fdiv j)) h:=by simp[AH,a]
def ic(hl:-(2^64)<i/\i<2^64):ki (.int i) (.int j) h=.ok (.int (i*j)) h:=by simp[ki,IntMulOk.of_left (intBits_le_64 hl.1 hl.2)]
def B8(hl:-(2^64)<j/\j<2^64):ki (.int i) (.int j) h=.ok (.int (i*j)) h:=by simp[ki,IntMulOk.of_right (intBits_le_64 hl.1 hl.2)]
def sx(a:0<=j/\j<=1000000/\i.natAbs<2^64):rk (.int i) (.int j) h=.ok (.int (i^j.toNat)) h:=by simp[rk,fW,a]
@[simp]theorem MX:Ao [.int i] h=.ok (.int (if i<0 then -i else i)) h:=rfl
@[simp]theorem Lu:zb [.int i,.int j] h=.ok (.int (if j<i then j else i)) h:=rfl
@[simp]theorem Lv:AI [.int i,.int j] h=.ok (.int (if j>i then j else i)) h:=rfl
@[simp]theorem MY:Bk [.int i] h=.ok (.int i) h:=rfl
@[simp]theorem MZ:Bk [.bl b] h=.ok (.int (if b then 1 else 0)) h:=rfl
@[simp]theorem Jc:q_ [.frl xs] h=.ok (.int xs.length) h:=rfl
@[simp]theorem Jd:q_ [.tup xs] h=.ok (.int xs.length) h:=rfl
theorem gQ(hl:xs.length<=1000):nc xs h=.ok (.tup xs) h:=by unfold nc;rw[e_ (qs hl (by decide))]
def gR(hl:xs.length<=1000):tr xs h=.ok (.loc h.length) (h++[.lst xs]):=by unfold tr;rw[e_ (qs hl (by decide))]
@[simp]theorem M0:nc [] h=.ok (.tup []) h:=gQ (by decide)
@[simp]theorem M1:nc [a] h=.ok (.tup [a]) h:=gQ (by simp)
@[simp]theorem M2:nc [a,b] h=.ok (.tup [a,b]) h:=gQ (by simp)
@[simp]theorem M3:nc [a,b,c] h=.ok (.tup [a,b,c]) h:=gQ (by simp)
theorem ie(hl:m<n):vf n (m:Int)=J m:=by unfold vf;rw[e_ ⋯,e_ ⋯];simp
@[simp]theorem OU:pz (a::r) 0=J a:=dX (j:=0) rfl
@[simp]theorem OV:pz (a::b::r) 1=J b:=dX (j:=1) rfl
@[simp]theorem OW:pz (a::b::c::r) 2=J c:=dX (j:=2) rfl
@[simp]theorem OX:pz (a::b::c::d::r) 3=J d:=dX (j:=3) rfl
def Out.ofO(o:QE)(h:MH):QX:=match o with
 |some v=>.ok v h
 |none=>.bad
@[simp]theorem Je:Out.ofO (J v) h=.ok v h:=rfl
@[simp]theorem Jf:bc (.tup xs) (.int i) h=Out.ofO (pz xs i) h:=rfl
@[simp]theorem Jg:bc (.frl xs) (.int i) h=Out.ofO (pz xs i) h:=rfl
theorem f6(e:h[n]?=J (.lst xs)):bc (.loc n) (.int i) h=Out.ofO (pz xs i) h:=by simp only[bc,e];rfl
def ko(e:h[n]?=J (.lst xs)):mK (.loc n) (.int i) v h=(vf xs.length i).map λp=>h.set n (.lst (xs.set p v)):=by simp only[mK,e]
def wM(e:h[n]?=J (.lst xs)):r_ (.loc n) h=.ok ⟨xs,[(n,xs)]⟩ h:=by simp only[r_,e]
@[simp]theorem Hv:r_ (.tup xs) h=.ok ⟨xs,[]⟩ h:=rfl
@[simp]theorem Hw:r_ (.frl xs) h=.ok ⟨xs,[]⟩ h:=rfl
@[simp]theorem d7:(⟨xs,[]⟩:MIt).ok h↔True:=⟨λ_=>trivial,λ_ p hp=>nomatch hp⟩
@[simp]theorem Lw:(⟨xs,[(n,zs)]⟩:MIt).ok h↔h[n]?=J (.lst zs):=by
 constructor
 .intro q;exact q (n,zs) (by simp)
 .intro q p hp;have e:=HU.mp hp;subst e;exact q
end
def SOut.turn(o:SOut)(k:nr):SOut:=match o with
 |.nx f a=>k f a
 |.ct f a=>k f a
 |.bk f a=>.nx f a
 |.rt v a=>.rt v a
 |.exc e f a=>.exc e f a
 |.rse e f a=>.rse e f a
 |.bad=>.bad
@[simp]theorem yY:(SOut.rse x Z h).turn k=.rse x Z h:=rfl
@[simp]theorem yP:(SOut.exc x Z h).turn k=.exc x Z h:=rfl
@[simp]theorem turn_nx:(SOut.nx Z h).turn k=k Z h:=rfl
@[simp]theorem turn_ct:(SOut.ct Z h).turn k=k Z h:=rfl
@[simp]theorem turn_bk:(SOut.bk Z h).turn k=.nx Z h:=rfl
@[simp]theorem turn_rt:(SOut.rt v h).turn k=.rt v h:=rfl
theorem jv(e:it.ok h):vr it g b [] Z h=.nx Z h:=by rw[vr];dsimp only;rw[e_ e]
def fR(e:it.ok h)(a:g x Z h=.nx Z1 h1):vr it g b (x::r) Z h=(b Z1 h1).turn (vr it g b r):=by rw[vr];dsimp only;rw[e_ e,a];rfl
def sy(j:Nat->Shared->Prop)(turn:∀n s,j n s->wpAny (model prog w) A (pyNext it) (λr a=>match r with
   |none=>R (.ok .next) a
   |some v=>wpAny (model prog w) A (letOwnedTupleGo target it v) (λ_ i=>wpAny (model prog w) A (assign target env v) (λ_ B =>
     wpAny (model prog w) A (forIn ifs I λc r=>if r=I then do let ok <-isTrue c env (eval c env);pure (ForInStep.yield ok)else pure (ForInStep.yield r)) (λok f =>
      if ok=I then wpAny (model prog w) A (eval elt env) (λx y =>
       wpAny (model prog w) A (call (.builtin "list.append") [acc,x]) (λ_ u=>∃m,m<n/\j m u) (λ_ _=>False) y) (λ_ _=>False) f
      else ∃m,m<n/\j m f) (λ_ _=>False) B) (λ_ _=>False) i) (λ_ _=>False) a) (λ_ _=>False) s)(n:Nat)(h:j n s):
  codeAny (model prog w) A (.compLoop (.ListComp elt [⟨target,iter,ifs,0⟩] scope pos) 0 it acc env) R s:=by
 refine codeAny_loop rfl j (λn s L=>?_) n h;refine wpAny_noted ?_;rw[compTurn_list];refine g_ (wpAny_standAt (g_ (wpAny_mono (turn n s L) (λr a z=>?_) λ_ _ l=>l.elim)))
 cases r with
 |none=>exact oh z
 |some v =>
  refine g_ (wpAny_mono z (λ_ i E=>?_) λ_ _ l=>l.elim);refine g_ (wpAny_mono E (λ_ B H=>g_ (wpAny_mono H (λok f C=>?_) λ_ _ l=>l.elim)) λ_ _ l=>l.elim)
  cases ok with
  |false=>exact oh ⟨rfl,C⟩
  |true =>
   exact g_ (g_ (wpAny_mono C (λx y G=>g_ (wpAny_mono G (λ_ u F=>oh (oh ⟨rfl,F⟩)) λ_ _ l=>l.elim)) λ_ _ l=>l.elim))
def ku(env:Env):List (Str×NameKind)->List (Str×Addr)->List (Str×Addr)
 |[],a=>a
 |(n,k)::r,a=>ku env r (if(k==NameKind.free)=I then(n,(env.cells.lookup n).getD 0)::a else a)
def qt(h:∀y∈scope.names,y.2=.free->∃c,env.cells.lookup y.1=J c):closureFor scope env=pure (ku env scope.names []):=by
 have j:∀(l:List (Str×NameKind))(f:List (Str×Addr)),(∀y∈l,y.2=.free->∃c,env.cells.lookup y.1=J c) ->
   (forIn l f λ(x:Str×NameKind)(r:List (Str×Addr))=>if(x.2==NameKind.free)=I then(do let a <-cellOf env x.1;pure (ForInStep.yield ((x.1,a)::r)):Sem _)else pure (ForInStep.yield r))=(pure (ku env l f):Sem _):=by
  intro l
  induction l with
  |nil=>intro f _;rfl
  |cons y l B =>
   intro f C;obtain⟨n,k⟩:=y;rw[List.forIn_cons];have hl:=λz F=>C z (p5 _ F);by_cases i:(k==NameKind.free)=I
   .obtain⟨c,E⟩:=C (n,k) Et (by simpa using i);rw[e_ i];have u:cellOf env n=pure c:=by unfold cellOf;rw[E]
    rw[u];refine(B ((n,c)::f) hl).trans ?_;simp only[ku,i,if_true,E,Ev]
   .rw[hI i];refine(B f hl).trans ?_;simp[ku,i]
 exact(congrArg (λz=>z >>= λr=>pure r) (j scope.names [] h)).trans rfl
def mj:∀(l:List (Str×NameKind))(f:List (Str×Addr)),(∀a,f.lookup x=J a->a=(env.cells.lookup x).getD 0)->(∀a,(ku env l f).lookup x=J a->a=(env.cells.lookup x).getD 0)/\((∃k,(x,k)∈l/\k=.free)\/(∃a,f.lookup x=J a)->∃a,(ku env l f).lookup x=J a):=by
 intro l
 induction l with
 |nil =>
  intro f h;refine⟨h,λz=>?_⟩;rcases z with⟨k,z,_⟩|z
  .cases z
  .exact z
 |cons y r B =>
  intro f h;obtain⟨n,k⟩:=y;have F:∀a,(if(k==NameKind.free)=I then(n,(env.cells.lookup n).getD 0)::f else f).lookup x=J a->a=(env.cells.lookup x).getD 0:=λa i=>by
   split at i
   .rw[BC]at i
    split at i
    .rename_i e
     have:x=n:=by simpa using e
     subst this;exact(Option.some.inj i).symm
    .exact h a i
   .exact h a i
  obtain⟨u,E⟩:=B _ F;refine⟨u,λz=>E ?_⟩;rcases z with⟨C,z,j⟩|⟨a,z⟩
  .rcases p_.mp z with e|e
   .cases e;right;subst j;exact⟨(env.cells.lookup x).getD 0,by simp⟩
   .exact .inl ⟨C,e,j⟩
  .right;split
   .rw[BC];split
    .exact⟨_,rfl⟩
    .exact⟨a,z⟩
   .exact⟨a,z⟩
def cj{env:Env}(l:env.scope.kind=.function):∀{names:List (Str×NameKind)}{x:Str}{k:NameKind},names.lookup x=J k ->
  (names.map λ(n,k)=>if(k==NameKind.free&&env.scope.kind == .function&&env.kindOf n==J .cell)then(n,NameKind.cell)else(n,k)).lookup x=J (if k=.free/\env.kindOf x=J .cell then .cell else k):=by
 intro names
 induction names with
 |nil=>intro x k h;simp at h
 |cons y r f =>
  intro x k h;obtain⟨n,i⟩:=y;have j:=@f x k;show List.lookup x ((if(i==NameKind.free&&env.scope.kind == .function&&env.kindOf n==J .cell)=I then(n,NameKind.cell)else(n,i))::_)=_
  cases a:x==n with
  |true =>
   have e:x=n:=by simpa using a
   subst e;simp only[BC,a]at h;cases h;by_cases z:k=.free/\env.kindOf x=J .cell
   .rw[e_ (by simp[z.1,z.2,l]),e_ z];simp
   .rw[hI (by simp[l];intro C B;exact z ⟨C,B⟩),hI z];simp
  |false =>
   simp only[BC,a]at h;by_cases u:(i==NameKind.free&&env.scope.kind == .function&&env.kindOf n==J .cell)=I
   .rw[e_ u];simp only[BC,a];exact j h
   .rw[hI u];simp only[BC,a];exact j h
def dH(X:Cx)(a:Scope)(cl:List (Str×Addr))(f:Shared)(i:Hp)(j:QR)(l:QM):Cx :=
 { X with N:=l,s₀:=f,H₀:=i,env:=compEnvC a cl f.heap.objs.size X.env,outer:=X.stack,ex:=j,fn:=λx=>decide (a.names.lookup x=J .cell),pn:=[],xe:=λ_ _=>False}
structure zi(X:Cx)(N:QM)(scope:Scope)(vars frees:QM)(fm:QP):Prop where
 kind:scope.kind=.function
 cell:∀y∈scope.names,y.2=.cell->scope.names.lookup y.1=J .cell
 names:∀y∈scope.names,y.2=.local->scope.names.lookup y.1=J .local
 hv:∀x∈vars,scope.names.lookup x=J .local\/scope.names.lookup x=J .cell
 hf:∀x∈frees,scope.names.lookup x=J .free
 all:∀y∈scope.names,y.2=.free->y.1∈frees
 fm:fm.map (λi=>N[i]?)=frees.map J
 cl:∀x∈frees,X.env.kindOf x=J .cell
def Bm(a:Nat)(fm:QP)(Z:n8):n8:=List.replicate a Y++fm.map λi=>(Z[i]?).getD Y
def zo(a:MIt)(n:Nat)(j:Mg)(mt:Mx Bool)(i:Mx PV):QL->n8->MH->Out Unit
 |[],_,h=>if a.ok h then .ok () h else .bad
 |x::r,Z,h=>if a.ok h then (match j x Z h with
  |.nx f y=>(mt f y).ne.bind λb u=>if b=I then (i f u).ne.bind λv l=>(match l[n]? with
    |some (.lst ys)=>if ys.length<sizeLine then zo a n j mt i r f (l.set n (.lst (ys++[v])))else .bad
    |_=>.bad)else zo a n j mt i r f u
  |_=>.bad)else .bad
def bI(y:Nat)(fm:QP)(i:Mx MIt)(u:Mg)(mt:Mx Bool)(j:Mx PV):Mx PV:=λZ h =>
 (i Z h).bind λf a=>(zo f a.length u mt j f.xs (Bm y fm Z) (a++[.lst []])).bind λ_ l=>.ok (.loc a.length) l
def Bt(X:Cx)(a:QW)(m:Mx Bool):Prop :=
 ∀(f:QT)(s:Shared)(Z:L2.St)(H:Hp)(Q:Bool->Hp->Prop),Inv X f Z H s->tM X IL m Z H Q ->
  wpAny (model X.prog X.w) X.A (forIn a I λc r=>if r=I then do let ok <-isTrue c X.env (eval c X.env);pure (ForInStep.yield ok)else pure (ForInStep.yield r)) (TP X f Z Q) X.xe s
def nw:Mx Bool:=λ_ h=>.ok I h
def dZ:Bt X [] nw:=λj s Z H Q a ⟨U,f,h,l,i,q⟩=>wpAny_tests_nil ⟨H,a,q U H I (Le.refl _ _) i rfl⟩
def uM(h:MT X c m):Bt X [c] m:=λf s Z H Q a q=>wpAny_tests_one (h f s Z H Q a q)
inductive CS(X:Cx)(U:QR)(H:Hp)(σp:n8)(gt:Mg)(mt:Mx Bool)(me:Mx PV)(Z0:n8)(Q:VK)(J:It)(H1:Hp):Prop
 |mk(U1:QR)(it:MIt)(h1:MH)(l:Le U H U1 H1)(rh:RH X.K X.mg U1 H1 h1)(j:mG X U1 H1 it J)(q:Ful X (RV' X) σp U1 H1 ((zo it h1.length gt mt me it.xs Z0 (h1++[.lst []])).bind λ_ h3=>.ok (.loc h1.length) h3) Q):CS X U H σp gt mt me Z0 Q J H1
inductive CI(X Y:Cx)(it:MIt)(tn:Nat->Heap->Prop)(fp U0:QR)(H0:Hp)(σp:n8)(n1:Nat)(gt:Mg)(mt:Mx Bool)(me:Mx PV)(Q:VK)(n:Nat)(s6:Shared):Prop
 |mk(i:Nat)(Z6:L2.St)(H6:Hp)(U6:QR)(σp6:n8)(h6:MH)(e:n=it.xs.length-i)(l:i<=it.xs.length)(v:Inv Y [] Z6 H6 s6)(t:tn i s6.heap)(f:∀b∈fp,H6 b=none)(le:Le U0 H0 U6 H6)(rs:RS X.K U6 H6 σp6 Z6)(rh:RH X.K X.mg U6 H6 h6)
   (q:Ful X (RV' X) σp U6 H6 ((zo it n1 gt mt me (it.xs.drop i) σp6 h6).bind λ_ h3=>.ok (.loc n1) h3) Q):CI X Y it tn fp U0 H0 σp n1 gt mt me Q n s6
def qq(j:Q (newEnv scope s.heap.objs.size globals (cellsFrom (s.heap.objs.size+1) scope.names closure) qual Y .none (J env) builtinsNs) { s with heap:=pushCells (s.heap.push { cls:=.type "dict",data:=.dict #[]}) scope.names}):
  wpAny M A (newFunctionEnv scope globals closure [] qual Y .none (J env)) Q E s:=by
 simp only[newFunctionEnv,Option.isSome_some,if_true];refine g_ (wpAny_alloc ?_);refine g_ (wpAny_layCells _ (λf kind a=>by cases i:kind==NameKind.cell<;>simp) _ _ _ _ ?_);rw[show({ s with heap:=s.heap.push { cls:=.type "dict",data:=.dict #[]}}:Shared).heap.objs.size=s.heap.objs.size+1 from A3 ..];exact g_ (oh (oh j))
def dy:∀(names:List (Str×NameKind))(n:Nat)(a:List (Str×Addr)),cellsFrom n names a=cellsFrom n names []++a
 |[],n,a=>rfl
 |(x,k)::r,n,a=>by
  unfold cellsFrom;split
  .rw[dy r (n+1) ((x,n)::a),dy r (n+1) [(x,n)]];simp
  .exact dy r n a
def fC:∀(names:List (Str×NameKind))(n:Nat)(x:Str),(∃c,(x,c)∈cellsFrom n names [])↔(x,NameKind.cell)∈names
 |[],n,x=>by simp[cellsFrom]
 |(y,k)::r,n,x=>by
  unfold cellsFrom;split
  .rename_i i
   have f:k=NameKind.cell:=by simpa using i
   subst f;rw[dy];constructor
   .rintro⟨c,a⟩;rcases Dx.mp a with a|a
    .exact p5 _ ((fC r (n+1) x).mp ⟨c,a⟩)
    .have:x=y:=by simp at a;exact a.1
     rw[this];exact Et
   .intro h;rcases p_.mp h with e|h
    .have:x=y:=by simpa using e
     subst this;exact⟨n,vn _ (by simp)⟩
    .obtain⟨c,a⟩:=(fC r (n+1) x).mpr h;exact⟨c,Hd _ a⟩
  .rw[fC r n x];constructor
   .exact p5 _
   .intro h;rcases p_.mp h with e|h
    .exfalso
     grind
    .exact h
def mW{α:Type}:∀(a b:List (Str×α))(x:Str),(a++b).lookup x=(a.lookup x).or (b.lookup x):= by grind
def zG{α:Type}:∀(a:List (Str×α))(x:Str),a.lookup x=Y->∀c,(x,c)∉a:= by grind
section
variable{X:Cx}{N W G:QM}{k:Nat}
def pV(g:Good X N W G k){tg al cd:Expr}{cm:QW}{f:Scope}{df:Pos}{B frees G':QM}{fm:QP}{mi:Mx MIt}{gt:Mg}{mt:Mx Bool}{me:Mx PV}(C:zi X N f B frees fm)(nd:(B++frees).Nodup)(gg:∀x∈G',f.names.lookup x=J .globalImplicit)(dbg:∀x∈(B++frees)++G',(x==("__debug__":Str))=T/\(x==("__classdict__":Str))=T/\x≠"__name__")(hi:MI X tg al mi)(hY:∀ab:Cx,ab.prog=X.prog->ab.w=X.w->ab.K=X.K->ab.mg=X.mg->ab.base=X.base->ab.env.scope=relabel f X.env->Good ab (B++frees) B G' k->MG ab tg gt/\Bt ab cm mt/\ME ab cd me)(hs:∀x,foldedSetIterable al X.env x=pure x){use:Option (Value->Sem Unit)}{Qv:QZ}{pp:Pos}{JB:QT}{s:Shared}{Z:L2.St}{H:Hp}{Q:VK}(c6:Inv X JB Z H s)(tm:tM X (RV' X) (bI B.length fm mi gt mt me) Z H Q)(fin:∀(ea C:Addr) (H6:Hp) (s7:Shared) (m7:QA),Inv X JB Z H6 s7->H6 C=Y->s7.heap.Ns C m7->C≠X.env.locals->X.s₀.heap.objs.size<=C->C∉X.fs->(∀x c,X.env.cells.lookup x=J c->c≠C)->(∀p∈X.pn++JB,p.1≠C)->Q (.ref ea) H6 ->
   compPost (model X.prog X.w) X.A X.xe use Qv (.ref ea) C (.ok .next) s7):
  wpAny (model X.prog X.w) X.A (comprehension (.ListComp cd [⟨tg,al,cm,0⟩] f df) f X.env pp (newList []) T (eval al X.env) use) Qv X.xe s:=by
 obtain⟨U,ai,h,rs,rh,q⟩:=tm;have b3:∀y∈f.names,y.2=.free->∃c,X.env.cells.lookup y.1=J c:=λy hy e=>c6.ok.has y.1 (.inl (C.cl _ (C.all y hy e)));refine wpAny_comprehension_free (use:=use) rfl hs (qt b3) C.kind C.names ?_;generalize c1:ku X.env f.names []=cl;have ei:∀x a,cl.lookup x=J a->X.env.cells.lookup x=J a\/((X.env.cells.lookup x)=Y/\a=0):=λx a e=>by
  rw[<-c1]at e
  have:=(mj (env:=X.env) (x:=x) f.names [] (λa z=>by simp at z)).1 a e
  cases z:X.env.cells.lookup x with
  |none=>right;rw[z]at this;exact⟨rfl,this⟩
  |some c=>left;rw[z]at this;rw[this];rfl
 have d2:∀x∈frees,∃c,cl.lookup x=J c/\X.env.cells.lookup x=J c:=λx hx=>by
  obtain⟨c,hc⟩:=c6.ok.has x (.inl (C.cl x hx));have hm:(∃kk,(x,kk)∈f.names/\kk=.free):=⟨.free,PySem.mem_of_lookup (C.hf x hx),rfl⟩;obtain⟨a,ha⟩:=(mj (env:=X.env) (x:=x) f.names [] (λa z=>by simp at z)).2 (.inl hm);rw[c1]at ha;rcases ei x a ha with z|⟨z,_⟩
  .rw[hc]at z;cases z;exact⟨c,ha,hc⟩
  .rw[hc]at z;cases z
 have eh:∀x a,cl.lookup x=J a->X.env.cells.lookup x=J a/\x∈frees:=λx a e=>by
   have only:∀(l:List (Str×NameKind))(cs:List (Str×Addr))(x:Str)(a:Addr),(ku X.env l cs).lookup x=J a->(x,NameKind.free)∈l\/cs.lookup x=J a:=by
    intro l
    induction l with
    |nil=>intro cs x a e;exact .inr e
    |cons y l ih =>
     intro cs x a e;obtain⟨n,kk⟩:=y;rcases ih _ x a e with z|z
     .exact .inl (p5 _ z)
     .split at z
      .rename_i hk
       have gk:kk=NameKind.free:=by simpa using hk
       rw[BC]at z
       split at z
       .rename_i e'
        have:x=n:=by simpa using e'
        subst this;subst gk;exact .inl Et
       .exact .inr z
      .exact .inr z
   have e':=e;rw[<-c1]at e';rcases only _ _ x a e' with z'|z'
   .refine⟨?_,C.all _ z' rfl⟩;rcases ei x a e with z|⟨z,_⟩
    .exact z
    .obtain⟨c,hc⟩:=b3 _ z' rfl;rw[z]at hc;cases hc
   .simp at z'
 have start:=hi JB s Z H (CS X U H ai gt mt me (Bm B.length fm ai) Q) c6
  ⟨U,ai,h,rs,rh,Ful.bind q λU1 H1 it e6 h1 _ l1 ca jr q1=>⟨U1,it,h1,l1,ca,jr,q1⟩⟩
 refine wpAny_mono start (λx g1 es=>wpAny_mono es (λg2 F dv=>?_) λ_ _ e=>e) λ_ _ e=>e;obtain⟨en,fp,tn,e6,H2,rfl,I2,R,ek,f2,U1,it,h1,l1,ca,jr,q1⟩:=dv;refine wpAny_newObj_type ?_;have e9:H2 F.heap.objs.size=Y:=I2.hok.fresh (mu _);have M:=I2.lnew (ys:=[]) (its:=[]) (t':=F.toks) .nil (Hn _);obtain⟨dq,l3⟩:=ca.new e9 (o:=.lst []) (ho:=.lst []) ⟨[],rfl,.nil⟩;generalize ft:({ F with heap:=F.heap.push { cls:=.type "list",data:=.seq ([]:QS).toArray},toks:=F.toks}:Shared)=E at M;generalize ey:l_ H2 F.heap.objs.size (.lst [])=L at M dq l3;have gv:L F.heap.objs.size=J (.lst []):=by rw[<-ey];exact aR
 have f3:E.heap=F.heap.push { cls:=.type "list",data:=.seq ([]:QS).toArray}:=by rw[<-ft]
 have ck:tn 0 E.heap:=R.keep _ _ _ ek λb _ o e=>by rw[f3];exact n3 _ e
 have b6:∀b∈fp,ij X JB L b:=λb S=>by
  obtain⟨a0,a1⟩:=f2 b S;refine⟨?_,a1⟩;obtain⟨o,eo,_⟩:=R.obj _ _ ek b S;rw[<-ey,aI (vR (pj eo))];exact a0
 have da:wpAny (model X.prog X.w) X.A (newFunctionEnv f X.env.globals cl [] X.env.qual Y .none (J X.env)) (λt_ er =>
    codeAny (model X.prog X.w) X.A (.compStart (.ListComp cd [⟨tg,al,cm,0⟩] f df) 0 (.ref en) (.ref F.heap.objs.size) { t_ with scope:=relabel f X.env}) (compPost (model X.prog X.w) X.A X.xe use Qv (.ref F.heap.objs.size) t_.locals) er) X.xe E:=by
  refine qq ?_;have O:∀b o,E.heap.get? b=J o->(pushCells (E.heap.push { cls:=.type "dict",data:=.dict #[]}) f.names).get? b=J o:=λb o e=>pushCells_keeps _ _ b o (n3 _ e);have d0:=(Heap.Ns.new E.heap (.type "dict")).keeps (pushCells_keeps f.names _);have bm:=cellsFrom_ok f.names (E.heap.push { cls:=.type "dict",data:=.dict #[]}) (E.heap.objs.size+1) [] ⟨λ_ _ hm=>(nomatch hm),List.Pairwise.nil⟩ (by rw[A3];exact mu _);rw[A3]at bm;rw[dy];have cc:=fC f.names (E.heap.objs.size+1);generalize cellsFrom (E.heap.objs.size+1) f.names []=cn at bm cc ⊢;generalize pushCells (E.heap.push { cls:=.type "dict",data:=.dict #[]}) f.names=h' at O d0 bm ⊢;dsimp only[newEnv];have aF:∀x c,(cn++cl).lookup x=J c->((x,c)∈cn/\f.names.lookup x=J .cell/\E.heap.objs.size<c/\h'.IsCell c Y)\/(X.env.cells.lookup x=J c/\f.names.lookup x=J .free):=λx c e=>by
   rw[mW]at e
   cases z:cn.lookup x with
   |some c' =>
    rw[z]at e
    have:c'=c:=by simpa using e
    subst this;have m:=PySem.mem_of_lookup z;obtain⟨q1,q2⟩:=bm.empty x c' m;exact .inl ⟨m,C.cell _ ((cc x).mp ⟨c',m⟩) rfl,q2,q1⟩
   |none =>
    rw[z]at e;obtain⟨q1,q2⟩:=eh x c (by simpa using e);exact .inr ⟨q1,C.hf x q2⟩
  have d4:∀x c,x∈frees->cl.lookup x=J c->(cn++cl).lookup x=J c:=λx c hx e=>by
   rw[mW]
   cases z:cn.lookup x with
   |none=>simpa using e
   |some c' =>
    have:=C.cell _ ((cc x).mp ⟨c',PySem.mem_of_lookup z⟩) rfl
    rw[C.hf x hx]at this;cases this
  have old:∀x c,X.env.cells.lookup x=J c->c<E.heap.objs.size:=λx c e=>by
   obtain⟨v,qc⟩:=M.cell x c e;exact qc.lt
  have ok:(dH X f (cn++cl) E L fp (B++frees)).Ok:=by
   refine⟨M.ok.mod,C.kind,M.ok.glob,M.ok.blt,mu _,λx y c h1 h2=>?_,λx hx=>?_,λx c hx e=>?_,M.ok.hd,M.ok.frames,.inl rfl,
    λb S=>⟨?_,λx c e z=>?_⟩,M.bs,qs M.ok.bsz M.sz,λb o e S=>?_,λb S z=>?_,M.stack,M.stkFree,M.ok.tree,M.ok.top⟩
   .rcases aF x c h1 with⟨a1,_,a2,_⟩|⟨a1,_⟩<;>rcases aF y c h2 with⟨b1,_,b2,_⟩|⟨b1,_⟩
    .exact PySem.name_of_addr bm.apart a1 b1
    .exact absurd (K5 a2 (old y c b1)) (AD _)
    .exact absurd (K5 b2 (old x c a1)) (AD _)
    .exact M.ok.inj x y c a1 b1
   .
    have b9:(relabel f X.env).names.lookup x=J .cell\/(relabel f X.env).names.lookup x=J .free:=hx
    cases e:f.names.lookup x with
    |none =>
     exfalso;have nn:∀(l:List (Str×NameKind)),l.lookup x=Y->(l.map λ(n,k)=>if(k==NameKind.free&&X.env.scope.kind == .function&&X.env.kindOf n==J .cell)then(n,NameKind.cell)else(n,k)).lookup x=Y:=by
      intro l
      induction l with
      |nil=>intro _;rfl
      |cons y l ih =>
       intro hl;obtain⟨n,kk⟩:=y;rw[BC]at hl
       split at hl
       .cases hl
       .rename_i gn
        rw[n_];dsimp only
        split<;>(rw[BC];simp only[gn];exact ih hl)
     have e2:=nn f.names e;rcases b9 with z|z
     .rw[show(relabel f X.env).names.lookup x=Y from e2]at z;cases z
     .rw[show(relabel f X.env).names.lookup x=Y from e2]at z;cases z
    |some kk =>
     have e2:=cj (env:=X.env) M.ok.kind e;have hk:kk=.free\/kk=.cell:=by
      rcases b9 with z|z
      .rw[show(relabel f X.env).names.lookup x=_ from e2]at z;have z':=Option.some.inj z;by_cases zz:kk=.free/\X.env.kindOf x=J .cell
       .exact .inl zz.1
       .rw[hI zz]at z';exact .inr z'
      .rw[show(relabel f X.env).names.lookup x=_ from e2]at z;have z':=Option.some.inj z;by_cases zz:kk=.free/\X.env.kindOf x=J .cell
       .exact .inl zz.1
       .rw[hI zz]at z';exact .inl z'
     rcases hk with hk|hk
     .subst hk;have hf:=C.all _ (PySem.mem_of_lookup e) rfl;obtain⟨c,h1,_⟩:=d2 x hf;exact⟨c,d4 x c hf h1⟩
     .subst hk;obtain⟨c,hc⟩:=(cc x).mpr (PySem.mem_of_lookup e);show ∃c,(cn++cl).lookup x=J c;rw[mW]
      cases z:cn.lookup x with
      |some c'=>exact⟨c',rfl⟩
      |none=>exact absurd hc (zG cn x z c)
   .have b9:=of_decide_eq_true hx;rcases aF x c e with⟨_,_,q,_⟩|⟨_,q⟩
    .exact Hl q
    .rw[q]at b9;cases b9
   .obtain⟨o,eo,_⟩:=R.obj _ _ ck b S;exact vR (pj eo)
   .rcases aF x c e with⟨_,_,q,_⟩|⟨q,_⟩
    .obtain⟨o,eo,_⟩:=R.obj _ _ ck b S;exact absurd (K5 q (z▸pj eo)) (AD _)
    .exact (b6 b S).2.2.2.2.1 x c q z
   .obtain⟨_,_,_,h4,_⟩:=b6 b S;rcases h4 with h4|h4
    .exact M.ok.noex b o e h4
    .exact absurd (sw (pj e) (qs M.ok.bsz h4)) (AD _)
   .obtain⟨_,h2,h3,_⟩:=b6 b S;rcases p_.mp (M.stkSub b z)with e|e
    .exact h2 e
    .exact h3 e
  obtain⟨mX,g5,lX⟩:=M.loc;have f4:Le U H (U1++[F.heap.objs.size]) L:=l1.trans l3
  let an:L2.St:=List.replicate B.length Y++fm.map λi=>(Z[i]?).getD Y
  have eF:fm.length=frees.length:=by have:=congrArg List.length C.fm;simpa using this
  have eu:Inv (dH X f (cn++cl) E L fp (B++frees)) [] an L { E with heap:=h',toks:=E.toks}:=by
   refine⟨ok,rfl,M.bare,Un.kept O,⟨_,d0,λi x v hN hv g0=>?_⟩,λx c e=>?_,?_,λx c e=>?_,λp hp=>absurd (show p∈([]:QT)from hp) (by simp),M.hok.kept O,?_⟩
   .have db:(B++frees)[i]?=J x:=hN;have dt:B.length<=i:=by
     by_cases z:B.length<=i
     .exact z
     .exfalso;have ar:an[i]?=J (J v):=hv;rw[q7 (by simp;ext),Ep]at ar
      split at ar<;>cases ar
    have ar:an[i]?=J (J v):=hv;rw[AA (by simpa using dt),HM,u_]at ar;rw[AA dt]at db
    cases ej:fm[i-B.length]? with
    |none=>rw[ej]at ar;cases ar
    |some j =>
     rw[ej]at ar;have ef:=congrArg (λl=>l[i-B.length]?) C.fm;simp only[u_,ej,db,Ew]at ef;have f1:N[j]?=J x:=by simpa using ef
     have ev:Z[j]?=J (J v):=by
      have:(Z[j]?).getD Y=J v:=by simpa using ar
      cases z:Z[j]? with
      |none=>rw[z]at this;cases this
      |some o=>rw[z]at this;simp at this;rw[this]
     have hx:x∈frees:=Ab db;have fl:Ho X.env.scope x:=.inr (.inl (C.cl x hx));obtain⟨u,ru,di⟩:=lX j x v (by rw[g.hN];exact f1) ev fl;refine⟨u,ru,.inr ⟨?_,?_⟩⟩
     .left;show(relabel f X.env).names.lookup x=J .cell
      have:=cj (env:=X.env) M.ok.kind (C.hf x hx)
      rw[e_ ⟨rfl,C.cl x hx⟩]at this;exact this
     .rcases di with⟨hk,_⟩|⟨_,c,hc,c4⟩
      .rw[C.cl x hx]at hk;cases hk
      .obtain⟨c',h1,h2⟩:=d2 x hx;rw[hc]at h2;cases h2;obtain⟨o,eo,ed⟩:=c4;exact⟨c,d4 x c hx h1,o,O _ _ eo,ed⟩
   .rcases aF x c e with⟨_,_,_,q⟩|⟨q,_⟩
    .exact⟨Y,q⟩
    .obtain⟨v,o,eo,ed⟩:=M.cell x c q;exact⟨v,o,O _ _ eo,ed⟩
   .exact M.hok.fresh (mu _)
   .rcases aF x c e with⟨_,_,q,_⟩|⟨q,_⟩
    .exact M.hok.fresh (Hl q)
    .exact M.freeC x c q
   .show an.length=(B++frees).length;simp[an,eF]
  have gY:Good (dH X f (cn++cl) E L fp (B++frees)) (B++frees) B G' k:=by
   refine⟨rfl,nd,λx hx=>?_,λx hx=>?_,λx hx=>?_,dbg,g.calm,g.room,PassesOwn.never⟩
   .rcases Dx.mp hx with z|z
    .rcases C.hv x z with z|z
     .left
      have:=cj (env:=X.env) M.ok.kind z
      rw[hI (λq=>nomatch q.1)]at this;exact this
     .right
      have:=cj (env:=X.env) M.ok.kind z
      rw[hI (λq=>nomatch q.1)]at this;exact this
    .right
     have:=cj (env:=X.env) M.ok.kind (C.hf x z)
     rw[e_ ⟨rfl,C.cl x z⟩]at this;exact this
   .rcases C.hv x hx with z|z
    .right
     have:=cj (env:=X.env) M.ok.kind z
     rw[hI (λq=>nomatch q.1)]at this;exact this
    .exact .inl (decide_eq_true z)
   .have:=cj (env:=X.env) M.ok.kind (gg x hx)
    rw[hI (λq=>nomatch q.1)]at this;exact this
  obtain⟨hg,ht,he⟩:=hY (dH X f (cn++cl) E L fp (B++frees)) rfl rfl rfl rfl rfl rfl gY;have fk:RS X.K (U1++[F.heap.objs.size]) L (Bm B.length fm ai) an:=by
   refine⟨by simp[an,Bm],λi v e=>?_⟩;unfold Bm at e;by_cases z:B.length<=i
   .rw[AA (by simpa using z),HM,u_]at e
    cases ej:fm[i-B.length]? with
    |none=>rw[ej]at e;cases e
    |some j =>
     rw[ej]at e;have ev:ai[j]?=J (J v):=by
      have:(ai[j]?).getD Y=J v:=by simpa using e
      cases z:ai[j]? with
      |none=>rw[z]at this;cases this
      |some o=>rw[z]at this;simp at this;rw[this]
     obtain⟨v',e',rv⟩:=rs.2 j v ev;refine⟨v',?_,rv.le f4⟩;show an[i]?=_;rw[AA (by simpa using z),HM,u_,ej];simp[e']
   .rw[q7 (by simp;ext),Ep]at e
    split at e<;>cases e
  have q3:Ful X (RV' X) ai (U1++[F.heap.objs.size]) L ((zo it h1.length gt mt me it.xs (Bm B.length fm ai) (h1++[.lst []])).bind λ_ h3=>.ok (.loc h1.length) h3) Q:=Ful.le l3 q1;have b7:(U1++[F.heap.objs.size])[h1.length]?=J F.heap.objs.size:=by rw[<-ca.len];simp
  have cx:∀a9:Shared,a9={ E with heap:=h',toks:=E.toks}->codeAny (model X.prog X.w) X.A (.compLoop (.ListComp cd [⟨tg,al,cm,0⟩] f df) 0 (.ref en) (.ref F.heap.objs.size) (compEnvC f (cn++cl) E.heap.objs.size X.env))
    (compPost (model X.prog X.w) X.A X.xe use Qv (.ref F.heap.objs.size) E.heap.objs.size) a9:=by
   rintro a9 rfl;refine sy (CI X (dH X f (cn++cl) E L fp (B++frees)) it tn fp (U1++[F.heap.objs.size]) L ai h1.length gt mt me Q) ?_ it.xs.length
    ⟨0,an,L,_,_,_,rfl,Hn _,eu,R.keep _ _ _ ck (λb _ o e=>O b o e),λb S=>(b6 b S).1,Le.refl _ _,fk,dq,by simpa using q3⟩
   rintro n s6 ⟨i,Z6,H6,U6,b4,h6,rfl,g4,I6,et,dr,l6,gs,dc,q6⟩;have b8:∀{H':Hp},(∀b∈fp,H' b=Y)->∀b∈fp,ij (dH X f (cn++cl) E L fp (B++frees)) [] H' b:=λ{H'} hn b S =>
    ⟨hn b S,(ok.exf b S).1,ok.exfs b S,.inl S,(ok.exf b S).2,λp hp=>absurd (show p∈([]:QT)from hp) (by simp)⟩
   by_cases b5:i<it.xs.length
   .have ed:it.xs.drop i=it.xs[i]::it.xs.drop (i+1):=Hc b5;rw[ed]at q6;simp only[zo]at q6;by_cases hok:it.ok h6
    .rw[e_ hok]at q6;obtain⟨j1,_⟩:=jr U6 H6 h6 i (l3.trans l6) dc hok;obtain⟨go,yl⟩:=j1 b5;refine j_ (R.item (dH X f (cn++cl) E L fp (B++frees)) rfl rfl rfl g.calm i [] s6 Z6 H6 (λ_ _=>False) I6 (b8 dr) et go) λr s7 ⟨u,hr,h7⟩=>?_;subst hr;refine j_ h7 λ_ s8 ⟨x8,H8,I8,r8,y8,c7,f5⟩=>?_;obtain⟨U8,x,l8,e7,ex,rx⟩:=yl x8 H8 y8;have f0:x=it.xs[i]:=by rw[vE b5]at ex;exact(Option.some.inj ex).symm
     subst f0;have ez:=I8.pinned (b8 f5) (R.obj _ _ c7);have q8:=Ful.le l8 q6;have back:∀{Z9:L2.St}{H9:Hp}{s9:Shared},Inv (dH X f (cn++cl) E L fp (B++frees)) ([]++lh fp s8.heap) Z9 H9 s9->Inv (dH X f (cn++cl) E L fp (B++frees)) [] Z9 H9 s9/\tn (i+1) s9.heap/\∀b∈fp,H9 b=Y:=λ{Z9 H9 s9} I9=>by
      refine⟨I9.unpinned,R.keep _ _ _ c7 λb S o e=>(I9.pin (b,o) (vn _ (vn _ (hJ S e)))).1,λb S=>?_⟩;obtain⟨o,e,d⟩:=R.obj _ _ c7 b S;exact(I9.pin (b,o) (vn _ (vn _ (hJ S e)))).2.1
     cases eg:gt it.xs[i] b4 h6 with
     |nx P h9 =>
      rw[eg]at q8;dsimp only at q8
      refine j_ (hg _ s8 Z6 H8 x8 u (λZ' H'=>∃U',Le U8 H8 U' H'/\RH X.K X.mg U' H' h9/\RS X.K U' H' P Z') ez r8 ⟨U8,b4,h6,_,gs.le l8,e7,rx,by
       show mO _ _ _ (gt it.xs[i] b4 h6) _
       rw[eg];exact λU' H' Z' l r s=>⟨U',l,r,s⟩⟩) λ_ s9 ⟨Z9,H9,I9,U9,l9,ga,ci⟩=>?_
      have q9:=Ful.le l9 q8
      cases em:mt P h9 with
      |ok b a7 =>
       rw[em,Out.ne_ok]at q9;rw[Out.bind_ok]at q9
       refine j_ (ht _ s9 Z9 H9 (λb' H'=>b'=b/\∃U',Le U9 H9 U' H'/\RH X.K X.mg U' H' a7) I9 ⟨U9,P,h9,ci,ga,by
        show Ful _ _ _ _ _ (mt P h9) _
        rw[em];exact λU' H' v' l r e=>⟨e.symm,U',l,r⟩⟩) λb' eS ⟨de,d5,eb,c2,a3,cv⟩=>?_
       subst eb;have ak:=Ful.le a3 q9
       cases b' with
       |false =>
        rw[hI LZ]at ak ⊢;obtain⟨dj,d1,ds⟩:=back d5;exact⟨_,by ext,i+1,Z9,de,c2,P,a7,rfl,b5,dj,d1,ds,l6.trans (l8.trans (l9.trans a3)),ci.le a3,cv,ak⟩
       |true =>
        rw[e_ rfl]at ak ⊢
        cases ee:me P a7 with
        |ok v dx =>
         rw[ee,Out.ne_ok]at ak;rw[Out.bind_ok]at ak
         refine j_ (he _ eS Z9 de (λv' H'=>∃U',Le c2 de U' H'/\RH X.K X.mg U' H' dx/\RP X.K U' H' v v') d5 ⟨c2,P,a7,ci.le a3,cv,by
          show Ful _ _ _ _ _ (me P a7) _
          rw[ee];exact λU' H' v' l r e=>⟨U',l,r,e⟩⟩) λgc e8 ⟨v',c8,fo,dk,ew,cB,cp,ep⟩=>?_
         have as:=Ful.le cB ak;have a8:Le (U1++[F.heap.objs.size]) L ew c8:=l6.trans (l8.trans (l9.trans (a3.trans cB)));obtain⟨oa,fg,eC⟩:=cp.obj (a8.get b7);rw[fg]at as
         cases oa with
         |dic fz ks xs=>exact as.elim
         |exc x=>exact as.elim
         |lst ys =>
          dsimp only at as;by_cases b0:ys.length<sizeLine
          .rw[e_ b0]at as;obtain⟨c3,fa,ry⟩:=eC;obtain⟨dV,c5⟩:=cp.put (a8.get b7) (o:=.lst (ys++[v])) (ho:=.lst (c3++[v'])) ⟨_,rfl,ry.append (.cons ep .nil)⟩;have ap:=pU (X:=dH X f (cn++cl) E L fp (B++frees)) _ e8 Z9 c8 (.ref F.heap.objs.size) [v'] (.ref F.heap.objs.size) [gc] (λ_ H'=>H'=l_ c8 F.heap.objs.size (.lst (c3++[v']))) fo rfl (.cons dk .nil) ⟨F.heap.objs.size,c3,v',rfl,rfl,fa,by rw[<-ry.length];exact b0,rfl⟩;refine j_ ap λ_ g6 ⟨_,g3,fx,_,eH⟩=>?_;subst eH;obtain⟨ec,dn,dF⟩:=back fx;exact⟨_,by ext,i+1,Z9,_,ew,P,_,rfl,b5,ec,dn,dF,a8.trans c5,(ci.le a3).le (cB.trans c5),dV,Ful.le c5 as⟩
          .rw[hI b0]at as;exact as.elim
        |exc x dx=>rw[ee]at ak;exact ak.elim
        |bad=>rw[ee]at ak;exact ak.elim
      |exc x a7=>rw[em]at q9;exact q9.elim
      |bad=>rw[em]at q9;exact q9.elim
     |_=>rw[eg]at q8;exact q8.elim
    .rw[hI hok]at q6;exact q6.elim
   .have e:i=it.xs.length:=by ext
    rw[e,List.drop_length]at q6;simp only[zo]at q6;by_cases hok:it.ok h6
    .rw[e_ hok]at q6;obtain⟨_,j2⟩:=jr U6 H6 h6 i (l3.trans l6) dc hok;refine j_ (R.done (dH X f (cn++cl) E L fp (B++frees)) rfl rfl rfl g.calm i [] s6 Z6 H6 (λ_ _=>False) I6 (b8 dr) et (j2 (by ext))) λr s7 ⟨hr,I7⟩=>?_;subst hr;obtain⟨m7,fv,_⟩:=I7.loc;have IX:=M.call' (s':=s7) (ch:=fp) I7.os I7.base I7.hok I7.bare λb S=>by
      obtain⟨_,a2,_,a4,a5,a6⟩:=b6 b S;exact⟨a4,a2,a5,a6⟩
     exact fin _ _ H6 s7 m7 IX I7.free fv (AB M.lt) M.sz (M.nofs (mu _)) (λx c e z=>by
      obtain⟨v,qc⟩:=M.cell x c e
      exact absurd qc.lt (by rw[z];exact AD _)) (λp hp z=>absurd (pj (M.pin p hp).1) (by rw[z];exact AD _)) (q6 U6 H6 _ (Le.refl _ _) dc (.loc (l6.get b7)))
    .rw[hI hok]at q6;exact q6.elim
  exact codeAny_compStart_list (cx _ rfl) (R.self X.A 0 _ _ _ (R.keep _ _ _ ck (λb _ o e=>O b o e)) (cx _ rfl))
 exact da
def oP(g:Good X N W G k){z j l:Expr}{u:QW}{i:Scope}{O:Pos}{f frees L:QM}{fm:QP}{P:Mx MIt}{S:Mg}{mt:Mx Bool}{R:Mx PV}(C:zi X N i f frees fm)(nd:(f++frees).Nodup)(y:∀x∈L,i.names.lookup x=J .globalImplicit)(dbg:∀x∈(f++frees)++L,(x==("__debug__":Str))=T/\(x==("__classdict__":Str))=T/\x≠"__name__")(hi:MI X z j P)(hY:∀a:Cx,a.prog=X.prog->a.w=X.w->a.K=X.K->a.mg=X.mg->a.base=X.base->a.env.scope=relabel i X.env->Good a (f++frees) f L k->MG a z S/\Bt a u mt/\ME a l R)(hs:∀x,foldedSetIterable j X.env x=pure x:=by intro _;rfl):ME X (.ListComp l [⟨z,j,u,0⟩] i O) (bI f.length fm P S mt R):=by
 intro JB s Z H Q M tm;refine pV g C nd y dbg hi hY hs M tm λE D H6 s7 m7 IX hC ns hL hz ab B hp q=>?_;refine⟨m7,ns,λU F=>⟨.ref E,H6,?_,rfl,q⟩⟩;exact IX.turned (t':=s7.toks) (λb o hb e=>F.extBut b o hb e) hC hL (.inr hz) B hp
def pA(g:Good X N W G k)(i:Nat){y:Str}{py B:Pos}{Q u E:Expr}{L:QW}{a:Scope}{O:Pos}{j frees G':QM}{fm:QP}{mi:Mx MIt}{gt:Mg}{mt:Mx Bool}{me:Mx PV}(M:N[i]?=J y)(hw:W[i]?=J y)(ab:swapsWith (.ListComp E [⟨Q,u,L,0⟩] a O) (J (.Name y py)) B.line X.env=pure I)(C:zi X N a j frees fm)(nd:(j++frees).Nodup)(an:∀x∈G',a.names.lookup x=J .globalImplicit)(dbg:∀x∈(j++frees)++G',(x==("__debug__":Str))=T/\(x==("__classdict__":Str))=T/\x≠"__name__")(hi:MI X Q u mi)(hY:∀f:Cx,f.prog=X.prog->f.w=X.w->f.K=X.K->f.mg=X.mg->f.base=X.base->f.env.scope=relabel a X.env->Good f (j++frees) j G' k->MG f Q gt/\Bt f L mt/\ME f E me)(hs:∀x,foldedSetIterable u X.env x=pure x:=by intro _;rfl):MS X (.Assign [.Name y py] (.ListComp E [⟨Q,u,L,0⟩] a O) B) (aV i (bI j.length fm mi gt mt me)):=by
 intro JB s Z H D al tm;obtain⟨U,ak,h,rs,rh,q⟩:=tm;rw[exec_Assign_Name_used _ _ _ _ ab];refine g_ (wpAny_standAt (g_ ?_))
 refine g_ (wpAny_mono (pV g C nd an dbg hi hY hs al
  ⟨U,ak,h,rs,rh,bg.ex q λU1 H1 v v' h1 l r z w=>w U1 H1 _ (Le.refl _ _) r ((rs.le l).set i z)⟩ λF P H6 s7 m7 IX hC ns hL hz ai R hp q6=>?_) (λ_ s' hq=>oh (oh hq)) λ_ _ e=>e)
 .obtain⟨o,es,ep,ho,hd,hr⟩:=id ns;have IP:Inv X (JB++[(P,o)]) Z H6 s7:=IX.pins_of λp ap=>(Dx.mp ap).elim (λz=>IX.pin p (vn _ z)) λz=>by
   have e:p=(P,o):=by simpa using z
   subst e;exact⟨ho,hC,hL,ai,λv z=>by rw[hd]at z;cases z⟩
  have st:=uk (pos:=py) (by rw[g.hN];exact g.nd) (g.x M) (g.loc y (aL M)) (g.fn y (aL hw)) (JB++[(P,o)]) s7 Z H6 (.ref F) (.ref F) (λZ' H'=>Z'=Z.set i (J (.ref F))/\H'=H6) IP rfl ⟨rfl,rfl⟩;refine j_ st λ_ s8 ⟨Z8,H8,I8,e1,e2⟩=>?_;subst e1;subst e2;have pn:=I8.pin (P,o) (vn _ (vn _ (by simp)));refine⟨m7,⟨o,es,ep,pn.1,hd,hr⟩,λar S=>⟨_,_,?_,q6⟩⟩;exact(I8.unpinned).turned (t':=s8.toks) (λb o hb e=>S.extBut b o hb e) hC hL (.inr hz) R hp
end
@[inline]abbrev ig:QS:=[.type "ValueError",.type "Exception",.type "BaseException",.type "object"]
section
variable{X:Cx}{N W G:QM}{k:Nat}
def oV{M:Model}{A:Around}{E:QZ}{h:Heap}{gn:Array GenState}{d:Drawn}{t:Nat}{os:OsState}{ea C D N1 N2:Addr}{oe:Obj}{ab q1 L q2:Str}{F i Z a:QS}{R ai:Bool}{S ak:QM}{l u:QS}{O P:Bool}{y j:Option Bool}{al H:QD}{a0 a1 a2 a3 a5 b0 b1 b2 b3 b5:QU}{n1 n2:String}{Q:Bool->Shared->Prop}(hC:h.get? C=J (excClassObj ab q1 C N1 F i R S l O y al a0 a1 a2 a3 a5 n1))(hD:h.get? D=J (excClassObj L q2 D N2 Z a ai ak u P j H b0 b1 b2 b3 b5 n2))(he:h.get? ea=J oe)(z:oe.cls=.ref C)(hB:a.contains (.type "BaseException")=I)(B:(Value.ref C::i).contains (.ref D)=I)(hq:Q I ⟨h,gn,d,t,os⟩):wpAny M A (excMatches (.ref ea) (.ref D)) Q E ⟨h,gn,d,t,os⟩:=by
 have U:(Value.ref D::a).contains (.type "BaseException")=I:=by rw[List.contains_cons,hB,Bool.or_true]
 have f:=tc_notTuple
 repeat (first | (rw[z]) | with_reducible refine wpAny_loadPart_at hD ?_ | (with_reducible refine wpAny_isSubtype_exc hD ?_;rw[U]) | (with_reducible refine wpAny_isSubtype_exc hC ?_;rw[B]) | wp_step)
 exact hq
end
section
variable{X:Cx}{N W G:QM}{k:Nat}{Z:L2.St}{H:Hp}{s:Shared}
abbrev oO(X:Cx)(JB:QT)(E:QZ):Cx:={ X with pn:=X.pn++JB,xe:=E}
def FE(ok:X.Ok):(oO X JB E).Ok :=
 ⟨ok.mod,ok.kind,ok.glob,ok.blt,ok.above,ok.inj,ok.has,ok.cab,ok.hd,ok.frames,ok.stk,ok.exf,ok.bs,ok.bsz,ok.noex,ok.exfs,ok.funs,ok.frf,ok.tree,ok.top⟩
def yO(ok:(oO X JB E).Ok):X.Ok :=
 ⟨ok.mod,ok.kind,ok.glob,ok.blt,ok.above,ok.inj,ok.has,ok.cab,ok.hd,ok.frames,ok.stk,ok.exf,ok.bs,ok.bsz,ok.noex,ok.exfs,ok.funs,ok.frf,ok.tree,ok.top⟩
def Inv.toPin(a:Inv X JB Z H s):Inv (oO X JB E) [] Z H s :=
 ⟨FE a.ok,a.os,a.bare,a.base,a.loc,a.cell,a.free,a.freeC,λp f=>a.pin p (by simpa using f),a.hok,a.len⟩
def Inv.ofPin(a:Inv (oO X JB E) [] Z H s):Inv X JB Z H s :=
 ⟨yO a.ok,a.os,a.bare,a.base,a.loc,a.cell,a.free,a.freeC,λp f=>a.pin p (by simpa using f),a.hok,a.len⟩
def nG{h a:Heap}{c:Addr}{v:QU}(sm:h.UpToSlots a)(q:h.IsCell c v):a.IsCell c v:=by obtain⟨o,e,d⟩:=q;obtain⟨i,f⟩:=sm c o e (λj z=>by rw[d]at z;cases z);exact⟨_,f,d⟩
def Inv.flown(f:Inv X [] Z H s){B S L:Heap}(hB:B.StaysIn s.heap)(Q:B.StaysIn S)(sm:s.heap.UpToSlots S)(P:Bf X L)(M:OO B (x4 X.stack) L)(R:∀b o,H b=J o->∃j,B.get? b=J j):Inv X [] Z H { s with heap:=S}:=by
 have kp:∀b o j,B.get? b=J j->s.heap.get? b=J o->S.get? b=J o:=λb o j e1 e2=>by
  have:=rK hB e1 e2
  subst this;exact Q b j e1
 have nl:∀b o,X.s₀.heap.get? b=J o->b≠X.env.locals:=λb o e z=>absurd (sw (pj e) f.ok.above) (by rw[z];exact AD _);have HJ:∀b o,X.s₀.heap.get? b=J o->b∉X.fs->b∉X.ex->∃j,B.get? b=J j:=λb o e hf l=>by
  obtain⟨o',e'⟩:=P.old b o e l;refine M b o' e' λU=>?_;rcases p_.mp (f.stkSub b U)with z|z
  .exact nl b o e z
  .exact hf z
 obtain⟨m,hn,hl⟩:=f.loc;have F:∀b o,X.s₀.heap.get? b=J o->b∈X.fs->∀C,o.data≠.fields C:=λb o e hf C z=>by
  obtain⟨_,oF,eF,dF⟩:=f.ok.funs.mem hf;rw[e]at eF;cases eF;exact dF C z
 refine⟨f.ok,f.os,f.bare,⟨λb o e n hf l=>?_,λb o e n hf l=>?_,f.base.free,λb o e l=>?_,f.base.tups,f.base.frzs,f.base.tbls⟩,⟨m,sm.ns hn,λi x v e1 e2 e3=>?_⟩,λx c e=>?_,f.free,f.freeC,λp hp=>?_,λa o e=>?_,f.len⟩
 .obtain⟨j,y⟩:=HJ b o e hf l;exact kp b o j y (f.base.keep b o e n hf l)
 .obtain⟨sl,e1⟩:=f.base.slot b o e n hf l;obtain⟨O,e2⟩:=sm b _ e1 (λC z=>F b o e hf C z);exact⟨O,e2⟩
 .by_cases hf:b∈X.fs
  .obtain⟨sl,e1⟩:=f.base.slot b o e (f.ok.frf b hf) hf l;obtain⟨O,e2⟩:=sm b _ e1 (λC z=>F b o e hf C z);exact⟨_,e2⟩
  .obtain⟨j,y⟩:=HJ b o e hf l;exact⟨j,Q b j y⟩
 .obtain⟨u,ru,E⟩:=hl i x v e1 e2 e3;refine⟨u,ru,?_⟩;rcases E with z|⟨z1,c,z2,z3⟩
  .exact .inl z
  .exact .inr ⟨z1,c,z2,nG sm z3⟩
 .obtain⟨v,q⟩:=f.cell x c e;exact⟨v,nG sm q⟩
 .obtain⟨e,n,ne,nf,d⟩:=f.pin p hp;refine⟨?_,n,ne,nf,d⟩;have ab:p∈X.pn:=by simpa using hp
  obtain⟨o',e'⟩:=P.pin p ab;obtain⟨j,y⟩:=M p.1 o' e' λU=>by
   rcases p_.mp (f.stkSub p.1 U)with z|z
   .exact ne z
   .exact nf z
  exact kp p.1 p.2 j y e
 .refine (f.hok a o e).stay (λb u hb z=>?_) (λ_ z=>z) λ_ _ z=>z;rcases hb with rfl|hb
  .obtain⟨j,y⟩:=R _ _ e;exact kp _ u j y z
  .obtain⟨j,y⟩:=R _ _ hb;exact kp _ u j y z
def Inv.track(f:Inv X B Z H s)(P:H a=Y)(O:X.s₀.heap.get? a=Y)(hL:a≠X.env.locals)(Q:∀x c,X.env.cells.lookup x=J c->c≠a)(M:∀p∈X.pn++B,p.1≠a)(y:ObjOk X.prog X.w (l_ H a (.ext φ)) s.heap a (.ext φ)):Inv X B Z (l_ H a (.ext φ)) s:=by
 have l:∀b o,X.s₀.heap.get? b=J o->b≠a:=λb o e z=>by rw[z,O]at e;cases e
 have t:∀b u,H b=J u->l_ H a (.ext φ) b=J u:=λb u e=>by rw[aI (bC e P)];exact e
 refine⟨f.ok,f.os,f.bare,⟨f.base.keep,f.base.slot,λb o e n F=>by rw[aI (l b o e)];exact f.base.free b o e n F,f.base.there,λb xs e=>t b _ (f.base.tups b xs e),λb o u e=>t b _ (f.base.frzs b o u e),λb R e=>?_⟩,
  f.loc,f.cell,by rw[aI (Ne.symm hL)];exact f.free,λx c e=>by rw[aI (Q x c e)];exact f.freeC x c e,λp j=>?_,λb u e=>?_,f.len⟩
 .obtain⟨i,S⟩:=f.base.tbls b R e;exact⟨i,t b _ S⟩
 .obtain⟨E,U,L⟩:=f.pin p j;exact⟨E,by rw[aI (M p j)];exact U,L⟩
 .by_cases C:b=a
  .subst C;rw[aR]at e;cases e;exact y
  .rw[aI C]at e;exact(f.hok b u e).stay (λc v _ q=>q) (λc q=>t c _ q) λc xs q=>t c _ q
end
def tq{p:Str->Prop}{a:Str}{l:QM}(h:p a)(t:∀x∈l,p x):∀x∈a::l,p x:=λx f=>by
 rcases p_.mp f with rfl|z
 .exact h
 .exact t x z
section
variable{X:Cx}{N W G:QM}{k:Nat}
def Cal.at(e1:a.prog=X.prog)(e2:a.w=X.w)(e3:a.K=X.K)(e4:a.mg=X.mg)(e5:a.base=X.base)(c:Cal X x ps F i):Cal a x ps F i:=c.to e1 e2 e3 e4 e5
end
def FF(f:X.env.scope=sc)(C:scope.kind=.function)(u:∀y∈scope.names,y.2=.cell->scope.names.lookup y.1=J .cell)(B:∀y∈scope.names,y.2=.local->scope.names.lookup y.1=J .local)(F:∀x∈a,scope.names.lookup x=J .local\/scope.names.lookup x=J .cell)(l:∀x∈frees,scope.names.lookup x=J .free)(z:∀y∈scope.names,y.2=.free->y.1∈frees)(G:fm.map (λi=>N[i]?)=frees.map J)(j:∀x∈frees,sc.names.lookup x=J .cell):zi X N scope a frees fm :=
 ⟨C,u,B,F,l,z,G,λx E=>by rw[<-f]at j;exact j x E⟩
section
variable{Z:n8}{h:MH}
@[simp]theorem iF{nv:Nat}{fm:QP}{mi:Mx MIt}{gt:Mg}{mt:Mx Bool}{me:Mx PV}:bI nv fm mi gt mt me Z h =
 (mi Z h).bind λit h1=>(zo it h1.length gt mt me it.xs (Bm nv fm Z) (h1++[.lst []])).bind λ_ h3=>.ok (.loc h1.length) h3:=rfl
def lT{a:MIt}{n:Nat}{i:Mg}{mt:Mx Bool}{f:Mx PV}(e:a.ok h):zo a n i mt f [] Z h=.ok () h:=by rw[zo,e_ e]
def lz{a:MIt}{n:Nat}{i:Mg}{mt:Mx Bool}{f:Mx PV}{x v:PV}{r ys:QL}{Z1:n8}{h1 h2 h3:MH}(e:a.ok h)(u:i x Z h=.nx Z1 h1)(j:mt Z1 h1=.ok I h2)(l:f Z1 h2=.ok v h3)(el:h3[n]?=J (.lst ys))(hl:ys.length<1000):
  zo a n i mt f (x::r) Z h=zo a n i mt f r Z1 (h3.set n (.lst (ys++[v]))):=by
 rw[zo,e_ e,u];simp only[j,Out.ne_ok,Out.bind_ok,if_true,l,el];rw[e_ (sw hl (by decide))]
def nU{o:MO}{g:MH}:(h++o::g)[h.length]?=J o:=by simp
def Jh{g:MH}{n:Nat}{o:MO}(e:h[n]?=J o):(h++g)[n]?=J o:=by rw[q7 (qi.mp e).1];exact e
end
def AW(f:Nat->QL->MH->QX)(m:Mx PV)(i:Mx (QL)):Mx PV:=λZ h=>(m Z h).bind λo a=>match o with
 |.loc n=>(match a[n]? with
  |some (.lst _)=>(i Z a).bind λl j=>(f n l j).ne
  |_=>.bad)
 |_=>.bad
def cV(n:Nat)(a:QL)(h:MH):QX:=match a,h[n]? with
 |[v],J (.lst xs)=>if xs.length<sizeLine then .ok .non (h.set n (.lst (xs++[v])))else .bad
 |_,_=>.bad
section
variable{X:Cx}{N W G:QM}{k:Nat}
def Ji(X:Cx)(f:Nat->QL->MH->QX):V->List V->Hp->VK->Prop:=λx j H Q=>∃U h n a i,x=.ref a/\U[n]?=J a/\RH X.K X.mg U H h/\RPs X.K U H i j/\ji X (RV' X) U H (f n i h) Q
def iR:ID X "list.append" (Ji X cV):=by
 intro E s Z H x R v B Q i C P ⟨U,h,n,a,S,e,u,j,rp,q⟩;subst e;obtain⟨o,L,y⟩:=j.obj u;unfold cV at q
 cases rp with
 |nil=>exact q.elim
 |cons M O =>
  cases O with
  |cons _ _=>exact q.elim
  |nil =>
   rw[L]at q
   cases o with
   |lst xs =>
    dsimp only at q;by_cases hl:xs.length<sizeLine
    .rw[e_ hl]at q;obtain⟨ys,z,l⟩:=y;obtain⟨f,F⟩:=j.put u (o:=.lst (xs++[_])) ⟨_,rfl,l.append (.cons M .nil)⟩;exact pU E s Z H _ _ v B Q i C P ⟨a,ys,_,rfl,rfl,z,by rw[<-l.length];exact hl,q U _ .non F f .non⟩
    .rw[hI hl]at q;exact q.elim
   |_=>exact q.elim
variable{o e:Expr}{es:QW}{name:Str}{apos cpos:Pos}{id:String}{f:Nat->QL->MH->QX}{m:Mx PV}{ma:Mx (QL)}
def Jj{L:TA}(y:∀Z H Q,tM X (RVs' X) ma Z H Q->L Z H Q){Z:L2.St}{H:Hp}{Q:VK}(tm:tM X (RV' X) (AW f m ma) Z H Q):tM X (RV' X) m Z H (λx u=>Mz X.K "list" x u/\L Z u λxs C=>Ji X f x xs C Q):=by
 obtain⟨U,i,h,E,rh,q⟩:=tm;refine⟨U,i,h,E,rh,?_⟩;refine Ful.bind q λR u x x' h1 _ l1 l P j=>?_
 cases P with
 |@loc n a F =>
  obtain⟨ob,eo,M⟩:=l.obj F;dsimp only at j;rw[eo]at j
  cases ob with
  |lst xs =>
   obtain⟨ys,O,ry⟩:=M;refine⟨.inl ⟨rfl,ys,SqL.of O⟩,y Z u _ ⟨R,i,h1,E.le l1,l,?_⟩⟩;exact Ful.bind j λU2 C vs ab h2 _ l2 z B S=>⟨U2,h2,n,a,vs,rfl,l2.get F,z,B,S.zero⟩
  |_=>exact j.elim
 |_=>exact j.elim
def qK(slot:Slot "list" name id)(u:typeOf (.builtin id)=pure (.type "method_descriptor"))(C:ID X id (Ji X f))(y:ME X o m)(E:MA X (e::es) ma)(i:attributeBase o name X.env (eval o X.env)=eval o X.env:=by rfl)(l:((backTo cpos (starEach (e::es) X.env)).all (λx=>!x.1)&&(backToKw cpos (keywordEach [] X.env)).all (λx=>x.1.isSome)
   && decide ((e::es).length+([]:List Keyword).length+(if([]:List Keyword).isEmpty then 0 else 1)<30))=I:=by rfl)(j:(apos.endLine==cpos.line)=I:=by rfl)(B:starEach (e::es) X.env=(T,eval e X.env)::starEach es X.env:=by rfl)(a:(backTo cpos (starEach es X.env)).any (·.1)=T:=by rfl):
  ME X (.Call (.Attribute o name apos) (e::es) [] cpos) (AW f m ma) :=
 PE.imp (IJ PySem.F.plainAttrs_list slot u C y E i l j B a) λZ H Q q=>Jj (λ_ _ _ z=>z) q
@[simp]theorem wD:AW f m ma Z h=(m Z h).bind λo h1=>match o with
 |.loc n=>(match h1[n]? with
  |some (.lst _)=>(ma Z h1).bind λvs h2=>(f n vs h2).ne
  |_=>.bad)
 |_=>.bad:=rfl
end
structure Sh(L:Nat)(d:PyData):Prop where
 able:d.showable=I
 ok:PyData.strOk d.shown=I
 len:d.shown.length<=L
def cS(h:MH):PV->Option (QL)
 |.tup xs=>J xs
 |.frl xs=>J xs
 |.loc n=>(match h[n]? with
  |some (.lst xs)=>J xs
  |_=>Y)
 |_=>Y
section
variable{X:Cx}{N W G:QM}{k:Nat}
def oz(l:RH X.K X.mg U H h)(j:RP X.K U H x x')(e:cS h x=J xs):∃a ys,x'=.ref a/\(SqL X.K H a ys\/SqT X.K H a ys)/\RPs X.K U H xs ys:=by
 cases j with
 |tup s r=>cases e;exact⟨_,_,rfl,.inr s,r⟩
 |frl s r=>cases e;exact⟨_,_,rfl,.inl s.sq,r⟩
 |@loc n a B =>
  obtain⟨o,u,i⟩:=l.obj B;simp only[cS,u]at e
  cases o with
  |lst ys =>
   cases e;obtain⟨f,y,z⟩:=i;exact⟨a,f,rfl,.inl (SqL.of y),z⟩
  |_=>cases e
 |_=>cases e
def nk(f g:PV->PV->MH->QX)(a b c:Mx PV):Mx PV:=λZ h=>(a Z h).bind λx l=>(b Z l).bind λy j=>(f x y j).ne.bind λz i=>match z with
 |.bl t=>if t=I then(c Z i).bind λw u=>(g y w u).ne else .ok (.bl T) i
 |_=>.bad
variable{a b c:Expr}{ma mb mc:Mx PV}{f g':PV->PV->MH->QX}{op op':CmpOp}{pos:Pos}
def yz{Z:L2.St}{H:Hp}{Q:VK}(q:tM X (RV' X) (nk f g' ma mb mc) Z H Q):wK (rJ X f) (rJ X g') (tM X (RV' X) ma) (tM X (RV' X) mb) (tM X (RV' X) mc) Z H Q:=by
 obtain⟨U,i,h,F,rh,q⟩:=q;refine⟨U,i,h,F,rh,Ful.bind q λU1 H1 x x' h1 _ l1 E rx q1=>?_⟩;refine⟨U1,i,h1,F.le l1,E,Ful.bind q1 λO H2 y y' R _ l2 L ry q2=>?_⟩;refine⟨O,R,x,y,L,rx.le l2,ry,?_⟩;have u:Ful X (RV' X) i O H2 (f x y R).ne (λz l=>∃k,z=.bl k/\(if k=I then tM X (RV' X) mc Z l λP S=>rJ X g' y' P S Q else Q (.bl T) l)):=Ful.bind q2 λU3 l z z' h3 _ M j rz C=>by
  cases rz with
  |bl t =>
   refine⟨t,rfl,?_⟩
   cases t with
   |true =>
    exact⟨U3,i,h3,F.le (l1.trans (l2.trans M)),j,Ful.bind C λU4 S w P h4 _ l4 B rw' q4=>⟨U4,h4,y,w,B,(ry.le M).le l4,rw',q4.zero⟩⟩
   |false =>
    exact C U3 l _ (Le.refl _ _) j (.bl _)
  |_=>exact C.elim
 exact u.zero
def yn(j:y_ X (compareOp op) f)(i:y_ X (compareOp op') g')(y:ME X a ma)(u:ME X b mb)(z:ME X c mc)(l:lastMarks [op,op'] [b,c]=T:=by with_unfolding_all rfl):ME X (.Compare a [op,op'] [b,c] pos) (nk f g' ma mb mc) :=
 PE.imp (yG j i y u z l) λ_ _ _ q=>yz q
@[simp]theorem Hx:nk f g' ma mb mc Z h=(ma Z h).bind λx h1=>(mb Z h1).bind λy h2=>(f x y h2).ne.bind λz h3=>match z with
 |.bl t=>if t=I then(mc Z h3).bind λw h4=>(g' y w h4).ne else .ok (.bl T) h3
 |_=>.bad:=rfl
def qx(xs:QL)(h:MH):QX:=match xs with
 |[x]=>(match cS h x with
  |some ys=>tr ys h
  |none=>.bad)
 |_=>.bad
def Ap(xs:QL)(h:MH):QX:=match xs with
 |[x]=>(match cS h x with
  |some ys=>.ok (.tup ys) h
  |none=>.bad)
 |_=>.bad
def jA:cK X (.type "list") qx:=by
 intro E s Z H xs C Q u r ⟨U,h,O,z,rp,q⟩
 cases rp with
 |nil=>exact q.elim
 |cons F L =>
  cases L with
  |cons _ _=>exact q.elim
  |nil =>
   rename_i x y
   unfold qx at q
   cases j:cS h x with
   |none=>simp only[j]at q;exact q.elim
   |some ys =>
    simp only[j]at q;obtain⟨a,B,rfl,i,l⟩:=oz z F j;obtain⟨_,M⟩:=lO z l q;exact r9 E s Z H _ C Q u r ⟨a,B,rfl,i,M⟩
def mZ:cK X (.type "tuple") Ap:=by
 intro L s Z H xs F Q j r ⟨U,h,S,B,rp,q⟩
 cases rp with
 |nil=>exact q.elim
 |cons P R =>
  cases R with
  |cons _ _=>exact q.elim
  |nil =>
   rename_i x y
   unfold Ap at q
   cases E:cS h x with
   |none=>simp only[E]at q;exact q.elim
   |some ys =>
    simp only[E]at q;obtain⟨a,z,rfl,C,i⟩:=oz B P E;rcases C with u|u
    .refine kD L s Z H _ F Q j r ⟨a,z,rfl,.inl ⟨u,λl hl=>?_⟩⟩;obtain⟨O,M⟩:=B.tup hl z;exact q U _ _ M O (.tup (SqT.of aR) (i.le M))
    .exact kD L s Z H _ F Q j r ⟨a,z,rfl,.inr ⟨u,q U H _ (Le.refl _ _) B (.tup u i)⟩⟩
def f7(xs:QL)(lo i:QV):QL:=(xs.drop (HT.nu xs.length 0 lo)).take (HT.nu xs.length xs.length i-HT.nu xs.length 0 lo)
def FG(x:PV)(lo i:QV)(h:MH):QX:=match x with
 |.tup xs=>if HT.nu xs.length 0 lo=0/\HT.nu xs.length xs.length i=xs.length then .bad else .ok (.tup (f7 xs lo i)) h
 |.frl xs=>.ok (.loc h.length) (h++[.lst (f7 xs lo i)])
 |.loc n=>(match h[n]? with
  |some (.lst xs)=>.ok (.loc h.length) (h++[.lst (f7 xs lo i)])
  |_=>.bad)
 |_=>.bad
def P7(X:Cx)(f:PV->QV->QV->MH->QX):V->QV->QV->Hp->VK->Prop:=λi lo j H Q=>∃U h x,RH X.K X.mg U H h/\RP X.K U H x i/\ji X (RV' X) U H (f x lo j h) Q
def o9{K:hH}{U:QR}{H:Hp}{xs:QL}{ys:List V}(r:RPs K U H xs ys)(lo i:QV):RPs K U H (f7 xs lo i) (m9 ys lo i):=by unfold f7 m9;rw[r.length];exact(r.drop _).take _
def Jk:La X (P7 X FG):=by
 intro L s Z H x' v vl S lo i R Q j F M pl P ⟨U,h,x,u,E,q⟩
 cases E with
 |tup O C =>
  unfold FG at q;dsimp only at q
  rename_i xs a ys
  by_cases z:HT.nu xs.length 0 lo=0/\HT.nu xs.length xs.length i=xs.length
  .rw[e_ z]at q;exact q.elim
  .rw[hI z]at q;refine E3 L s Z H _ v vl S lo i R Q j F M pl P ⟨a,ys,rfl,O,by rw[<-C.length];exact z,λp B=>?_⟩;obtain⟨y,l⟩:=u.tup B (m9 ys lo i);exact q U _ _ l y (.tup (SqT.of aR) ((o9 C lo i).le l))
 |frl O C =>
  rename_i xs a ys
  refine uE L s Z H _ v vl S lo i R Q j F M pl P ⟨a,ys,rfl,O.sq,λp B=>?_⟩;obtain⟨y,l⟩:=u.new B (o:=.lst (f7 xs lo i)) ⟨_,rfl,o9 C lo i⟩;exact q _ _ _ l y (.loc (by rw[<-u.len];simp))
 |@loc n a en =>
  obtain⟨o,eo,ro⟩:=u.obj en;unfold FG at q;dsimp only at q;rw[eo]at q
  cases o with
  |lst xs =>
   obtain⟨ys,ey,ry⟩:=ro;refine uE L s Z H _ v vl S lo i R Q j F M pl P ⟨a,ys,rfl,SqL.of ey,λp B=>?_⟩;obtain⟨y,l⟩:=u.new B (o:=.lst (f7 xs lo i)) ⟨_,rfl,o9 ry lo i⟩;exact q _ _ _ l y (.loc (by rw[<-u.len];simp))
  |_=>exact q.elim
 |_=>exact q.elim
def MO'(X:Cx)(e:Option Expr)(m:Mx (QV)):Prop:=PO X e (tM X IL m)
def OY:Mx (QV):=λ_ h=>.ok Y h
def OZ(m:Mx PV):Mx (QV):=λZ h=>(m Z h).bind λv j=>match v with
 |.int i=>.ok (J i) j
 |_=>.bad
def t8:MO' X Y OY:=λj s Z H Q i ⟨U,l,h,y,u,q⟩=>BQ j s Z H Q i (q U H Y (Le.refl _ _) u rfl)
def u0(h:ME X e m):MO' X (J e) (OZ m):=λz s Z H Q u ⟨U,j,E,F,C,q⟩=>BR h z s Z H Q u ⟨U,j,E,F,C,Ful.bind q λB L v O P _ R l M y=>by
 cases M with
 |int i=>exact⟨i,rfl,y B L (J i) (Le.refl _ _) l rfl⟩
 |_=>exact y.elim⟩
def O0(m:Mx PV)(j z:Mx (QV)):Mx PV:=λZ h=>(m Z h).bind λx u=>(j Z u).bind λlo i=>(z Z i).bind λy l=>(FG x lo y l).ne
def DL{e:Expr}{lo l:Option Expr}{m:Mx PV}{E F:Mx (QV)}{p2:Pos}(he:ME X e m)(hl:MO' X lo E)(hu:MO' X l F):ME X (.Subscript e (.Slice lo l Y p2) pos) (O0 m E F) :=
 PE.imp (zy Jk he hl hu) λZ H Q ⟨U,i,h,y,rh,q⟩=>⟨U,i,h,y,rh,Ful.bind q λP H1 x x' h1 _ C j M R=>⟨P,i,h1,y.le C,j,Ful.bind R λU2 H2 lo L h2 _ B z el S=>by
  subst el
  exact⟨U2,i,h2,y.le (C.trans B),z,Ful.bind S λU3 H3 l ab O _ l3 u eh q3=>by
   subst eh
   exact⟨U3,O,x,u,(M.le B).le l3,q3.zero⟩⟩⟩⟩
end
section
variable{X:Cx}{N W G:QM}{k:Nat}
def yL{A:Around}{E:QZ}{F:QT}{Z:L2.St}{H:Hp}{s:Shared}{a:Addr}{ys:List V}{Q:QZ}(C:A.handled=Y)(y:Inv X F Z H s)(u:SqL X.K H a ys\/SqT X.K H a ys)(h:∀(f:QS)(z:Heap)(It:Addr)(St:Nat->Heap->Prop),aK ys f->Walks X.prog X.w A It [It,a] [It] f.toArray.size (λi v=>f.toArray[i]?=J v) St->St 0 z->(∀b∈[It,a],b<z.objs.size)->(∀b o,s.heap.get? b=J o->z.get? b=J o)->s.heap.objs.size=It->Q (.ref It) { s with heap:=z}):
  wpAny (model X.prog X.w) A (pyIter (.ref a)) Q E s:=by
 have sz:∀(o:Obj),a<s.heap.objs.size->∀b∈[s.heap.objs.size,a],b<(s.heap.push o).objs.size:=λo j b l=>by
  rw[A3];rcases p_.mp l with rfl|l
  .exact L8 _
  .rcases p_.mp l with rfl|l
   .exact L4 j
   .cases l
 rcases u with u|u
 .obtain⟨f,B,L,_⟩:=y.list u;have hl:=L.isList;have j:a<s.heap.objs.size:=by obtain⟨_,e,_⟩:=hl;exact pj e
  exact wpAny_pyIter_list hl (h f _ _ _ B (Walks.list C _ a (vR j) f.toArray) ⟨⟨_,wr _ rfl,rfl,rfl⟩,hl.push _⟩ (sz _ j) (λb o e=>n3 _ e) rfl)
 .obtain⟨f,B,hl,_⟩:=y.tuple u;have j:a<s.heap.objs.size:=by obtain⟨_,e,_⟩:=hl;exact pj e
  exact wpAny_pyIter_tuple hl (h f _ _ _ B (Walks.tuple C _ a (vR j) f.toArray) ⟨⟨_,wr _ rfl,rfl,rfl⟩,hl.push _⟩ (sz _ j) (λb o e=>n3 _ e) rfl)
def Jl{s:Shared}{a f:Heap}{It:Addr}(i:∀b o,s.heap.get? b=J o->a.get? b=J o)(e:s.heap.objs.size=It)(l:∀b o,b∉[It]->a.get? b=J o->f.get? b=J o):∀b o,s.heap.get? b=J o->f.get? b=J o:=λb o q=>by
 refine l b o (λj=>?_) (i b o q)
 have:b=It:=by simpa using j
 exact absurd (pj q) (by rw[this,e];exact AD _)
def j7:QL->Option (List Bool)
 |[]=>J []
 |.bl b::r=>(j7 r).map (b::·)
 |_=>Y
def B9{K:hH}{U:QR}{H:Hp}:∀{xs:QL}{ys:List V}{bs:List Bool}{a:QS},RPs K U H xs ys->aK ys a->j7 xs=J bs->a=bs.map Value.bool:=by
 intro xs
 induction xs with
 |nil=>intro ys bs a r v e;cases r;cases v;cases e;rfl
 |cons x xs j =>
  intro ys bs a r v e
  cases r with
  |cons l i =>
   cases v with
   |cons y f =>
    cases l with
    |bl b =>
     simp only[j7,As]at e;obtain⟨u,z,rfl⟩:=e;rw[j i f z,show _=Value.bool b from y];rfl
    |_=>cases e
def tQ(bs:List Bool):TruthOf X.prog X.w A (λi v=>(bs.map Value.bool).toArray[i]?=J v) (λi=>bs.getD i T):=λi v s Q E a f=>by
 have:v=.bool (bs.getD i T):=by
  have a:(List.map Value.bool bs).toArray[i]?=J v:=a;rw[List.getElem?_toArray,u_,As]at a;obtain⟨b,e,rfl⟩:=a
  simp_all
 subst this;exact wpAny_truthy_bool f
def wX(bs:List Bool):(List.range bs.length).all (λi=>bs.getD i T)=bs.all id:=by
 induction bs with
 |nil=>rfl
 |cons b r a =>
  rw[Aw,OG,List.all_cons,List.all_map,List.all_cons,<-a];rfl
def AJ(xs:QL)(h:MH):QX:=match xs with
 |[x]=>(match (cS h x).bind j7 with
  |some bs=>.ok (.bl (bs.all id)) h
  |none=>.bad)
 |_=>.bad
def xM(g:Good X N W G k):cK X (.builtin "all") AJ:=by
 intro JB s Z H xs S Q f r ⟨U,h,ps,B,rp,q⟩
 cases rp with
 |nil=>exact q.elim
 |cons F L =>
  cases L with
  |cons _ _=>exact q.elim
  |nil =>
   rename_i x y
   unfold AJ at q
   cases j:(cS h x).bind j7 with
   |none=>simp only[j]at q;exact q.elim
   |some bs =>
    simp only[j]at q;obtain⟨ys,e1,e2⟩:=HL.mp j;obtain⟨a,R,rfl,i,l⟩:=oz B F e1
    cases r with
    |cons M E =>
     cases E;cases M;refine call_all_walk (yL g.room.hd f i λu h2 It St O Wk st fp kp z=>?_);have C:=B9 l O e2;refine⟨It,_,_,_,_,St,_,rfl,Wk,st,by rw[C];exact tQ bs,λh' tk P=>?_⟩;have el:u.toArray.size=bs.length:=by rw[C];simp
     rw[el,wX];exact⟨.bl _,H,f.kept (Jl kp z P),rfl,q U H _ (Le.refl _ _) B (.bl _)⟩
end
def RH.loose{K:hH}{mg:A4}{U:QR}{H:Hp}{h:MH}(r:RH K mg U H h){p:Addr}(i:H p=Y)(f:HO):RH K mg U (l_ H p f) h/\Le U H U (l_ H p f):=by
 have j:∀n a,U[n]?=J a->a≠p:=λn a e z=>by
  obtain⟨B,_,q⟩:=r.obj e;rw[z,i]at q;exact q.some rfl
 have l:Le U H U (l_ H p f):=⟨⟨[],by simp⟩,λa xs e=>by rw[aI (bC e i)];exact e,λa y u e=>by rw[aI (bC e i)];exact e⟩;exact⟨⟨r.len,r.nd,λn a o e1 e2=>by rw[aI (j n a e1)];exact(r.at' n a o e1 e2).le l⟩,l⟩
section
variable{X:Cx}{N W G:QM}{k:Nat}
def kW(xs:QL)(i:Int)(v:PV):QL :=
 let k:=if i<0 then(i+(xs.length:Int)).toNat else min i.toNat xs.length
 xs.take k++v::xs.drop k
def lv(n:Nat)(a:QL)(h:MH):QX:=match a with
 |[.int i,v]=>(match h[n]? with
  |some (.lst xs)=>if(-(2^63)<=i/\i<2^63)/\xs.length<sizeLine then .ok .non (h.set n (.lst (kW xs i v)))else .bad
  |_=>.bad)
 |_=>.bad
def xR:ID X "list.insert" (Ji X lv):=by
 intro JB s Z H x vs v us Q y rx rv ⟨U,h,n,a,ps,e,en,rh,rp,q⟩;subst e;obtain⟨o,eo,ro⟩:=rh.obj en;unfold lv at q
 split at q
 .rename_i i E
  cases rp with
  |cons r1 t1 =>
   cases t1 with
   |cons r2 t2 =>
    cases t2;cases r1;rw[eo]at q
    cases o with
    |lst xs =>
     dsimp only at q;by_cases hl:(-(2^63)<=i/\i<2^63)/\xs.length<sizeLine
     .rw[e_ hl]at q;obtain⟨ys,S,L⟩:=ro;cases rx
      cases rv with
      |cons F O=>cases O with
       |cons R P =>
        cases P
        rename_i v' u1 u2
        obtain⟨t,rfl⟩:=F;obtain⟨z,j,nn,r,u,e⟩:=y.lstM S
        let f:=if i<0 then(i+(j.length:Int)).toNat else min i.toNat j.length
        have B:RPs X.K U H (kW xs i E) (ys.take f++v'::ys.drop f):=by
         have:(if i<0 then(i+(xs.length:Int)).toNat else min i.toNat xs.length)=f:=by rw[L.length,u]
         unfold kW;rw[this];exact(L.take f).append (.cons r2 (L.drop f))
        obtain⟨C,l'⟩:=rh.put en (o:=.lst (kW xs i E)) ⟨_,rfl,B⟩;refine call_meets PySem.F.slot_list_insert ⟨_,e,rfl⟩ PySem.F.entry_list_insert (PySem.F.args_list_insert_3 _ _ _) (AutoListH.list_insert_list_int_val_1 a j.toArray nn i t u2 (by rw[fitsIndex_both hl.1.1 hl.1.2];simp) (by rw[yU];ext)) ⟨e,?_⟩;have l:=(r.take f).append (.cons R (r.drop f));have M:(ys.take f++v'::ys.drop f).length<=sizeLine:=by
         rw[<-B.length];have e1:(kW xs i E).length=xs.length+1:=by unfold kW;simp only[Hf,Aw,Eu,K0];ext
         ext
        refine⟨.non,_,y.lset (its':=j.take f++u2::j.drop f) S e ?_ l M,rfl,q U _ .non l' C .non⟩;simp[f,List.extract];refine OH ?_;rw[K0];exact mu _
     .rw[hI hl]at q;exact q.elim
    |_=>exact q.elim
 .exact q.elim
def B_(g:Good X N W G k){a:Expr}{m:Mx PV}{f y:String}{c l:Str}{i j j':Nat}{p q z P pt:Pos}{kt}(hi:G[i]?=J "isinstance")(hm:X.mg "isinstance"=Y)(hj:G[j]?=J c)(hc:X.mg c=Y)(hv:bootBuiltins c=J (.type f))(hT:B3 f)(L:G[j']?=J l)(S:X.mg l=Y)(a0:bootBuiltins l=J (.type y))(ai:B3 y)(ha:ME X a m)(he:starEach [a,.Tuple [.Name c q,.Name l z] kt pt] X.env=(T,eval a X.env)::starEach [.Tuple [.Name c q,.Name l z] kt pt] X.env:=by rfl)(an:starEach [.Tuple [.Name c q,.Name l z] kt pt] X.env=[(T,eval (.Tuple [.Name c q,.Name l z] kt pt) X.env)]:=by rfl)(a2:(backTo P (starEach [.Tuple [.Name c q,.Name l z] kt pt] X.env)).any (·.1)=T:=by rfl)(ap:starEach [.Name c q,.Name l z] X.env=(T,eval (.Name c q) X.env)::starEach [.Name l z] X.env:=by rfl)(ak:starEach [.Name l z] X.env=[(T,eval (.Name l z) X.env)]:=by rfl):
  ME X (.Call (.Name "isinstance" p) [a,.Tuple [.Name c q,.Name l z] kt pt] [] P) (IM (kP [f,y]) m):=by
 have d1:=g.dbg _ (vn _ (aL hi));have d:=g.dbg c (vn _ (aL hj));have d':=g.dbg l (vn _ (aL L));have C:cU X (.builtin "isinstance") (λxs H Q=>∃F E,xs=[F,.ref E]/\SqT X.K H E [.ty f,.ty y]/\uJ X (kP [f,y]) F H Q):=by
  intro JB s Z H xs us Q B r ⟨F,E,e,as,U,h,x,R,rx,q⟩;subst e
  cases r with
  |cons r1 t1=>cases t1 with
   |cons r2 t2 =>
    cases t2;cases r2;obtain⟨a5,rv,ht,_⟩:=B.tuple as;have ei:a5=[.type f,.type y]:=by
     cases rv with
     |cons v1 w1=>cases w1 with
      |cons v2 w2 =>
       cases w2;rw[show _=Value.type f from v1,show _=Value.type y from v2]
    subst ei;obtain⟨⟨oc,od,a7,a6⟩,ho,a3,nn,al⟩:=ht;subst a3;subst al;unfold kP at q
    cases et:B2 h x with
    |none=>rw[et]at q;exact q.elim
    |some t =>
     rw[et]at q;obtain⟨M,a4,Hq,Za,hz⟩:=uU B R rx r1 et;have O:PySem.W.kitAny X.K (.type t) [.type f,.type y]=J (bX t f||bX t y):=by
      unfold PySem.W.kitAny;rw[hT X.K t M]
      cases bX t f with
      |true=>rfl
      |false =>
       unfold PySem.W.kitAny;rw[ai X.K t M];cases bX t y<;>rfl
     exact PySem.W.kia_tup Za B.kIn hz ho O a4 λtk=>⟨.bl _,H,B.tok _,rfl,by
      have z:=q U H _ (Le.refl _ _) R (.bl _)
      simpa using z⟩
 refine PE.imp (m5 C (g.gl _ (aL hi)) hm PyProof.Rows.Boot.«isinstance» (dC ha (dC (yc (dC (pE (v:=.ty f) (u:=.type f) (g.gl c (aL hj)) hc hv rfl d.2.2 d.1) (dC (pE (v:=.ty y) (u:=.type y) (g.gl l (aL L)) S a0 rfl d'.2.2 d'.1) jG ak) ap)) jG an) he) d1.2.2 d1.1 he a2) λZ H Q ⟨U,a1,h,rs,R,q⟩=>?_;refine⟨U,a1,h,rs,R,Ful.bind q λU1 H1 x F h1 _ l1 ab rx q1=>?_⟩;refine⟨by show 2<=sizeLine;decide,λE ar=>?_⟩;obtain⟨aF,l2⟩:=ab.tup ar [.ty f,.ty y];exact⟨F,E,rfl,SqT.of aR,U1,h1,x,aF,rx.le l2,(Ful.le l2 q1).zero⟩
def Jm(i:TA):TE:=λZ H Q=>i Z H λf a=>∃j:Int,f=[.int j] /\ -(2^62)<=j/\j<2^62/\∀p,a p=Y->Q (.ref p) (l_ a p (.rng 0 j))
def wB(hg:Gl X "range")(z:X.mg "range"=Y)(F:PA X [a] ta)(u:starEach [a] X.env=[(T,eval a X.env)]:=by rfl):PE X (.Call (.Name "range" p) [a] [] pos) (Jm ta):=by
 intro y s Z H R f h;refine Call_ (gy f hg z boot_range (PyProof.Rows.callWith_type1 (j_ (F pos y s Z H _ f h) λL B ⟨O,P,l,C,i⟩=>?_) u rfl));obtain⟨j,e,i,M,q⟩:=i;subst e
 cases C with
 |cons r E =>
  cases E;obtain⟨t,rfl⟩:=r;refine call_range_1 ⟨.ref B.heap.objs.size,_,l.laid (λb o e=>n3 _ e) (mu _) ?_,rfl,q _ (l.hok.fresh (mu _))⟩;exact⟨_,_,_,wr _ rfl⟩
def nN:∀(n:Nat)(lo:Int)(a:QS),a.length=n->(∀(i:Nat)(v:Value),a[i]?=J v->∃t,v=.int (lo+i) t)->aK ((List.range n).map λi=>V.int (lo+(i:Nat))) a
 |0,lo,a,hl,_=>by cases a with|nil=>exact .nil|cons _ _=>simp at hl
 |n+1,lo,a,hl,h=>by
  cases a with
  |nil=>simp at hl
  |cons u a =>
   rw[OG,n_,y6];obtain⟨t,e⟩:=h 0 u rfl;refine .cons ⟨t,e⟩ ?_;have f:=nN n (lo+1) a (by simpa using hl) λi v hv=>by
    obtain⟨t,e⟩:=h (i+1) v (by simpa using hv);exact⟨t,by rw[e];congr 1;push_cast;ext⟩
   have e2:((λi=>V.int (lo+((i:Nat):Int)))∘Nat.succ)=λi=>V.int (lo+1+((i:Nat):Int)):=by funext i;simp only[Function.comp];congr 1;push_cast;ext
   rw[e2];exact f
def qv(F:X.calm=I):cU X (.type "list") (λxs H Q=>∃r j,xs=[.ref r]/\H r=J (.rng 0 j) /\ -(2^62)<=j/\j<2^62/\j.toNat<=sizeLine/\∀l,H l=Y->Q (.ref l) (l_ H l (.lst ((List.range j.toNat).map λi=>V.int (0+(i:Nat)))))):=by
 intro U s Z H xs S Q a r ⟨E,j,e,hr,P,O,y,q⟩;subst e
 cases r with
 |cons M R =>
  cases R;cases M;obtain⟨t,u,v,B⟩:=(a.hok E _ hr);refine call_list_range (a.ok.hd F) B (small_one (by ext) (by ext) P O) (by rw[rangeSize_one];split<;>ext) y λh' tk f C kp e z=>?_;have L:=nN _ 0 _ (by exact z.1) λi v hv=>by
   obtain⟨t,e⟩:=z.2 i v (by rw[<-Array.getElem?_toList];exact hv)
   grind
  refine⟨.ref s.heap.objs.size,_,a.laid (o:=.lst _) kp (mu _) (⟨by simpa using y,f.toList,C,L,by simpa using e⟩),rfl,q _ (a.hok.fresh (mu _))⟩
def P8(m:Mx (QL)):Mx PV:=λZ h=>(m Z h).bind λf a=>match f with
 |[.int j]=>if -(2^62)<=j/\j<2^62/\j.toNat<=sizeLine then .ok (.loc a.length) (a++[.lst (bH 0 j.toNat)])else .bad
 |_=>.bad
def qm{K:hH}{U:QR}{H:Hp}{lo:Int}:∀(l:QP),RPs K U H (l.map λ(i:Nat)=>PV.int (lo+(i:Int))) (l.map λ(i:Nat)=>V.int (lo+(i:Int)))
 |[]=>.nil
 |i::l=>.cons (.int _) (qm l)
def Aa(g:Good X N W G k){a:Expr}{m:Mx (QL)}{i j:Nat}{p F O f:Pos}(R:G[i]?=J "list")(hm:X.mg "list"=Y)(hj:G[j]?=J "range")(C:X.mg "range"=Y)(ha:MA X [a] m)(hs:starEach [a] X.env=[(T,eval a X.env)]:=by rfl)(S:starEach [.Call (.Name "range" F) [a] [] f] X.env=[(T,eval (.Call (.Name "range" F) [a] [] f) X.env)]:=by rfl):ME X (.Call (.Name "list" p) [.Call (.Name "range" F) [a] [] f] [] O) (P8 m):=by
 have d:=g.dbg _ (vn _ (aL R));refine PE.imp (qe (qv g.calm) (g.gl _ (aL R)) hm PyProof.Rows.Boot.«list» (dC (wB (g.gl _ (aL hj)) C ha hs) jG S) d.2.2 d.1 S rfl) λZ H Q ⟨U,E,h,rs,rh,q⟩=>?_;refine⟨U,E,h,rs,rh,Ful.bind q λU1 H1 x x' h1 _ l1 B rx u=>?_⟩
 cases rx with
 |nil=>exact u.elim
 |cons P t1 =>
  cases t1 with
  |cons _ _=>cases P<;>exact u.elim
  |nil =>
   cases P with
   |int y =>
    dsimp only at u;by_cases z:-(2^62)<=y/\y<2^62/\y.toNat<=sizeLine
    .rw[e_ z]at u;refine⟨y,rfl,z.1,z.2.1,λr hr=>?_⟩;obtain⟨M,l2⟩:=B.loose hr (.rng 0 y);refine⟨r,y,rfl,aR,z.1,z.2.1,z.2.2,λl hl=>?_⟩;obtain⟨L,l3⟩:=M.new hl (o:=.lst (bH 0 y.toNat)) ⟨_,rfl,qm _⟩;exact u _ _ _ (l2.trans l3) L (.loc (by rw[<-B.len];simp))
    .rw[hI z]at u;exact u.elim
   |_=>exact u.elim
end
end MM
namespace SetT
open PySem.SetTable
def base(M:Nat)(h:Int):Nat->Nat×Nat
 |0=>(bits h % (M+1),bits h)
 |b+1=>leap M (base M h b).1 (base M h b).2
end SetT
namespace SortT
open PyProof.Rows
end SortT
namespace SortT
open PyProof.Rows SetT PySem.W
section
variable{prog:Program}{w:World}{A:Around}{E:QZ}{s:Shared}
def nE(j:h.get? a=J (seqObj "list" vs.toArray n))(f:Array Value):∃c,(sortedHeap h a vs f).get? a=J (seqObj "list" f c):=by obtain⟨e1,i⟩:∃e1,(h.update a (Obj.mapSeq λ_=>(#[]:Array Value))).get? a=J (seqObj "list" #[] e1):=⟨_,get?_update_seq j λ_=>#[]⟩;exact⟨_,get?_update_seq (n3 _ (n3 _ i)) λ_=>f⟩
def mI(i:b≠a)(j:h.get? b=J o)(f:Array Value):(sortedHeap h a vs f).get? b=J o:=by unfold sortedHeap;rw[HQ _ _ _ _ i];exact n3 _ (n3 _ ((HQ _ _ _ _ i).trans j))
end
end SortT
namespace MM
open PySem.Spec PyProof.Rows L2 SetT SortT
def DM{K:hH}{U:QR}{H:Hp}:∀{k:QN}{ys:List V},RPs K U H (k.map PV.int) ys->ys=k.map V.int
 |[],ys,h=>by cases h;rfl
 |i::k,ys,h=>by
  cases h with
  |cons r t =>
   cases r;rw[DM t];rfl
section
variable{X:Cx}{N W G:QM}{k:Nat}
def iL(h:MH):PV->Option (QL)
 |.frl xs=>J xs
 |.loc n=>(match h[n]? with
  |some (.lst xs)=>J xs
  |_=>Y)
 |_=>Y
def Ca{U:QR}{H:Hp}{h:MH}{x:PV}{y:V}{xs:QL}{K:hH}{mg:A4}(u:RH K mg U H h)(r:RP K U H x y)(e:iL h x=J xs):∃a f,y=.ref a/\SqL K H a f/\RPs K U H xs f:=by
 cases r with
 |frl s r=>cases e;exact⟨_,_,rfl,s.sq,r⟩
 |@loc n a B =>
  obtain⟨o,l,i⟩:=u.obj B;unfold iL at e;dsimp only at e;rw[l]at e
  cases o with
  |lst f =>
   cases e;obtain⟨ys,j,z⟩:=i;exact⟨a,ys,rfl,SqL.of j,z⟩
  |_=>cases e
 |_=>cases e
end
end MM
namespace SeqT
abbrev Bu(tp:Bool):String:=if tp then "tuple_iterator" else "list_iterator"
abbrev O3(tp:Bool):String:=if tp then "tuple" else "list"
def SqI(f:Bool)(h:Heap)(j a:Addr)(i:Nat):Prop:=∃o,h.get? j=J o/\o.cls=.type (Bu f)/\o.data=.fields #[.ref a,.int i 0]
def SqO(f:Bool)(h:Heap)(a:Addr)(xs:Array Value):Prop:=∃o,h.get? a=J o/\o.cls=.type (O3 f)/\∃n,o.data=.seq xs n
def SqI.at'(x:SqI tp h it a i)(k:∀o,h.get? it=J o->h'.get? it=J o):SqI tp h' it a i:=let⟨o,e,r⟩:=x;⟨o,k o e,r⟩
def SqO.at'(x:SqO tp h a xs)(k:∀o,h.get? a=J o->h'.get? a=J o):SqO tp h' a xs:=let⟨o,e,r⟩:=x;⟨o,k o e,r⟩
def SqI.lt(x:SqI tp h it a i):it<h.objs.size:=let⟨_,e,_⟩:=x;pj e
section
variable{prog:Program}{w:World}{A:Around}{E:QZ}{s:Shared}
def iU(y:SqI tp s.heap it a i)(u:SqO tp s.heap a xs)(B:xs[i]?=J x)(C:∀j,SqI tp j it a (i+1)->Heap.SameBut it s.heap j->Q x { s with heap:=j}):wpAny (model prog w) A (Builtin.SmallTypes.nextOf (.ref it)) Q E s:=by
 cases tp with
 |false=>exact wpAny_nextOf_list_item (y) (u) B C
 |true =>
  obtain⟨o,e,G,hd⟩:=id y;obtain⟨L,f,_,H,l⟩:=u;have z:s.TypeIs (.ref it) "tuple_iterator":=⟨o,e,G⟩;refine g_ (wpAny_callSpecial?_slot z F.slot_tuple_iterator_next (wpAny_call_entry F.slot_tuple_iterator_next z F.entry_tuple_iterator_next ?_ (F.args_tuple_iterator_next_1 _)));show wpAny _ _ (field (.ref it) 0 >>= _) _ _ s;refine g_ (wpAny_field e hd rfl ?_);refine g_ (wpAny_field e hd rfl ?_);refine g_ (wpAny_seqItems f l ?_);simp only[Br,B];refine g_ (wpAny_setField e hd (by simp) (oh ⟨x,rfl,oh (C _ ?_ (Heap.SameBut.update ..))⟩));exact⟨_,KR _ e (Obj.isFreed_of_fields (Obj.data_mapFields hd _)),(Obj.cls_mapFields ..).trans G,by rw[Obj.data_mapFields hd];simp[rawInt]⟩
def kh(y:A.handled=Y)(B:SqI tp s.heap it a i)(z:SqO tp s.heap a xs)(G:xs[i]?=Y)(u:∀j e,Heap.ExtBut it s.heap j->(∃o,j.get? e=J o/\o.cls=.type "StopIteration")->E (.ref e) { s with heap:=j}):wpAny (model prog w) A (Builtin.SmallTypes.nextOf (.ref it)) Q E s:=by
 cases tp with
 |false=>exact wpAny_nextOf_list_end y (B) (z) G u
 |true =>
  obtain⟨o,e,H,hd⟩:=id B;obtain⟨M,f,_,L,l⟩:=z;have C:s.TypeIs (.ref it) "tuple_iterator":=⟨o,e,H⟩;refine g_ (wpAny_callSpecial?_slot C F.slot_tuple_iterator_next (wpAny_call_entry F.slot_tuple_iterator_next C F.entry_tuple_iterator_next ?_ (F.args_tuple_iterator_next_1 _)));show wpAny _ _ (field (.ref it) 0 >>= _) _ _ s;refine g_ (wpAny_field e hd rfl ?_);refine g_ (wpAny_field e hd rfl ?_);refine g_ (wpAny_seqItems f l ?_);simp only[Br,G];refine g_ (wpAny_rule (g_ (wpAny_setField e hd (by simp) ?_)));refine g_ ?_;refine g_ (m:=firstArgMember _ _) (wpAny_of_eq (by first | rfl | (simp only)) ?_);refine wpAny_newObj_type ?_ (by size_fits);refine g_ (wpAny_handled ?_);rw[show A.in1.handled=Y from y];refine g_ (oh (wpAny_throw ?_));exact u _ _ (((Heap.SameBut.update ..).extBut.push _).push _) ⟨_,wr _ rfl,rfl⟩
def jo(f:SqO tp s.heap a xs)(i:Q (.ref s.heap.objs.size) { s with heap:=s.heap.push { cls:=.type (Bu tp),data:=.fields #[.ref a,.int 0 0]}}):wpAny (model prog w) A (pyIter (.ref a)) Q E s:=by
 cases tp with
 |false=>exact wpAny_pyIter_list (f) i
 |true=>exact wpAny_pyIter_tuple (f) i
end
def Jn(C:A.handled=Y)(y:Bool)(f a:Addr)(u:a≠f)(xs:Array Value):
  Draws prog w A f [f,a] xs.size (λi v=>xs[i]?=J v) (λi h=>SqI y h f a i/\SqO y h a xs) where
 live:=λ_ _ st=>let⟨o,B,_⟩:=st.1;⟨o,B⟩
 frame:=λ_ _ _ st z=>⟨st.1.at' λo e=>z f (by simp) o e,st.2.at' λo e=>z a (by simp) o e⟩
 item:=λi s Q E L st H=>by
  refine iU st.1 st.2 (x:=xs[i]) (by simp) λF l j=>?_;exact H _ F s.toks (by simp) ⟨l,st.2.at' λo e=>(j.2 a u).trans e⟩ j
 done:=λs Q E st G=>kh C st.1 st.2 (by simp) G
def yJ(f:Bool)(a:Addr)(xs:Array Value)(n:Nat)(i:QD)(l:Array (QU)):
  Meets (Builtin.«enumerate.__new__» ⟨[.type "enumerate",.ref a],[]⟩) (λ_ R s=>s.heap.get? a=J { cls:=.type (O3 f),dict:=i,data:=.seq xs n,slots:=l} /\
   R (.ok (.ret (.ref (s.heap.push { cls:=.type (Bu f),data:=.fields #[.ref a,.int 0 0]}).objs.size)))
    { s with heap:=(s.heap.push { cls:=.type (Bu f),data:=.fields #[.ref a,.int 0 0]}).push { cls:=.type "enumerate",data:=.fields #[.none,.bool T,.ref s.heap.objs.size,rawInt 0,.none,.none]}}) :=
 .of_wp λprog w A R s h=>by
  obtain⟨u,g,d,tk,os⟩:=s;obtain⟨hl,h⟩:=h;have j:=sub_enumerate;have hL:SqO f (Shared.heap ⟨u,g,d,tk,os⟩) a xs:=⟨_,hl,rfl,n,rfl⟩
  wp_walk using AutoSeq1.wpAny_loadPart' hl
  refine wpAny_stack_any λst=>oh ?_;split
  .rename_i c _ _ _ _ _
   cases(c==Value.type "enumerate")
   .wp_walk using AutoSeq1.wpAny_loadPart' hl,jo hL
    exact⟨_,rfl,h⟩
   .wp_walk using AutoSeq1.wpAny_loadPart' hl,jo hL
    exact⟨_,rfl,h⟩
  .wp_walk using AutoSeq1.wpAny_loadPart' hl,jo hL
   exact⟨_,rfl,h⟩
section
variable{prog:Program}{w:World}{A:Around}{E:QZ}{s:Shared}
def x0(hL:SqO tp s.heap a xs)(h:∀f,IsEnum f (s.heap.objs.size+1) s.heap.objs.size 0 .none->SqI tp f s.heap.objs.size a 0->f.objs.size=s.heap.objs.size+2 ->
   (∀b o,s.heap.get? b=J o->f.get? b=J o)->Q (.ref (s.heap.objs.size+1)) { s with heap:=f}):
  wpAny (model prog w) A (call (.type "enumerate") [.ref a]) Q E s:=by
 obtain⟨⟨c,j,z,u⟩,hl,y,n,hd⟩:=hL;subst y hd;refine callType_new F.called_enumerate (by decide) (F.typeCall_enumerate_1 _) (F.newCall_enumerate_1 _) (λobj=>F.args_object_init_2 obj _) F.entry_enumerate_new (yJ tp a xs n j u) ⟨hl,?_⟩;have i:(s.heap.push { cls:=.type (Bu tp),data:=.fields #[.ref a,.int 0 0]}).objs.size=s.heap.objs.size+1:=A3 ..;rw[i]
 have l:IsEnum ((s.heap.push { cls:=.type (Bu tp),data:=.fields #[.ref a,.int 0 0]}).push
   { cls:=.type "enumerate",data:=.fields #[.none,.bool T,.ref s.heap.objs.size,rawInt 0,.none,.none]}) (s.heap.objs.size+1) s.heap.objs.size 0 .none:=by
  have:=wr (s.heap.push { cls:=.type (Bu tp),data:=.fields #[.ref a,.int 0 0]})
   (o:={ cls:=.type "enumerate",data:=.fields #[.none,.bool T,.ref s.heap.objs.size,rawInt 0,.none,.none]}) rfl
  rw[i]at this;exact this
 exact⟨⟨_,l,rfl⟩,h _ l ⟨_,n3 _ (wr _ rfl),rfl,rfl⟩ (by rw[A3,i]) λb o x=>n3 _ (n3 _ x)⟩
end
section
variable{prog:Program}{w:World}{A:Around}{E:QZ}{s:Shared}{z TI TO i1 i2 l1 l2:Addr}{t1 t2:Bool}{k1 k2:Nat}{xs ys:Array Value}
def wE{x y a b:Value}{Q:QZ}(D:ZipApart z TI TO i1 i2 l1 l2)(R:IsZip s.heap z TI TO .none)(al:IsPair s.heap TI (.ref i1) (.ref i2))(an:IsPair s.heap TO a b)(h1:SqI t1 s.heap i1 l1 k1)(h2:SqI t2 s.heap i2 l2 k2)(ar:SqO t1 s.heap l1 xs)(a0:SqO t2 s.heap l2 ys)(hx:xs[k1]?=J x)(hy:ys[k2]?=J y)(hQ:∀C,IsZip C z TI TO (rawInt s.heap.objs.size)->IsPair C TO x y->SqI t1 C i1 l1 (k1+1)->SqI t2 C i2 l2 (k2+1)->IsPair C s.heap.objs.size x y->C.objs.size=s.heap.objs.size+1 ->
   (∀c o,c≠z->c≠TO->c≠i1->c≠i2->s.heap.get? c=J o->C.get? c=J o)->Q (.ref s.heap.objs.size) { s with heap:=C}):
  wpAny (model prog w) A (Builtin.«zip.__next__» ⟨[.ref z],[]⟩) (λfin s'=>∃v,fin=.done (.ret v)/\Q v s') E s:=by
 show wpAny _ _ (field (.ref z) 2 >>= _) _ _ _;refine g_ (wpAny_field R rfl (x:=.bool T) rfl ?_);refine g_ (wpAny_field R rfl (x:=.ref TI) rfl ?_);refine g_ (wpAny_seqItems al rfl ?_);refine g_ ?_;refine g_ (wpAny_field R rfl (x:=.none) rfl (oh ?_));refine g_ (wpAny_rule ?_);refine g_ (wpAny_field R rfl (x:=.ref TO) rfl ?_);refine g_ (wpAny_setField_rec R (by simp) λha a1 sa=>?_);refine g_ ?_;refine g_ (g_ (wpAny_onRaise ?_));refine g_ (iU (s:={ s with heap:=ha}) (h1.at' λo e=>(sa.2 _ D.i1z).trans e) (ar.at' λo e=>(sa.2 _ D.l1z).trans e) hx λhb ap u=>oh ?_);replace u:Heap.SameBut i1 ha hb:=u;have Z:IsPair hb TO a b:=(u.2 _ D.TOi1).trans ((sa.2 _ D.TOz).trans an);refine g_ (wpAny_seqItems Z rfl ?_);refine g_ (wpAny_updateSeq_pair Z λhc F B=>?_);replace F:IsPair hc TO x b:=F;replace B:Heap.SameBut TO hb hc:=B;refine g_ (wpAny_letGo (oh ?_));refine g_ (g_ (wpAny_onRaise ?_));show wpAny _ _ (Builtin.SmallTypes.nextOf (.ref i2) >>= _) _ _ _
 refine g_ (iU (s:={ s with heap:=hc}) (h2.at' λo e=>(B.2 _ D.TOi2.symm).trans ((u.2 _ D.i12.symm).trans ((sa.2 _ D.i2z).trans e)))
  (a0.at' λo e=>(B.2 _ D.l2TO).trans ((u.2 _ D.l2i1).trans ((sa.2 _ D.l2z).trans e))) hy λhd ai G=>oh ?_)
 replace G:Heap.SameBut i2 hc hd:=G;have X:IsPair hd TO x b:=(G.2 _ D.TOi2).trans F;refine g_ (wpAny_seqItems X rfl ?_);refine g_ (wpAny_updateSeq_pair X λf j M=>?_);replace j:IsPair f TO x y:=j;replace M:Heap.SameBut TO hd f:=M;refine g_ (wpAny_letGo (oh (oh ?_)));refine g_ (wpAny_seqItems j rfl ?_);refine g_ (wpAny_newTuple ?_);have S:f.objs.size=s.heap.objs.size:=by rw[M.1,G.1,B.1,u.1,sa.1]
 have U:IsZip f z TI TO .ellipsis:=(M.2 _ D.TOz.symm).trans ((G.2 _ D.i2z.symm).trans ((B.2 _ D.TOz.symm).trans ((u.2 _ D.i1z.symm).trans a1)));have as:∀c o,c≠z->c≠TO->c≠i1->c≠i2->s.heap.get? c=J o->f.get? c=J o:=λc o L c2 c3 c4 e =>
  (M.2 _ c2).trans ((G.2 _ c4).trans ((B.2 _ c2).trans ((u.2 _ c3).trans ((sa.2 _ L).trans e))))
 have ak:SqI t1 f i1 l1 (k1+1):=ap.at' λo e=>(M.2 _ D.TOi1.symm).trans ((G.2 _ D.i12).trans ((B.2 _ D.TOi1.symm).trans e));have aF:SqI t2 f i2 l2 (k2+1):=ai.at' λo e=>(M.2 _ D.TOi2.symm).trans e;have l:z<f.objs.size:=pj U;show wpAny _ _ (Builtin.SmallTypes.ownedTupleHandOut (.ref z) (.ref f.objs.size) >>= _) _ _ _;refine g_ ?_;unfold Builtin.SmallTypes.ownedTupleHandOut;have ab:IsZip (f.push { cls:=.type "tuple",data:=.seq #[x,y]}) z TI TO .ellipsis:=n3 _ U;refine g_ (wpAny_setField_rec ab (by simp) λhg H sg=>?_);replace H:IsZip hg z TI TO (rawInt f.objs.size):=H;refine wpAny_setField_rec H (by simp) λO i sh=>?_;replace i:IsZip O z TI TO (rawInt f.objs.size):=i;have up:∀c o,c≠z->f.get? c=J o->O.get? c=J o:=λc o L e=>(sh.2 _ L).trans ((sg.2 _ L).trans (n3 _ e));have W:IsPair O f.objs.size x y:=(sh.2 _ (AB l)).trans ((sg.2 _ (AB l)).trans (wr _ rfl));have P:O.objs.size=f.objs.size+1:=by rw[sh.1,sg.1,A3]
 rw[S]at i W P;refine oh ⟨_,rfl,?_⟩;show Q (.ref f.objs.size) _;rw[S];exact hQ O i (up _ _ D.TOz j) (ak.at' λo e=>up _ o D.i1z e) (aF.at' λo e=>up _ o D.i2z e) W P λc o L c2 c3 c4 e=>up c o L (as c o L c2 c3 c4 e)
def y0(hh:A.handled=Y)(D:ZipApart z TI TO i1 i2 l1 l2)(B:IsZip s.heap z TI TO .none)(S:IsPair s.heap TI (.ref i1) (.ref i2))(W:IsPair s.heap TO a b)(h1:SqI t1 s.heap i1 l1 k1)(h2:SqI t2 s.heap i2 l2 k2)(G:SqO t1 s.heap l1 xs)(ab:SqO t2 s.heap l2 ys)(C:xs[k1]?=Y\/ys[k2]?=Y)(hE:∀h' e,(∀c o,c≠z->c≠TO->c≠i1->c≠i2->s.heap.get? c=J o->h'.get? c=J o)->(∃o,h'.get? e=J o/\o.cls=.type "StopIteration")->E (.ref e) { s with heap:=h'}):
  wpAny (model prog w) A (Builtin.«zip.__next__» ⟨[.ref z],[]⟩) Q E s:=by
 show wpAny _ _ (field (.ref z) 2 >>= _) _ _ _;refine g_ (wpAny_field B rfl (x:=.bool T) rfl ?_);refine g_ (wpAny_field B rfl (x:=.ref TI) rfl ?_);refine g_ (wpAny_seqItems S rfl ?_);refine g_ ?_;refine g_ (wpAny_field B rfl (x:=.none) rfl (oh ?_));refine g_ (wpAny_rule ?_);refine g_ (wpAny_field B rfl (x:=.ref TO) rfl ?_);refine g_ (wpAny_setField_rec B (by simp) λZ O sa=>?_);refine g_ ?_;refine g_ (g_ (wpAny_onRaise ?_));show wpAny _ _ (Builtin.SmallTypes.nextOf (.ref i1) >>= _) _ _ _
 cases U:xs[k1]? with
 |none =>
  refine g_ (kh (s:={ s with heap:=Z}) hh (h1.at' λo e=>(sa.2 _ D.i1z).trans e) (G.at' λo e=>(sa.2 _ D.l1z).trans e) U λH e j X=>?_);obtain⟨R,f,i⟩:=X;have F:IsZip H z TI TO .ellipsis:=j _ _ D.i1z.symm O;have u:e≠z:=λq=>by subst q;rw[F]at f;cases f;simp at i
  exact wpAny_setField_rec F (by simp) λP _ l=>hE P e (λc o L _ c3 _ q=>(l.2 _ L).trans (j _ _ c3 ((sa.2 _ L).trans q))) ⟨R,(l.2 _ u).trans f,i⟩
 |some x =>
  have hy:ys[k2]?=Y:=by
   rcases C with q|q
   .rw[U]at q;cases q
   .exact q
  refine g_ (iU (s:={ s with heap:=Z}) (h1.at' λo e=>(sa.2 _ D.i1z).trans e) (G.at' λo e=>(sa.2 _ D.l1z).trans e) U λH ai j=>oh ?_);replace j:Heap.SameBut i1 Z H:=j;have M:IsPair H TO a b:=(j.2 _ D.TOi1).trans ((sa.2 _ D.TOz).trans W);refine g_ (wpAny_seqItems M rfl ?_);refine g_ (wpAny_updateSeq_pair M λP ak l=>?_);replace l:Heap.SameBut TO H P:=l;refine g_ (wpAny_letGo (oh ?_));refine g_ (g_ (wpAny_onRaise ?_));show wpAny _ _ (Builtin.SmallTypes.nextOf (.ref i2) >>= _) _ _ _
  refine g_ (kh (s:={ s with heap:=P}) hh (h2.at' λo e=>(l.2 _ D.TOi2.symm).trans ((j.2 _ D.i12.symm).trans ((sa.2 _ D.i2z).trans e)))
   (ab.at' λo e=>(l.2 _ D.l2TO).trans ((j.2 _ D.l2i1).trans ((sa.2 _ D.l2z).trans e))) hy λhd e sd X=>?_)
  obtain⟨R,f,i⟩:=X;have y:IsZip hd z TI TO .ellipsis:=sd _ _ D.i2z.symm ((l.2 _ D.TOz.symm).trans ((j.2 _ D.i1z.symm).trans O));have u:e≠z:=λq=>by subst q;rw[y]at f;cases f;simp at i
  exact wpAny_setField_rec y (by simp) λhf _ sf=>hE hf e (λc o L c2 c3 c4 q=>(sf.2 _ L).trans (sd _ _ c4 ((l.2 _ c2).trans ((j.2 _ c3).trans ((sa.2 _ L).trans q))))) ⟨R,(sf.2 _ u).trans f,i⟩
def Af(D:ZipApart z TI TO i1 i2 l1 l2)(B:IsZip s.heap z TI TO .none)(i:IsPair s.heap TI (.ref i1) (.ref i2))(j:IsPair s.heap TO a b)(X:SqI t1 s.heap i1 l1 k1)(W:SqI t2 s.heap i2 l2 k2)(l:SqO t1 s.heap l1 xs)(u:SqO t2 s.heap l2 ys)(S:xs[k1]?=J x)(U:ys[k2]?=J y)(Z:∀f,IsZip f z TI TO (rawInt s.heap.objs.size)->IsPair f TO x y->SqI t1 f i1 l1 (k1+1)->SqI t2 f i2 l2 (k2+1)->IsPair f s.heap.objs.size x y->f.objs.size=s.heap.objs.size+1 ->
   (∀c o,c≠z->c≠TO->c≠i1->c≠i2->s.heap.get? c=J o->f.get? c=J o)->Q (J (.ref s.heap.objs.size)) { s with heap:=f}):
  wpAny (model prog w) A (pyNext (.ref z)) Q E s:=by
 have C:s.TypeIs (.ref z) "zip":=⟨_,B,rfl⟩
 exact g_ (wpAny_attempt (wpAny_callSpecial?_slot C F.slot_zip_next
  (wpAny_call_entry F.slot_zip_next C F.entry_zip_next (wE D B i j X W l u S U λf H G P L M R O=>oh (Z f H G P L M R O)) (F.args_zip_next_1 _))))
def Cb(H:A.handled=Y)(D:ZipApart z TI TO i1 i2 l1 l2)(B:IsZip s.heap z TI TO .none)(i:IsPair s.heap TI (.ref i1) (.ref i2))(j:IsPair s.heap TO a b)(O:SqI t1 s.heap i1 l1 k1)(M:SqI t2 s.heap i2 l2 k2)(l:SqO t1 s.heap l1 xs)(u:SqO t2 s.heap l2 ys)(f:xs[k1]?=Y\/ys[k2]?=Y)(S:∀y,(∀c o,c≠z->c≠TO->c≠i1->c≠i2->s.heap.get? c=J o->y.get? c=J o)->Q Y { s with heap:=y}):wpAny (model prog w) A (pyNext (.ref z)) Q E s:=by
 have C:s.TypeIs (.ref z) "zip":=⟨_,B,rfl⟩
 refine g_ (wpAny_attempt (wpAny_callSpecial?_slot C F.slot_zip_next
  (wpAny_call_entry F.slot_zip_next C F.entry_zip_next (y0 H D B i j O M l u f λy e L P=>?_) (F.args_zip_next_1 _))))
 obtain⟨o,G,R⟩:=P;refine g_ (wpAny_isInstance ⟨o,G,R⟩ isSubtype_stop ?_);exact oh (S _ L)
end
abbrev zA(t1:Bool)(h:Heap)(l1:Addr):Heap:=h.push { cls:=.type (Bu t1),data:=.fields #[.ref l1,.int 0 0]}
abbrev zB(t1 t2:Bool)(h:Heap)(l1 l2:Addr):Heap:=(zA t1 h l1).push { cls:=.type (Bu t2),data:=.fields #[.ref l2,.int 0 0]}
abbrev zC(t1 t2:Bool)(h:Heap)(l1 l2:Addr):Heap:=(zB t1 t2 h l1 l2).push { cls:=.type "tuple",data:=.seq #[.ref h.objs.size,.ref (zA t1 h l1).objs.size]}
abbrev zD(t1 t2:Bool)(h:Heap)(l1 l2:Addr):Heap:=(zC t1 t2 h l1 l2).push { cls:=.type "tuple",data:=.seq #[.none,.none]}
abbrev zE(t1 t2:Bool)(h:Heap)(l1 l2:Addr):Heap:=(zD t1 t2 h l1 l2).push { cls:=.type "zip",data:=.fields #[.none,.bool T,.bool T,.ref (zB t1 t2 h l1 l2).objs.size,.ref (zC t1 t2 h l1 l2).objs.size]}
def Cc(f j:Bool)(a i:Addr)(xs ys:Array Value):
  Meets (Builtin.«zip.__new__» ⟨[.type "zip",.ref a,.ref i],[]⟩) (λ_ R s=>SqO f s.heap a xs/\SqO j s.heap i ys/\R (.ok (.ret (.ref (zD f j s.heap a i).objs.size))) { s with heap:=zE f j s.heap a i}) :=
 .of_wp λprog w A R s h=>by
  obtain⟨B,g,d,tk,os⟩:=s;obtain⟨u,y,h⟩:=h;have C:=sub_zip;have z:SqO f (Shared.heap ⟨B,g,d,tk,os⟩) a xs:=u;have l:SqO j (Shared.heap ⟨B.push { cls:=.type (Bu f),data:=.fields #[.ref a,.int 0 0]},g,d,tk,os⟩) i ys:=y.at' λo e=>n3 _ e
  wp_walk using jo z,jo l
  exact⟨_,rfl,h⟩
section
variable{prog:Program}{w:World}{A:Around}{E:QZ}{s:Shared}
def yx(y:SqO t1 s.heap l1 xs)(j:SqO t2 s.heap l2 ys)(h:∀a,IsZip a (s.heap.objs.size+4) (s.heap.objs.size+2) (s.heap.objs.size+3) .none->IsPair a (s.heap.objs.size+2) (.ref s.heap.objs.size) (.ref (s.heap.objs.size+1)) ->
   IsPair a (s.heap.objs.size+3) .none .none->SqI t1 a s.heap.objs.size l1 0->SqI t2 a (s.heap.objs.size+1) l2 0->a.objs.size=s.heap.objs.size+5 ->
   (∀c o,s.heap.get? c=J o->a.get? c=J o)->Q (.ref (s.heap.objs.size+4)) { s with heap:=a}):
  wpAny (model prog w) A (call (.type "zip") [.ref l1,.ref l2]) Q E s:=by
 refine callType_new F.called_zip (by decide) (F.typeCall_zip_2 _ _) (F.newCall_zip_2 _ _) (λobj=>F.args_object_init_3 obj _ _) F.entry_zip_new (Cc t1 t2 l1 l2 xs ys) ⟨y,j,?_⟩;have z1:(zA t1 s.heap l1).objs.size=s.heap.objs.size+1:=A3 ..;have i:(zB t1 t2 s.heap l1 l2).objs.size=s.heap.objs.size+2:=by rw[A3,z1]
 have u:(zC t1 t2 s.heap l1 l2).objs.size=s.heap.objs.size+3:=by rw[A3,i]
 have l:(zD t1 t2 s.heap l1 l2).objs.size=s.heap.objs.size+4:=by rw[A3,u]
 have H:(zE t1 t2 s.heap l1 l2).objs.size=s.heap.objs.size+5:=by rw[A3,l]
 have f:(zE t1 t2 s.heap l1 l2).get? (zD t1 t2 s.heap l1 l2).objs.size=J _:=wr _ rfl;have B:(zE t1 t2 s.heap l1 l2).get? (zC t1 t2 s.heap l1 l2).objs.size=J _:=n3 _ (wr _ rfl);have z:(zE t1 t2 s.heap l1 l2).get? (zB t1 t2 s.heap l1 l2).objs.size=J _:=n3 _ (n3 _ (wr _ rfl));have C:(zE t1 t2 s.heap l1 l2).get? (zA t1 s.heap l1).objs.size=J _:=n3 _ (n3 _ (n3 _ (wr _ rfl)));have G:(zE t1 t2 s.heap l1 l2).get? s.heap.objs.size=J _:=n3 _ (n3 _ (n3 _ (n3 _ (wr _ rfl))));rw[i,u,l]at f;rw[z1,i]at z;rw[u]at B;rw[z1]at C;rw[l]
 exact⟨⟨_,f,rfl⟩,h _ f z B ⟨_,G,rfl,rfl⟩ ⟨_,C,rfl,rfl⟩ H λc o x =>
  n3 _ (n3 _ (n3 _ (n3 _ (n3 _ x))))⟩
end
end SeqT
namespace MM
open PySem.Spec PyProof.Rows L2 SeqT
def AQ(f:Bool)(K:hH)(H:Hp)(a:Addr)(ys:List V):Prop:=match f with
 |true=>SqT K H a ys
 |false=>SqL K H a ys
section
variable{X:Cx}{JB:List (Addr × Obj)}{Z:L2.St}{H:Hp}{s:Shared}
def fF(i:Inv X JB Z H s)(h:AQ tp X.K H a ys):∃f:QS,aK ys f/\SqO tp s.heap a f.toArray/\ys.length<=sizeLine:=by
 cases tp with
 |true =>
  obtain⟨f,u,l,j⟩:=i.tuple h;exact⟨f,u,l,j⟩
 |false =>
  obtain⟨f,u,l,j⟩:=i.list h;exact⟨f,u,l.isList,j⟩
def oX(f:Inv X JB Z H s)(h:AQ tp X.K H a xs)(i:AQ tp X.K H a ys):xs=ys:=by
 cases tp with
 |true=>exact f.tuple_inj h i
 |false=>exact f.list_inj h i
def jP(f:Inv X JB Z H s){l:Heap}{t':Nat}{j:QR}(hf:∀b∈j,ij X JB H b)(k:∀b o,b∉j->s.heap.get? b=J o->l.get? b=J o):
  Inv X JB Z H { s with heap:=l,toks:=t'}:=by
 have i:∀b u,H b=J u->b∉j:=λb u e z=>by rw[(hf b z).1]at e;cases e
 refine f.step (g':=s.gens) (d':=s.drawn) (λb O=>?_) (λb o _ _ a e _=>k b o a e) (λb o _ _ a e _=>⟨o.slots,k b o a e⟩) (λ_ _ _ _ n=>n)
  (λb o a e=>⟨o,k b o a e⟩) (λ_ _ e=>e) (λ_ _ _ e=>e) (λb P e=>⟨#[],by rw[e];simp⟩) (λm C=>?_) (λb u e=>?_) f.bare
 .obtain⟨Q,E,R,M,F,B⟩:=hf b O;exact⟨M,E,F,B⟩
 .obtain⟨o,G,L,y,r⟩:=C;exact⟨o,G,L,k _ o (λz=>(hf _ z).2.1 rfl) y,r⟩
 .refine (f.hok b u e).stay (λc v a q=>k c v ?_ q) (λ_ q=>q) λ_ _ q=>q;rcases a with z|z
  .rw[z];exact i b u e
  .exact i c _ z
def uZ(i:Inv X JB Z H s){h':Heap}{t':Nat}{ch:QR}{ys:List V}{its:QS}(hf:∀b∈ch,ij X JB H b)(F:aK ys its)(C:ys.length<=sizeLine)(l:s.heap.objs.size∉ch)(G:h'.get? s.heap.objs.size=J { cls:=.type "tuple",data:=.seq its.toArray})(k:∀b o,b∉ch->s.heap.get? b=J o->h'.get? b=J o):
  Inv X JB Z (l_ H s.heap.objs.size (.tup ys)) { s with heap:=h',toks:=t'}/\(∀b∈ch,(l_ H s.heap.objs.size (.tup ys)) b=Y)/\H s.heap.objs.size=Y:=by
 have j:=i.hok.fresh (mu s.heap.objs.size);have B:∀b∈ch,b≠s.heap.objs.size:=λb a z=>l (by rw[<-z];exact a);have E:Inv X JB Z (l_ H s.heap.objs.size (.tup ys)) { s with heap:=s.heap.push { cls:=.type "tuple",data:=.seq its.toArray},toks:=s.toks} :=
  i.laid (λb u q=>n3 _ q) (mu _) ⟨C,its,F,_,wr _ rfl,rfl,⟨_,rfl⟩,rfl⟩
 have f:∀b∈ch,(l_ H s.heap.objs.size (.tup ys)) b=Y:=λb a=>by rw[aI (B b a)];exact(hf b a).1
 refine⟨?_,f,j⟩;refine jP (t':=t') E (λb a=>⟨f b a,(hf b a).2⟩) λb o a e=>?_;by_cases z:b=s.heap.objs.size
 .have y:(s.heap.push { cls:=.type "tuple",data:=.seq its.toArray}).get? s.heap.objs.size=J { cls:=.type "tuple",data:=.seq its.toArray}:=wr _ rfl
  grind
 .have y:=e;rw[Heap.get?_push_ne _ _ _ z]at y;exact k b o a y
end
def P9(K:hH)(f:Bool)(a:Addr):It :=
 ⟨λi H=>∃ys y,AQ f K H a ys/\ys[i]?=J y,λi H x j=>∃p y,H p=Y/\x=.ref p/\j=l_ H p (.tup [.int i,y])/\∀ys,AQ f K H a ys->ys[i]?=J y,λi H=>∃ys,AQ f K H a ys/\ys.length<=i⟩
def xw{P:Program}{w:World}{K:hH}{U:QW}{x1:Nat}{a7:Pos}(tp:Bool)(a e j:Addr)(L:e≠j)(as:a≠e)(aF:a≠j):
  AE P w K (.Tuple U x1 a7) (P9 K tp a) [e,j] e (λi h=>(∃old,IsEnum h e j i old)/\SqI tp h j a i) where
 mem:=by simp
 obj:=λi h st b O=>by
  obtain⟨⟨old,l⟩,F⟩:=st
  have:b=e\/b=j:=by simpa using O
  rcases this with rfl|rfl
  .exact⟨_,l,λv z=>nomatch z⟩
  .obtain⟨o,ho,W,hd⟩:=F;exact⟨o,ho,λv z=>by rw[hd]at z;cases z⟩
 keep:=λi h h' st k=>let⟨⟨old,l⟩,F⟩:=st;⟨⟨old,k e (by simp) _ l⟩,F.at' λo q=>k j (by simp) o q⟩
 item:=by
  intro X hP hw hK W i JB s Z H E f hf st hg;subst hP hw hK;obtain⟨⟨old,l⟩,F⟩:=st;obtain⟨ys,y,hq,hy⟩:=hg;obtain⟨B,rv,so,hz⟩:=fF f hq;obtain⟨u,hu,ru⟩:=rv.get hy;have a1:i<B.toArray.size:=by
   have:=(qi.mp hu).1
   simpa using this
  have G:(X.A.in1).handled=Y:=by have:=f.ok.hd W;simpa using this
  refine wpAny_pyNext_enum_itemD (Jn G tp j a aF B.toArray) l ⟨F,so⟩ a1 L (by simp[L,Ne.symm as]) λx h1 tk hx ar ai al a9 ab=>⟨_,rfl,?_⟩;have ap:x=u:=by
   have:B.toArray[i]?=J u:=by simpa using hu
   rw[this]at hx;exact(Option.some.inj hx).symm
  subst ap;refine wpAny_letOwnedTupleGo_enum (s:={ s with heap:=h1,toks:=tk+1}) ar λh2 ak M=>?_;have C:e<s.heap.objs.size:=pj l;have R:j<s.heap.objs.size:=F.lt;obtain⟨I2,a2,a4⟩:=uZ (t':=tk+1) (h':=h2) f (ch:=[e,j]) (ys:=[.int i,y]) (its:=[.int i tk,x]) hf (.cons ⟨tk,rfl⟩ (.cons ru .nil)) (by rw[sizeLine_eq];show 2<=_;decide)
   (by simp only[p_,Dw,or_false,not_or];exact⟨AB C,AB R⟩)
   ((M.2 _ (AB C)).trans al)
   (λb o O q=>by
    have S:b≠e:=λz=>O (by simp[z]);have a0:b≠j:=λz=>O (by simp[z])
    exact(M.2 b S).trans (ab b o S a0 q))
  refine⟨.ref s.heap.objs.size,_,I2,rfl,⟨_,y,a4,rfl,rfl,λzs a3=>by rw[oX f a3 hq];exact hy⟩,⟨⟨x,by simpa using ak⟩,?_⟩,a2⟩;exact ai.1.at' λo q=>(M.2 j (Ne.symm L)).trans q
 done:=by
  intro X hP hw hK W i JB s Z H E f hf st hg;subst hP hw hK;obtain⟨⟨old,l⟩,F⟩:=st;obtain⟨ys,hq,hy⟩:=hg;obtain⟨B,rv,so,hz⟩:=fF f hq;have G:(X.A.in1).handled=Y:=by have:=f.ok.hd W;simpa using this
  have a8:=rv.length;have hT:s.TypeIs (.ref e) "enumerate":=⟨_,l,rfl⟩;unfold pyNext;refine g_ (wpAny_attempt (wpAny_callSpecial?_slot (name:=Str.ofString "__next__") hT PySem.F.slot_enumerate_next (wpAny_call_entry PySem.F.slot_enumerate_next hT PySem.F.entry_enumerate_next ?_ (PySem.F.args_enumerate_next_1 _))));show wpAny _ _ (field (.ref e) 2 >>= _) _ _ _;refine g_ (wpAny_field l rfl (x:=.ref j) rfl ?_);refine g_ (kh G F so (by simp;ext) λh1 x a5 a6=>?_);obtain⟨o,ho,an⟩:=a6;refine g_ (wpAny_isInstance (T:="StopIteration") (b:=I) ⟨o,ho,an⟩ isSubtype_stop ?_);refine oh ⟨rfl,jP (t':=s.toks) f hf λb o O q=>a5 b o (λz=>O (by simp[z])) q⟩
 self:=λA i s Q E st h=>let⟨⟨old,l⟩,_⟩:=st;wpAny_pyIter_enum l h
def P_(K:hH)(j f:Bool)(a b:Addr):It :=
 ⟨λi H=>∃xs ys x y,AQ j K H a xs/\AQ f K H b ys/\xs[i]?=J x/\ys[i]?=J y,
   λi H v l=>∃p x y,H p=Y/\v=.ref p/\l=l_ H p (.tup [x,y])/\(∀xs,AQ j K H a xs->xs[i]?=J x)/\∀ys,AQ f K H b ys->ys[i]?=J y,
   λi H=>∃xs ys,AQ j K H a xs/\AQ f K H b ys/\(xs.length<=i\/ys.length<=i)⟩
def Ad{P:Program}{w:World}{K:hH}{ap:QW}{x1:Nat}{bm:Pos}(t1 t2:Bool)(a b z TI TO L M:Addr)(D:ZipApart z TI TO L M a b):
  AE P w K (.Tuple ap x1 bm) (P_ K t1 t2 a b) [z,TI,TO,L,M] z (λi h=>IsZip h z TI TO .none/\IsPair h TI (.ref L) (.ref M)/\(∃u v,IsPair h TO u v)/\SqI t1 h L a i/\SqI t2 h M b i) where
 mem:=by simp
 obj:=λi h st c l=>by
  obtain⟨F,j,⟨u,v,B⟩,⟨o1,e1,_,d1⟩,⟨o2,e2,_,d2⟩⟩:=st
  have:c=z\/c=TI\/c=TO\/c=L\/c=M:=by simpa using l
  rcases this with rfl|rfl|rfl|rfl|rfl
  .exact⟨_,F,λv z=>nomatch z⟩
  .exact⟨_,j,λv z=>nomatch z⟩
  .exact⟨_,B,λv z=>nomatch z⟩
  .exact⟨o1,e1,λv z=>by rw[d1]at z;cases z⟩
  .exact⟨o2,e2,λv z=>by rw[d2]at z;cases z⟩
 keep:=λi h h' st k=>let⟨F,j,⟨u,v,B⟩,h1,h2⟩:=st
  ⟨k z (by simp) _ F,k TI (by simp) _ j,⟨u,v,k TO (by simp) _ B⟩,h1.at' λo q=>k L (by simp) o q,h2.at' λo q=>k M (by simp) o q⟩
 item:=by
  intro X hP hw hK l i JB s Z H E f hf st hg;subst hP hw hK;obtain⟨F,j,⟨u,v,B⟩,h1,h2⟩:=st;obtain⟨xs,ys,x,y,C,G,hx,hy⟩:=hg;obtain⟨an,W,R,aF⟩:=fF f C;obtain⟨ab,S,O,a7⟩:=fF f G;obtain⟨u1,a0,a9⟩:=W.get hx;obtain⟨u2,a4,as⟩:=S.get hy;refine Af D F j B h1 h2 R O (x:=u1) (y:=u2) (by simpa using a0) (by simpa using a4) λha a2 ak a3 a6 ar b1 al=>⟨_,rfl,?_⟩;refine wpAny_letOwnedTupleGo_zip (s:={ s with heap:=ha}) a2 λhb a1 sb=>?_;have l1:z<s.heap.objs.size:=pj F;have l2:TI<s.heap.objs.size:=pj j;have l3:TO<s.heap.objs.size:=pj B;have l4:L<s.heap.objs.size:=h1.lt;have l5:M<s.heap.objs.size:=h2.lt;have up:∀c o,c≠z->ha.get? c=J o->hb.get? c=J o:=λc o l q=>(sb.2 c l).trans q;obtain⟨I2,a5,a8⟩:=uZ (t':=s.toks) (h':=hb) f (ch:=[z,TI,TO,L,M]) (ys:=[x,y]) (its:=[u1,u2]) hf (.cons a9 (.cons as .nil)) (by rw[sizeLine_eq];show 2<=_;decide)
   (by simp only[p_,Dw,or_false,not_or];exact⟨AB l1,AB l2,AB l3,AB l4,AB l5⟩)
   (up _ _ (AB l1) ar)
   (λc o l q=>up c o (λe=>l (by simp[e])) (al c o (λe=>l (by simp[e])) (λe=>l (by simp[e])) (λe=>l (by simp[e])) (λe=>l (by simp[e])) q))
  refine⟨.ref s.heap.objs.size,_,I2,rfl,⟨_,x,y,a8,rfl,rfl,λzs U=>by rw[oX f U C];exact hx,λzs U=>by rw[oX f U G];exact hy⟩,⟨a1,?_,⟨_,_,up _ _ D.TOz ak⟩,a3.at' λo q=>up _ o D.i1z q,a6.at' λo q=>up _ o D.i2z q⟩,a5⟩;exact up _ _ D.TIz (al _ _ D.TIz D.TITO D.TIi1 D.TIi2 j)
 done:=by
  intro X hP hw hK l i JB s Z H E f hf st hg;subst hP hw hK;obtain⟨F,j,⟨u,v,B⟩,h1,h2⟩:=st;obtain⟨xs,ys,C,G,ai⟩:=hg;obtain⟨an,W,R,aF⟩:=fF f C;obtain⟨ab,S,O,a7⟩:=fF f G;have e1:=W.length;have e2:=S.length;have hT:s.TypeIs (.ref z) "zip":=⟨_,F,rfl⟩;have b0:(X.A.in1).handled=Y:=by have:=f.ok.hd l;simpa using this
  refine Cb (f.ok.hd l) D F j B h1 h2 R O ?_ λh' hk=>⟨rfl,jP (t':=s.toks) f hf λc o l q=>hk c o (λe=>l (by simp[e])) (λe=>l (by simp[e])) (λe=>l (by simp[e])) (λe=>l (by simp[e])) q⟩;rcases ai with q|q
  .exact .inl (by simp;ext)
  .exact .inr (by simp;ext)
 self:=λA i s Q E st h=>wpAny_pyIter_zip st.1 h
def bi(v:PV)(h:MH):Option (Bool×QL×List (Nat×QL)):=match v with
 |.loc n=>(match h[n]? with
  |some (.lst xs)=>J (T,xs,[(n,xs)])
  |_=>Y)
 |.frl xs=>J (T,xs,[])
 |.tup xs=>J (I,xs,[])
 |_=>Y
def nt{X:Cx}{U:QR}{H:Hp}{h:MH}{x:PV}{y:V}{u:Bool}{xs:QL}{gd:List (Nat×QL)}(O:RH X.K X.mg U H h)(r:RP X.K U H x y)(e:bi x h=J (u,xs,gd)):
  ∃a,y=.ref a/\(∃ys,AQ u X.K H a ys)/\∀i f j,Le U H i f->RH X.K X.mg i f j->(∀p∈gd,j[p.1]?=J (.lst p.2))->∃ys,AQ u X.K f a ys/\RPs X.K i f xs ys:=by
 cases r with
 |frl s r=>cases e;exact⟨_,rfl,⟨_,s.sq⟩,λi f j l _ _=>⟨_,(l.sqf s).sq,r.le l⟩⟩
 |tup s r=>cases e;exact⟨_,rfl,⟨_,s⟩,λi f j l _ _=>⟨_,l.sqt s,r.le l⟩⟩
 |@loc n a F =>
  obtain⟨o,M,G⟩:=O.obj F;unfold bi at e;dsimp only at e;rw[M]at e
  cases o with
  |lst P =>
   cases e;obtain⟨ys,L,Q⟩:=G;refine⟨a,rfl,⟨ys,SqL.of L⟩,λi f j l z ok=>?_⟩;obtain⟨E,C,B⟩:=z.at' n a _ (l.get F) (ok (n,xs) (by simp));exact⟨E,SqL.of C,B⟩
  |_=>cases e
 |_=>cases e
def cH(xs:QL):QL:=xs.zipIdx.map λp=>.tup [.int (p.2:Int),p.1]
def jg(xs ys:QL):QL:=(xs.zip ys).map λp=>.tup [p.1,p.2]
def wQ{xs:QL}{i:Nat}{x:PV}(h:xs[i]?=J x):(cH xs)[i]?=J (.tup [.int (i:Int),x]):=by unfold cH;rw[u_,KU,h];simp
def pP(xs:QL):(cH xs).length=xs.length:=by simp[cH]
def rB(xs ys:QL):(jg xs ys).length=min xs.length ys.length:=by simp[jg]
def yu{xs ys:QL}{i:Nat}{x y:PV}(f:xs[i]?=J x)(a:ys[i]?=J y):(jg xs ys)[i]?=J (.tup [x,y]):=by
 unfold jg;rw[u_]
 have:(xs.zip ys)[i]?=J (x,y):=by rw[OD];exact⟨f,a⟩
 rw[this];rfl
def my(m:Mx (QL)):Mx MIt:=λZ h=>(m Z h).bind λf a=>match f with
 |[x]=>(match bi x a with
  |some (_,xs,gd)=>.ok ⟨cH xs,gd⟩ a
  |none=>.bad)
 |_=>.bad
def M4(m:Mx (QL)):Mx MIt:=λZ h=>(m Z h).bind λi a=>match i with
 |[x,y]=>(match bi x a,bi y a with
  |some (_,xs,f),J (_,ys,j)=>.ok ⟨jg xs ys,f++j⟩ a
  |_,_=>.bad)
 |_=>.bad
section
variable{X:Cx}{N W G:QM}{k:Nat}
def ua(g:Good X N W G k){aF:QW}{x1:Nat}{tp:Pos}{a:Expr}{m:Mx (QL)}{p a0:Pos}{j:Nat}(hj:G[j]?=J "enumerate")(hm:X.mg "enumerate"=Y)(ha:MA X [a] m)(hs:starEach [a] X.env=[(T,eval a X.env)]:=by rfl):MI X (.Tuple aF x1 tp) (.Call (.Name "enumerate" p) [a] [] a0) (my m):=by
 have d:=g.dbg _ (vn _ (aL hj));intro JB s Z H R as ⟨U,ap,h,rs,rh,q⟩;refine wpAny_Call_Name_kw (gy as (g.gl _ (aL hj)) hm PyProof.Rows.Boot.«enumerate» ?_ d.2.2 d.1)
 refine PyProof.Rows.callWith_type1 (j_ (ha a0 JB s Z H (λvs B=>∃O Q xs,Le U H O B/\RH X.K X.mg O B Q/\RPs X.K O B xs vs/\Ful X (mG X) ap O B ((match xs with
   |[x]=>(match bi x Q with|some (_,xs,gd)=>.ok ⟨cH xs,gd⟩ Q|none=>.bad)
   |_=>.bad:Out MIt)) R) as ⟨U,ap,h,rs,rh,Ful.bind q λO B v v' Q _ l1 L rv M=>⟨O,Q,v,l1,L,rv,M⟩⟩) λus E ⟨vs,B,I1,r1,O,Q,xs,l1,L,rv,M⟩=>?_) hs rfl
 cases rv with
 |nil=>exact M.elim
 |@cons y y' ys a5 ry t1 =>
  cases t1 with
  |cons _ _=>exact M.elim
  |nil =>
   dsimp only at M
   cases P:bi y Q with
   |none=>rw[P]at M;exact M.elim
   |some z =>
    obtain⟨b,zs,gd⟩:=z;rw[P]at M;obtain⟨ad,rfl,⟨ws,a2⟩,a3⟩:=nt L ry P;obtain⟨u,rfl,rx⟩:=gN r1;cases rx;obtain⟨a9,a8,so,hz⟩:=fF I1 a2;refine x0 so λh' he hi a6 hk=>?_;refine wpAny_pyIter_enum he ?_;have I2:Inv X JB Z B { E with heap:=h',toks:=E.toks}:=I1.kept hk;obtain⟨oa,a4,a7,_⟩:=id so;have an:ad<E.heap.objs.size:=pj a4;have ak:=I1.hok.fresh (mu E.heap.objs.size);have ai:=I1.hok.fresh (Ey E.heap.objs.size);refine⟨E.heap.objs.size+1,_,_,_,B,rfl,I2,xw b ad _ E.heap.objs.size (AB (L8 _)) (vR (L4 an)) (vR an),⟨⟨_,he⟩,hi⟩,λc hc=>?_,?_⟩
    .have:c=E.heap.objs.size+1\/c=E.heap.objs.size:=by simpa using hc
     rcases this with rfl|rfl
     .have F:=Inv.fpOk I1 (H':=B) (b:=E.heap.objs.size+1) (Ey _) ai;exact F
     .exact Inv.fpOk I1 (H':=B) (mu _) ak
    .refine M O B _ (Le.refl _ _) L ?_;intro U' H' h2 i l al ok;obtain⟨S,C,ar⟩:=a3 U' H' h2 l al ok;refine⟨λf=>?_,λf=>⟨S,C,by rw[<-ar.length];rw[pP]at f;exact f⟩⟩;rw[pP]at f;have hx:zs[i]?=J (zs[i]'f):=vE f;obtain⟨w',ew,rw'⟩:=ar.get hx;refine⟨⟨S,w',C,ew⟩,λx' H3 ⟨pp,y2,hp,e1,e2,ab⟩=>?_⟩;subst e1;subst e2;have ey:y2=w':=by
      have:=ab S C
      rw[ew]at this;exact(Option.some.inj this).symm
     subst ey;obtain⟨a1,l3⟩:=al.tup hp [.int i,y2];exact⟨U',_,l3,a1,wQ hx,.tup (SqT.of aR) (.cons (.int _) (.cons (rw'.le l3) .nil))⟩
def FH(g:Good X N W G k){cd:QW}{x1:Nat}{tp:Pos}{a b:Expr}{m:Mx (QL)}{p a4:Pos}{j:Nat}(hj:G[j]?=J "zip")(hm:X.mg "zip"=Y)(ha:MA X [a,b] m)(hs:starEach [a,b] X.env=(T,eval a X.env)::starEach [b] X.env:=by rfl)(cx:(backTo a4 (starEach [b] X.env)).any (·.1)=T:=by rfl):MI X (.Tuple cd x1 tp) (.Call (.Name "zip" p) [a,b] [] a4) (M4 m):=by
 have d:=g.dbg _ (vn _ (aL hj));intro JB s Z H R b9 ⟨U,b7,h,rs,rh,q⟩;refine wpAny_Call_Name_kw (gy b9 (g.gl _ (aL hj)) hm PyProof.Rows.Boot.«zip» ?_ d.2.2 d.1)
 refine PyProof.Rows.callWith_type1 (j_ (ha a4 JB s Z H (λvs Q=>∃U1 h1 xs,Le U H U1 Q/\RH X.K X.mg U1 Q h1/\RPs X.K U1 Q xs vs/\Ful X (mG X) b7 U1 Q ((match xs with
   |[x,y]=>(match bi x h1,bi y h1 with|some (_,xs,g1),J (_,ys,g2)=>.ok ⟨jg xs ys,g1++g2⟩ h1|_,_=>.bad)
   |_=>.bad:Out MIt)) R) b9 ⟨U,b7,h,rs,rh,Ful.bind q λU1 Q v v' h1 _ l1 O rv M=>⟨U1,h1,v,l1,O,rv,M⟩⟩) λus f ⟨vs,Q,I1,r1,U1,h1,xs,l1,O,rv,M⟩=>?_) hs cx
 cases rv with
 |nil=>exact M.elim
 |@cons y y' ys dj ry t1 =>
  cases t1 with
  |nil=>exact M.elim
  |@cons v v' dq da rv t2 =>
   cases t2 with
   |cons _ _=>exact M.elim
   |nil =>
    dsimp only at M
    cases ai:bi y h1 with
    |none=>rw[ai]at M;exact M.elim
    |some z =>
     obtain⟨b1,bm,df⟩:=z
     cases ab:bi v h1 with
     |none=>rw[ai,ab]at M;exact M.elim
     |some z2 =>
      obtain⟨b2,a7,dx⟩:=z2;rw[ai,ab]at M;obtain⟨C,rfl,⟨dc,ca⟩,a8⟩:=nt O ry ai;obtain⟨B,rfl,⟨de,b8⟩,b0⟩:=nt O rv ab
      cases r1 with
      |@cons _ u1 _ ds c4 c1 =>
       cases c1 with
       |@cons _ u2 _ dk ci cv =>
        cases cv;cases c4;cases ci;obtain⟨db,c7,b4,di⟩:=fF I1 ca;obtain⟨c6,c8,a9,dv⟩:=fF I1 b8;refine yx b4 a9 λh' hz cB ch cm c2 dr hk=>?_;refine wpAny_pyIter_zip hz ?_;have I2:Inv X JB Z Q { f with heap:=h',toks:=f.toks}:=I1.kept hk;obtain⟨dt,a5,_,_⟩:=id b4;obtain⟨dn,b3,_,_⟩:=id a9;have ak:C<f.heap.objs.size:=pj a5;have al:B<f.heap.objs.size:=pj b3;have sN:∀(n:Nat),f.heap.objs.size<=f.heap.objs.size+n:=λn=>Nat.le_add_right _ _;have ap:∀(c:Addr)(n:Nat),c<f.heap.objs.size->c≠f.heap.objs.size+n:=λc n hc=>vR (sw hc (sN n));have u:∀(m n:Nat),m≠n->f.heap.objs.size+m≠f.heap.objs.size+n:=λm n cn e=>cn (Nat.add_left_cancel e);have D:ZipApart (f.heap.objs.size+4) (f.heap.objs.size+2) (f.heap.objs.size+3) f.heap.objs.size (f.heap.objs.size+1) C B :=
         ⟨u 2 4 (by decide),u 3 4 (by decide),u 0 4 (by decide),u 1 4 (by decide),u 2 3 (by decide),u 2 0 (by decide),u 2 1 (by decide),u 3 0 (by decide),u 3 1 (by decide),u 0 1 (by decide),
          ap C 4 ak,ap C 3 ak,ap C 0 ak,ap C 1 ak,ap B 4 al,ap B 3 al,ap B 0 al,ap B 1 al⟩
        refine⟨f.heap.objs.size+4,_,_,_,Q,rfl,I2,Ad b1 b2 C B _ _ _ _ _ D,⟨hz,cB,⟨_,_,ch⟩,cm,c2⟩,λc hc=>?_,?_⟩
        .have F:∀n:Nat,ij X JB Q (f.heap.objs.size+n):=λn=>Inv.fpOk I1 (H':=Q) (sN n) (I1.hok.fresh (sN n))
         have:c=f.heap.objs.size+4\/c=f.heap.objs.size+2\/c=f.heap.objs.size+3\/c=f.heap.objs.size\/c=f.heap.objs.size+1:=by simpa using hc
         rcases this with rfl|rfl|rfl|rfl|rfl
         .exact F 4
         .exact F 2
         .exact F 3
         .exact F 0
         .exact F 1
        .refine M U1 Q _ (Le.refl _ _) O ?_;intro U' H' h2 i l a0 ok;obtain⟨S,L,ar⟩:=a8 U' H' h2 l a0 (λp hp=>ok p (Hd _ hp));obtain⟨P,E,an⟩:=b0 U' H' h2 l a0 (λp hp=>ok p (vn _ hp));refine⟨λa3=>?_,λa3=>⟨S,P,L,E,?_⟩⟩
         .rw[rB]at a3;have b5:bm[i]?=J (bm[i]'(by ext)):=vE (by ext);have cc:a7[i]?=J (a7[i]'(by ext)):=vE (by ext);obtain⟨w1,a6,c3⟩:=ar.get b5;obtain⟨w2,b6,c5⟩:=an.get cc;refine⟨⟨S,P,w1,w2,L,E,a6,b6⟩,λx' H3 ⟨pp,y1,y2,hp,e1,e2,as,aF⟩=>?_⟩;subst e1;subst e2;have cp:y1=w1:=by
           have:=as S L
           rw[a6]at this;exact(Option.some.inj this).symm
          have cs:y2=w2:=by
           have:=aF P E
           rw[b6]at this;exact(Option.some.inj this).symm
          subst cp;subst cs;obtain⟨ck,l3⟩:=a0.tup hp [y1,y2];exact⟨U',_,l3,ck,yu b5 cc,.tup (SqT.of aR) (.cons (c3.le l3) (.cons (c5.le l3) .nil))⟩
         .rw[rB]at a3;have a1:=ar.length;have a2:=an.length;ext
end
end MM
namespace MM
open PySem.Spec PyProof.Rows L2 SetT SortT
def lg:QL->Option (QN)
 |[]=>J []
 |.int i::r=>(lg r).map (i::·)
 |_=>Y
def gG(l:QN):QN:=l.mergeSort λa b=>decide (a<=b)
def iO(l:QN):(gG l).Perm l:=List.mergeSort_perm _ _
def mR(l:QN):(gG l).Pairwise (·<=·):=by
 have:=List.pairwise_mergeSort (le:=λa b:Int=>decide (a<=b)) (λa b c i f=>by
   simp only[decide_eq_true_eq]at i f ⊢;lia) (λa b=>by
   lia)
 unfold gG
 simp_all
def jh{l m:QN}(i:l.Pairwise (·<=·))(f:m.Pairwise (·<=·))(p:l.Perm m):l=m :=
 List.Perm.eq_of_pairwise (λa b _ _ x y=>by lia) i f p
def uw:∀{xs:QL}{k:QN},lg xs=J k->xs=k.map .int
 |[],k,h=>by cases h;rfl
 |x::r,k,h=>by
  cases x with
  |int i =>
   unfold lg at h
   cases hr:lg r with
   |none=>rw[hr]at h;cases h
   |some a =>
    rw[hr]at h;cases h;rw[uw hr];rfl
  |_=>cases h
def va(xs:QL)(h:MH):QX:=match xs with
 |[x]=>(match iL h x with
  |some ys=>(match lg ys with
   |some ns=>if ns.length<64 then .ok (.loc h.length) (h++[.lst ((gG ns).map .int)])else .bad
   |none=>.bad)
  |none=>.bad)
 |_=>.bad
def re:∀{ns:QN}{a:QS},aK (ns.map V.int) a->IntsAre a ns
 |[],_,h=>by cases h;exact .nil
 |i::k,_,h=>by
  cases h with
  |cons r t =>
   obtain⟨tk,rfl⟩:=r;exact .cons i tk (re t)
def sG:∀{ns:QN}{a:QS},IntsAre a ns->aK (ns.map V.int) a
 |_,_,.nil=>.nil
 |_,_,.cons n t h=>.cons ⟨t,rfl⟩ (sG h)
section
variable{X:Cx}{N W G:QM}{k:Nat}
def rP:cU X (.builtin "sorted") (λxs H Q=>∃l ns,xs=[.ref l]/\SqL X.K H l (ns.map V.int)/\ns.length<64/\∀B,H B=Y->Q (.ref B) (l_ H B (.lst ((gG ns).map V.int)))):=by
 intro JB s Z H xs us Q f r ⟨l,ns,e,hq,hz,q⟩;subst e;obtain⟨u,rfl,L⟩:=gN r;cases L;obtain⟨a,F,pl,P⟩:=f.list hq;have y:=F.length;rw[v4]at y;refine sorted_ints pl.isList (re F) ⋯ λj M S R O=>?_;have e:=jh O (mR ns) (R.trans (iO ns).symm);subst e;have C:((s.heap.push (seqObj "list" #[] 0)).update s.heap.objs.size (Obj.mapSeq (·++a.toArray))).objs.size=s.heap.objs.size+1:=by rw[Heap.size_update,size_push']
 have z:(((s.heap.push (seqObj "list" #[] 0)).update s.heap.objs.size (Obj.mapSeq (·++a.toArray))).push (seqObj "list" a.toArray 0)).get? (s.heap.objs.size+1)=J (seqObj "list" a.toArray 0):=by rw[<-C];exact wr _ rfl
 obtain⟨c,U⟩:=nE z j;refine⟨.ref (s.heap.objs.size+1),_,f.laid (o:=.lst ((gG ns).map V.int)) (t':=s.toks) (λb o E=>?_) (Ey _) (⟨?_,j.toList,c,sG S,?_⟩),rfl,q _ (f.hok.fresh (Ey _))⟩
 .have i:=pj E;refine mI (vR (L4 i)) ?_ _;refine n3 _ ?_;rw[HQ _ _ _ _ (vR i)];exact n3 _ E
 .rw[v4,(iO ns).length_eq,sizeLine_eq];lia
 .unfold sortedAll;rw[U]
def pS:cK X (.builtin "sorted") va:=by
 intro L s Z H xs F Q C r ⟨U,h,S,i,rp,q⟩
 cases rp with
 |nil=>exact q.elim
 |@cons x y _ _ O P =>
  cases P with
  |cons _ _=>exact q.elim
  |nil =>
   unfold va at q;dsimp only at q
   cases hl:iL h x with
   |none=>rw[hl]at q;exact q.elim
   |some E =>
    rw[hl]at q;dsimp only at q;obtain⟨R,ys,rfl,a,f⟩:=Ca i O hl
    cases j:lg E with
    |some ns =>
     rw[j]at q;dsimp only at q;by_cases z:ns.length<64
     .rw[e_ z]at q;rw[uw j]at f;rw[DM f]at a;refine rP L s Z H _ F Q C r ⟨R,ns,rfl,a,z,λl B=>?_⟩;obtain⟨u,M⟩:=i.new B (o:=.lst ((gG ns).map .int)) ⟨_,rfl,RPs.ints _⟩;exact q _ _ _ M u (.loc (by rw[<-i.len];simp))
     .rw[hI z]at q;exact q.elim
    |none=>rw[j]at q;exact q.elim
end
def Cd:Aj X b (λ_ _=>.bad):=λi s Z H D a ⟨U,f,h,j,l,q⟩=>q.elim
end MM
namespace MM
open PySem.Spec PyProof.Rows L2
end MM
namespace MM
open PySem.Spec PyProof.Rows L2 SetT SortT
section
variable{h:MH}{i:Int}{xs:QL}{n:Nat}
def pN(e:h[n]?=J (.lst xs)):cS h (.loc n)=J xs:=by simp[cS,e]
def lm(e:h[n]?=J (.lst xs))(hl:xs.length<=1000):qx [.loc n] h=.ok (.loc h.length) (h++[.lst xs]):=by simp[qx,pN e,gR hl]
def gS(e:h[n]?=J (.lst xs))(hl:xs.length<1000):cV n [v] h=.ok .non (h.set n (.lst (xs++[v]))):=by
 have z:1000<=sizeLine:=by decide
 simp only[cV,e];rw[e_ ⋯]
def vb(em:m Z h=.ok (.loc n) h1)(e:h1[n]?=J (.lst xs)):AW f m ma Z h=(ma Z h1).bind λa j=>(f n a j).ne:=by simp_all
def sW:∀(m:Nat),j7 (List.replicate m (.bl I))=J (List.replicate m I)
 |0=>rfl
 |m+1=>by
  rw[He];unfold j7;rw[sW m];rfl
def wt(e:h[n]?=J (.lst (List.replicate m (.bl I)))):AJ [.loc n] h=.ok (.bl I) h:=by simp[AJ,pN e,sW]
end
def itR1'(em:m Z h=.ok [.int j] h1)(z:-(2^62)<=j/\j<2^62):cQ m Z h=.ok ⟨bH 0 j.toNat,[]⟩ h1:=by simp_all
def FI(em:m Z h=.ok [.int (n:Int)] h1)(f:n<=100000):cQ m Z h=.ok ⟨bH 0 n,[]⟩ h1:=by
 have z1:-(2^62)<=(n:Int):=Int.le_trans (by decide) (Int.natCast_nonneg n);have a:(n:Int)<2^62:=Int.lt_of_le_of_lt (Int.ofNat_le.mpr f) (by decide)
 have:=itR1' em ⟨z1,a⟩
 rwa [Br]at this
def mQ:∀(k:QN),PyData.canLayAll0 (k.map .int)=I/\PyData.depthAll (k.map .int)<=1
 |[]=>⟨rfl,by simp[PyData.depthAll]⟩
 |i::k=>by
  obtain⟨a,b⟩:=mQ k;constructor
  .simp[PyData.canLayAll0,PyData.canLay0,a]
  .simp only[n_,PyData.depthAll,PyData.depth];lia
end MM
namespace MM
open PySem.Spec PyProof.Rows L2
def mD(h:MH):PV->Option Bool
 |.non=>J T
 |.bl b=>J b
 |.int i=>J (i != 0)
 |.str _=>Y
 |.tup xs=>J (!xs.isEmpty)
 |.frl xs=>J (!xs.isEmpty)
 |.loc n=>match h[n]? with
  |some (.lst xs)=>J (!xs.isEmpty)
  |_=>Y
def O4(m:Mx PV):Mx Bool:=λZ h=>(m Z h).bind λv a=>match mD a v with
 |some b=>.ok b a
 |none=>.bad
section
variable{X:Cx}{N W G:QM}{k:Nat}
def lb{K:hH}{U:QR}{H:Hp}{xs:QL}{ys:List V}(r:RPs K U H xs ys):(!xs.isEmpty)=!ys.isEmpty:=by cases r<;>rfl
def FJ{e:Expr}{m:Mx PV}(h:ME X e m)(R:∀l,isTrue e X.env l=(do let v <-l;standAt e.pos;holding [v] (truthy v)):=by intro _;rfl):MT X e (O4 m):=by
 refine PT.imp (zQ h R) λZ H Q ⟨U,B,h,O,M,q⟩=>⟨U,B,h,O,M,Ful.bind q λu y x x' h1 _ l1 f L j=>?_⟩
 cases L with
 |non=>exact⟨T,rfl,j u y _ (Le.refl _ _) f rfl⟩
 |bl b=>exact⟨b,rfl,j u y _ (Le.refl _ _) f rfl⟩
 |int i=>exact⟨_,rfl,j u y _ (Le.refl _ _) f rfl⟩
 |str i=>exact j.elim
 |@tup xs a ys s r=>exact⟨_,.inr (.inl ⟨ys,s,rfl⟩),by rw[<-lb r];exact j u y _ (Le.refl _ _) f rfl⟩
 |@frl xs a ys s r=>exact⟨_,.inl ⟨ys,s.sq,rfl⟩,by rw[<-lb r];exact j u y _ (Le.refl _ _) f rfl⟩
 |@loc n a e =>
  obtain⟨o,C,E⟩:=f.obj e
  cases o with
  |lst xs =>
   obtain⟨ys,F,P⟩:=E;simp only[mD,C]at j;exact⟨_,.inl ⟨ys,.inl (.inl F),rfl⟩,by rw[<-lb P];exact j u y _ (Le.refl _ _) f rfl⟩
  |dic fz S xs=>simp only[mD,C]at j;exact j.elim
  |exc z=>simp only[mD,C]at j;exact j.elim
end
end MM
namespace MM
open PySem.Spec PyProof.Rows L2 PySem.W
end MM
namespace DcT
open PyProof.Rows
section
variable{prog:Program}{w:World}{A:Around}{E:QZ}{s:Shared}
def v7:typeLookup (.type "tuple") "keys"=pure Y:=by rw[typeLookup_type,builtinLookup_eq_fast];kernel_rfl
def wn(u:s.heap.get? a=J o)(L:o.cls=.type "tuple")(f:o.data=.seq xs k)(hd:o.dict=Y)(B:A.handled=Y)(h:∀l tk e,Heap.NewExcOf s.heap l e "AttributeError"->Q Y { s with heap:=l,toks:=tk}):wpAny (model prog w) A (getAttr? (.ref a) "keys") Q E s:=by
 obtain⟨c,C,z,G⟩:=o;subst L f hd;obtain⟨H,g,d,tk,os⟩:=s;have y:∀j,(⟨H,g,d,j,os⟩:Shared).TypeIs (.ref a) "tuple":=λ_=>⟨_,u,rfl⟩;have P:=sub_AttributeError;have S:=F.slot_tuple_getattribute.lookup;have R:=F.slot_tuple_getattribute.bind (.ref a);have O:=am_tuple_getattr_none;unfold getAttr? getAttrBy? getAttrBy
 repeat (any_goals (first | assumption | exact y _ | ((with_reducible show wpAny _ _ (call (Value.builtin "tuple.__getattribute__") _ _) _ _ _);refine call_meets F.slot_tuple_getattribute (y _) am_entry_tuple_getattribute (F.args_tuple_getattribute_2 _ _) (meets_getattribute_miss_tuple a xs k G "keys" _ v7 (by decide +kernel) (by decide)) ⟨u,B,λl j e i=>?_⟩)|wp_step))
 obtain⟨M,U,W⟩:=i.there;show wpAny _ _ (getattributeRaised _ _ _ _ _ _ _) _ _ _;unfold getattributeRaised
 repeat (any_goals (first | assumption | wp_step))
 exact h _ _ _ i.of
def mf:entryFor table "dict.update.loop"=J Builtin.«dict.update.loop»:=entryFor_of_tree (by kernel_rfl)
def gf:plainId "dict.update.loop"=I:=by decide +kernel
def FK(a h:Heap):Prop:=∀b o,a.get? b=J o->h.get? b=J o
def iW{h i:Heap}{d:Addr}{a:List (Int×Value)}(f:h.DictOf (intKind prog w) d a)(hd:∀o,h.get? d=J o->i.get? d=J o):i.DictOf (intKind prog w) d a:=by obtain⟨o,l,u,j,r⟩:=f;exact⟨o,l,u,hd o j,r⟩
def wc{a:List (Int×Value)}{k:Int}{v:Value}(h:k∉a.map (·.1)):stored a k v=a++[(k,v)]:=by unfold stored;rw[hI];intro z;rw[List.any_eq_true]at z;obtain⟨x,f,e⟩:=z;exact h (tf.mpr ⟨x,f,by simpa using e⟩)
def Jo{R:Result->Shared->Prop}{y:Addr}{fp O:QR}{G:Array GenState->Array GenState->Prop}{n:Nat}{P:Nat->Value->Prop}{St:Nat->Shared->Prop}(W:WalksS prog w A.in1 y fp O G n P St)(d:Addr)(ar:d∉fp){H0:Heap}(a6:H0.get? d=Y)(a2:∀b∈O,H0.get? b=Y)(f:List (Int×Value))(hn:f.length=n)(b3:n<=sizeLine)(nd:(f.map (·.1)).Nodup)(ap:∀i v u,P i v->f[i]?=J u->∃a t,v=.ref a/\H0.IsTuple a #[.int u.1 t,u.2]):
  ∀(c i:Nat)(s:Shared)(j:Int)(tj:Tok),n-i=c->i<=n->St i s->FK H0 s.heap->s.heap.DictOf (intKind prog w) d (f.take i) ->
   (∀l,Moved (d::O) G s l->FK H0 l.heap->l.heap.DictOf (intKind prog w) d f->R (.ok (.ret .none)) l) ->
   codeAny (model prog w) A (.builtin "dict.update.loop" ⟨[.ref d,.ref y,.int j tj,.none],[]⟩) R s:=by
 have ai:d∉O:=λh=>ar (W.sub _ h);have C:∀b∈O,b∈d::O:=λb L=>p5 _ L;have F:∀{s l:Shared},Moved O G s l->FK H0 s.heap->FK H0 l.heap:=λ{s l} B x b o e =>
  B.heap b o (λL=>by rw[a2 b L]at e;cases e) (x b o e)
 intro c
 induction c with
 |zero =>
  intro i s j tj hc hi U hx hT M;have e:i=n:=by lia
  subst e;refine codeAny_builtin mf ?_;rw[Around.under_plainId gf _];show wpAny _ A.in1 (pyNext (.ref y) >>= _) _ _ s;refine g_ (W.done s _ _ U λl B=>?_);show wpAny _ A.in1 (Builtin.Dict.addKeywords d [] >>= λ_=>ret Value.none) _ _ l;rw[<-hn,List.take_length]at hT;refine g_ ?_;show wpAny _ A.in1 (pure ()) _ _ l;exact oh (oh (M l (B.mono C) (F B hx) (iW hT λo e=>B.heap d o ai e)))
 |succ c ih =>
  intro i s j tj hc hi U hx hT M;have an:i<n:=by lia
  refine codeAny_builtin mf ?_;rw[Around.under_plainId gf _];show wpAny _ A.in1 (pyNext (.ref y) >>= _) _ _ s;refine g_ (W.item i s _ _ an U λv l hP Z B=>?_);obtain⟨u,hk⟩:∃k,f[i]?=J k:=⟨_,vE ⋯⟩;obtain⟨a,t,rfl,ha⟩:=ap i v u hP hk;have aF:=F B hx;have a3:=iW hT (λo e=>B.heap d o ai e);obtain⟨oa,a8,S,na,ab⟩:=ha;have a0:=aF a oa a8;have b0:l.TypeIs (.ref a) "tuple":=⟨oa,a0,S⟩;dsimp only;refine g_ (wpAny_holding (g_ ?_));have H:∀(Q:QS->Shared->Prop) (E:QZ),Q [.int u.1 t,u.2] l->wpAny (model prog w) A.in1 (Builtin.Dict.pairItems (.ref a)) Q E l:=λQ E q=>by
   unfold Builtin.Dict.pairItems;refine g_ (wpAny_typeOf b0 ?_);obtain⟨b7,g',d',b4,b6⟩:=l;obtain⟨oc,od,b2,b1⟩:=oa;simp only at S ab;subst S ab;rw[e_ (by decide)]
   repeat (any_goals (first | assumption | wp_step))
  refine wpAny_tryCatch (H _ _ ?_);dsimp only;have as:(f.take i).length<=sizeLine:=by rw[Eu];lia
  have ak:u.1∉(f.take i).map (·.1):=λz=>by
   obtain⟨x,a4,ex⟩:=tf.mp z;obtain⟨q,X⟩:=LS.mp a4;rw[List.getElem?_take]at X
   split at X
   .rename_i b5
    have e1:(f.map (·.1))[q]?=J u.1:=by rw[u_,X];simp[ex]
    have e2:(f.map (·.1))[i]?=J u.1:=by rw[u_,hk];rfl
    have l1:q<(f.map (·.1)).length:=(qi.mp e1).1
    have:=(Hg l1 nd).mp (e1.trans e2.symm)
    lia
   .cases X
  have a7:f.take (i+1)=f.take i++[u]:=by rw[List.take_succ,hk];rfl
  refine wpAny_holding (wpAny_dictSet_pairs (knd:=intKind prog w) (k:=u.1) (intKind_is prog w u.1 t) a3 (λh' hD sb=>?_) as);rw[wc ak,show f.take i++[(u.1,u.2)]=f.take (i+1)from a7.symm]at hD;have a9:FK H0 h':=λq o e=>by
   have X:q≠d:=by rintro rfl;rw[a6]at e;cases e
   exact(sb.2 q X).trans (aF q o e)
  refine oh ⟨plainId_quiet gf _,ih (i+1) _ _ _ ⋯ an (W.frame _ l _ _ Z (Ey _) λb L o e=>(sb.2 b (λq:b=d=>ar (by rw[<-q];exact L))).trans e) a9 hD λbm al a5 a1=>?_⟩;refine M bm (Moved.trans W.gtrans ((B.mono C).then_heap (Ey _) λb o L e=>?_) al) a5 a1;exact(sb.2 b (λq:b=d=>L (by rw[q];exact Et))).trans e
set_option maxHeartbeats 3200000 in
theorem nA{a:Addr}{items:Array Value}{kvs:List (Int×Value)}{Q:QZ}(hh:A.handled=Y)(ha:∃o k,s.heap.get? a=J o/\o.cls=.type "tuple"/\o.data=.seq items k/\o.dict=Y)(hn:kvs.length=items.size)(ai:items.size<=sizeLine)(nd:(kvs.map (·.1)).Nodup)(H:∀(i:Nat) v W,items[i]?=J v->kvs[i]?=J W->∃b t,v=.ref b/\s.heap.IsTuple b #[.int W.1 t,W.2])(h:∀(R:Heap) (tk:Nat),R.DictOf (intKind prog w) s.heap.objs.size kvs->FK s.heap R->Q (.ref s.heap.objs.size) { s with heap:=R,toks:=tk}):
  wpAny (model prog w) A (call (.type "dict") [.ref a]) Q E s:=by
 refine callType_codes (Q₁:=λobj y=>obj=.ref s.heap.objs.size/\y={ s with heap:=s.heap.push { cls:=.type "dict",data:=.dict #[]}}) F.kt_called_dict (F.kt_typeCall_dict_1 _) F.entry_dict_init (kt_code_dict_new _ ⟨rfl,rfl⟩) ?_;rintro obj y ⟨rfl,rfl⟩;have f:(s.heap.push { cls:=.type "dict",data:=.dict #[]}).DictOf (intKind prog w) s.heap.objs.size []:=Heap.DictOf.new s.heap;refine⟨f.typeIs,F.args_dict_init_2 _ _,?_⟩;unfold Builtin.«dict.__init__»;refine g_ ?_;unfold Builtin.Dict.selfAndRest;refine g_ (wpAny_notOrdered_dict f.typeIs ?_);show wpAny _ _ (pure (s.heap.objs.size,[Value.ref a])) _ _ _;refine oh ?_;show wpAny _ _ (Builtin.Dict.updateFrom "dict.__init__" s.heap.objs.size (.ref a) [] .none) _ _ _;unfold Builtin.Dict.updateFrom;obtain⟨L,ka,l,B,O,Z⟩:=ha;have u:(s.heap.push { cls:=.type "dict",data:=.dict #[]}).get? a=J L:=n3 _ l;have G:A.in1.in1.handled=Y:=by simp[hh]
 refine g_ (wpAny_typeOf (T:="tuple") ⟨L,u,B⟩ ?_);rw[e_ (by decide)];refine g_ (wn u B O Z G λz al e hx=>?_);rw[e_ (by rfl)];have x1:FK s.heap z:=λb o eb=>hx.keeps b o (n3 _ eb);have M:z.DictOf (intKind prog w) s.heap.objs.size []:=iW f λo X=>hx.keeps _ o X;have P:z.IsTuple a items:=⟨L,x1 a L l,B,ka,O⟩;refine g_ (wpAny_rule (g_ (wpAny_pyIter_tuple (s:={ s with heap:=z,toks:=al}) P ?_)));have C:s.heap.objs.size<z.objs.size:=by obtain⟨o,_,_,ho,_⟩:=M;exact pj ho
 have S:a<z.objs.size:=pj (x1 a L l);have has:a<s.heap.objs.size:=pj l;have j:∀b,s.heap.objs.size<=b->s.heap.get? b=Y:=λb hb=>by
  cases e:s.heap.get? b with
  |none=>rfl
  |some o=>exact absurd (pj e) (Nat.not_lt.mpr hb)
 refine oh ⟨plainId_quiet gf _,?_⟩
 refine Jo (A:=A.in1) (H0:=s.heap) ((Walks.tuple (A:=A.in1.in1) G z.objs.size a (vR S) items).toS) s.heap.objs.size (by simp only[p_,Dw,or_false,not_or];exact⟨vR C,AB has⟩) (j _ (mu _)) (λb hb=>by
   have:b=z.objs.size:=by simpa using hb
   rw[this];exact j _ (Hl C)) kvs hn ai nd H items.size 0 _ 0 0 ⋯ (Hn _) ⟨⟨_,wr _ rfl,rfl,rfl⟩,P.push _⟩ (λb o e=>n3 _ (x1 b o e)) (iW M λo e=>n3 _ e) ?_
 intro s' U an ak;obtain⟨R,g',d',ap,ab⟩:=s';have eg:g'=s.gens:=U.gens;have ed:d'=s.drawn:=U.drawn;have X:ab=s.os:=U.os;subst eg;subst ed;subst X;exact⟨rfl,h R ap ak an⟩
end
end DcT
namespace MM
open PySem.Spec PyProof.Rows L2 DcT
section
variable{X:Cx}{N W G:QM}{k:Nat}
local instance inhPV:Inhabited PV:=⟨.non⟩
def ip:QL->Option (List (Int×PV))
 |[]=>J []
 |.tup [.int k,v]::r=>(ip r).map ((k,v)::·)
 |_=>Y
def Jp(x:PV):Option (List (Int×PV)):=match x with
 |.tup f=>(match ip f with
  |some a=>if(a.map (·.1)).Nodup then J a else Y
  |none=>Y)
 |_=>Y
def vp{K:hH}{U:QR}{H:Hp}:∀{xs:QL}{ys:List V}{y:QS}{a:List (Int×PV)},RPs K U H xs ys->aK ys y->ip xs=J a ->
  xs.length=a.length/\∀(i:Nat) u f,y[i]?=J u->a[i]?=J f->∃b w,u=.ref b/\SqT K H b [.int f.1,w]/\RP K U H f.2 w:=by
 intro xs
 induction xs with
 |nil =>
  intro ys y a r v e;cases r;cases v;cases e;exact⟨rfl,λi u f h=>by simp at h⟩
 |cons x xs L =>
  intro ys y a r v e
  cases r with
  |cons P F =>
   cases v with
   |cons Q E =>
    unfold ip at e
    split at e
    .rename_i h;cases h
    .rename_i S R Z h
     injection h with l j
     subst l j;rw[As]at e;obtain⟨z,e1,rfl⟩:=e;obtain⟨hl,hv⟩:=L F E e1;refine⟨by simp[hl],λi u f l j=>?_⟩
     cases i with
     |zero =>
      simp at l j;subst l j
      cases P with
      |tup sq rp =>
       cases rp with
       |cons C B=>cases B with
        |cons O M =>
         cases M;cases C;exact⟨_,_,Q,sq,O⟩
     |succ i =>
      exact hv i u f l j
    .cases e
def oi(K:hH)(x:Str)(i j:Int):Prop:=∃(a:Addr) (t f:Tok) (n:Nat) (l:Array (QU)),PySem.W.nsIn K mainGlobals x=J (J (.ref a))/\K.lookup a=J ⟨.type "tuple",Y,.seq #[.int i t,.int j f] n,l⟩
def ng(K:hH)(mg:A4)(x:Str)(i j:Int):Prop:=∃(a:Addr) (t f:Tok) (n:Nat) (l:Array (QU)),mg x=J (.ref a)/\K.lookup a=J ⟨.type "tuple",Y,.seq #[.int i t,.int j f] n,l⟩
def Ce{K:hH}{x:Str}{i j:Int}{a:Addr}{t f:Tok}{n:Nat}{u:Array (QU)}(h:PySem.W.nsIn K mainGlobals x=J (J (.ref a)))(l:K.lookup a=J ⟨.type "tuple",Y,.seq #[.int i t,.int j f] n,u⟩):oi K x i j:=⟨a,t,f,n,u,h,l⟩
def oi.mg{K:hH}{mg:A4}{base:Heap}{x:Str}{i j:Int}(z:oi K x i j)(kin:K.In base)(ns:base.Ns mainGlobals mg):ng K mg x i j:=by obtain⟨a,t,f,n,u,h,l⟩:=z;exact⟨a,t,f,n,u,PySem.W.mg_of kin ns h,l⟩
def wo(g:Good X N W G k){x:Str}{q:Nat}{i j:Int}{l:Pos}(u:G[q]?=J x)(f:ng X.K X.mg x i j):ME X (.Name x l) (mC (.tup [.int i,.int j])):=by obtain⟨a,t,y,n,C,f,hl⟩:=f;have d:=g.dbg x (vn _ (aL u));exact PE.imp (BF (v:=.ref a) (g.gl x (aL u)) f rfl d.1) λZ H Q ⟨U,z,h,E,B,q⟩=>q U H _ (Le.refl _ _) B (.tup (ys:=[.int i,.int j]) (.inr ⟨_,_,n,hl,rfl,⟨rfl,rfl⟩,by show 2<=sizeLine;decide,.cons ⟨t,rfl⟩ (.cons ⟨y,rfl⟩ .nil)⟩) (.cons (.int _) (.cons (.int _) .nil)))
end
end MM
namespace MM
open PySem.Spec PyProof.Rows L2
end MM
namespace MM
open PySem.Spec PyProof.Rows L2 SetT SortT
end MM
namespace MM
open PySem.Spec PyProof.Rows L2 DcT
def Cf(a:List (rg×V))(k:rg):Option V:=(a.find? λf=>decide (f.1=k)).map (·.2)
def KV.val{a:List (rg×V)}{f:List (rg×Value)}(r:KV a f)(k:rg):gE (Cf a k) (valueAt f k):=by
 induction r with
 |nil=>exact True.intro
 |@cons p q u y h t i =>
  obtain⟨l,j⟩:=h;unfold Cf valueAt at *;rw[K4,K4,<-l];by_cases e:p.1=k
  .simp only[e];exact j
  .simp only[e];exact i
def FL{a:List (rg×V)}{f:List (rg×Value)}(r:KV a f):a.length=f.length:=by
 induction r with
 |nil=>rfl
 |cons h t i=>simp[i]
def s_(a:QN)(xs:List α)(i:Int):Option α:=match a,xs with
 |k::a,x::xs=>if k=i then J x else s_ a xs i
 |_,_=>Y
def il(a:QN)(xs:List α)(i:Int)(v:α):QN×List α:=match a,xs with
 |k::a,x::xs=>if k=i then(k::a,v::xs)else(k::(il a xs i v).1,x::(il a xs i v).2)
 |_,_=>([i],[v])
def zM{a:QN}{xs:List α}{i:Int}{v:α}(h:xs.length=a.length):(il a xs i v).2.length=(il a xs i v).1.length/\(il a xs i v).1.length<=a.length+1:=by
 induction a generalizing xs with
 |nil=>simp[il]
 |cons k a f =>
  cases xs with
  |nil=>simp at h
  |cons x xs =>
   simp at h;unfold il;split
   .simp[h]
   .simp_all
def qW{a:QN}{ys:List V}{i:Int}(h:ys.length=a.length):Cf (kz a ys) (.inl i)=s_ a ys i:=by
 induction a generalizing ys with
 |nil=>cases ys<;>rfl
 |cons k a f =>
  cases ys with
  |nil=>simp at h
  |cons y ys =>
   have:=f (by simpa using h)
   unfold kz Cf at *;rw[n_,List.zip_cons_cons,K4,s_];by_cases e:k=i
   .simp[e]
   .simp only[show ¬(Sum.inl k:rg)=.inl i from λz=>e (by cases z;rfl),hI e];exact this
def fj{a:List (rg×Value)}{i:rg}:a.any (λf=>decide (f.1=i))=I↔i∈a.map Prod.fst:=by simp
def FM{a:QN}{ys:List V}{j:List (rg×Value)}{i:Int}{y:V}{u:Value}(h:ys.length=a.length)(nd:(j.map (·.1)).Nodup)(r:KV (kz a ys) j)(E:aO y u):
  KV (kz (il a ys i y).1 (il a ys i y).2) (stored j (.inl i) u):=by
 induction a generalizing ys j with
 |nil =>
  have:j=[]:=by cases ys<;>cases r<;>rfl
  subst this;exact .cons ⟨rfl,E⟩ .nil
 |cons k a f =>
  cases ys with
  |nil=>simp at h
  |cons z ys =>
   have H:ys.length=a.length:=by simpa using h
   cases r with
   |@cons _ q _ l G t =>
    obtain⟨M,L⟩:=q;obtain⟨e1,e2⟩:=G;cases e1;rw[n_,vL]at nd;have f:=f H nd.2 t;unfold stored at *;unfold il;by_cases e:k=i
    .subst e;rw[e_ rfl,e_ (fj.mpr (by simp))];refine .cons ⟨by simp,by simp[E]⟩ ?_
     have:(l.map λB=>if B.1=(Sum.inl k:rg)then(B.1,u)else B)=l:=by
      conv=>rhs;rw[<-List.map_id l]
      refine A2 λx F=>?_;rw[hI]
      .rfl
      .intro z;exact nd.1 (tf.mpr ⟨x,F,z⟩)
     rw[this];exact t
    .have C:¬(Sum.inl k:rg)=.inl i:=λz=>e (by cases z;rfl);rw[hI e];by_cases m:(Sum.inl i:rg)∈l.map Prod.fst
     .rw[e_ (fj.mpr m)]at f;rw[e_ (fj.mpr (p5 _ m))];exact .cons ⟨by simp[C],by simp[C,e2]⟩ f
     .rw[hI (λz=>m (fj.mp z))]at f;rw[hI (λz=>(p_.mp (fj.mp z)).elim (λz=>C z.symm) m)];exact .cons ⟨rfl,e2⟩ f
section
variable{K:hH}{U:QR}{H:Hp}
def oC{ks:QN}{xs:QL}{ys:List V}(r:RPs K U H xs ys)(i:Int):match s_ ks xs i with
  |some x=>∃y,s_ ks ys i=J y/\RP K U H x y
  |none=>s_ ks ys i=Y:=by
 induction ks generalizing xs ys with
 |nil=>cases xs<;>cases ys<;>rfl
 |cons k ks f =>
  cases r with
  |nil=>rfl
  |cons a t =>
   unfold s_;by_cases e:k=i
   .simp only[e_ e];exact⟨_,rfl,a⟩
   .simp only[hI e];exact f t
def yq{ks:QN}{xs:QL}{ys:List V}{v:PV}{y:V}(r:RPs K U H xs ys)(q:RP K U H v y)(i:Int):(il ks xs i v).1=(il ks ys i y).1/\RPs K U H (il ks xs i v).2 (il ks ys i y).2:=by
 induction ks generalizing xs ys with
 |nil=>exact⟨by simp[il],by simpa using .cons q .nil⟩
 |cons k ks f =>
  cases r with
  |nil=>exact⟨rfl,.cons q .nil⟩
  |cons a t =>
   unfold il;by_cases e:k=i
   .simp only[e_ e];exact⟨trivial,.cons q t⟩
   .simp only[hI e];obtain⟨l,j⟩:=f t;exact⟨by rw[l],.cons a j⟩
end
def cy(h:MH)(y:PV):Option (Bool×QN×QL):=match y with
 |.loc n=>(match h[n]? with
  |some (.dic fz a xs)=>J (fz,a,xs)
  |_=>Y)
 |_=>Y
def jp{X:Cx}{U:QR}{H:Hp}{h:MH}{x:PV}{y:V}{fz:Bool}{i:QN}{xs:QL}(B:RH X.K X.mg U H h)(r:RP X.K U H x y)(e:cy h x=J (fz,i,xs)):
  ∃n a ys,x=.loc n/\U[n]?=J a/\y=.ref a/\h[n]?=J (.dic fz i xs)/\ys.length=i.length/\RPs X.K U H xs ys/\dO fz (H a) (.dK (kz i ys)):=by
 cases r with
 |@loc n a l =>
  obtain⟨o,j,u⟩:=B.obj l;unfold cy at e;dsimp only at e;rw[j]at e
  cases o with
  |dic f k z =>
   cases e;obtain⟨ys,e1,e2,e3⟩:=u;exact⟨n,a,ys,rfl,l,rfl,j,e1,e2,e3⟩
  |_=>cases e
 |_=>cases e
def qM(a:Bool)(x y:PV)(h:MH):QX:=match x,cy h y with
 |.int i,J (_,f,xs)=>.ok (.bl (if a then !(s_ f xs i).isSome else(s_ f xs i).isSome)) h
 |_,_=>.bad
def lJ(x y:PV)(h:MH):QX:=match y,cy h x with
 |.int i,J (_,a,xs)=>Out.ofO (s_ a xs i) h
 |_,_=>.bad
section
variable{X:Cx}{N W G:QM}{k:Nat}
def zP{K:hH}{U:QR}{H:Hp}{f:QN}{xs:QL}{ys:List V}{l:List (rg×Value)}{i:Int}(hl:ys.length=f.length)(r:RPs K U H xs ys)(j:KV (kz f ys) l):(s_ f xs i).isSome=(valueAt l (.inl i)).isSome:=by
 have a:=KV.val j (.inl i);rw[qW hl]at a;have b:=oC (ks:=f) r i
 cases e:s_ f xs i with
 |none =>
  rw[e]at b;rw[b]at a;rw[gE.none_of a];rfl
 |some x =>
  rw[e]at b;obtain⟨y,e1,_⟩:=b;rw[e1]at a;obtain⟨u,e2,_⟩:=gE.some_of a;rw[e2];rfl
def yd(f:Bool):y_ X (compareOp (if f then .NotIn else .In)) (qM f):=by
 intro P s Z H x' y' u v Q j E C ⟨U,h,x,y,l,L,M,q⟩;unfold qM at q
 split at q
 .rename_i i fz S xs O
  obtain⟨n,a,ys,rfl,en,rfl,R,hl,B,d⟩:=jp l M O;cases L;obtain⟨t,rfl⟩:=E;cases C;obtain⟨z,hd,vs,F,dd⟩:=lK j.hok d;have e:=zP (i:=i) hl B F
  cases f with
  |false =>
   refine wpAny_in_of (eA _ _ i t) hd dd.mapOf ⟨.bl _,H,j.tok _,rfl,?_⟩;rw[<-e];exact q U H _ (Le.refl _ _) l (.bl _)
  |true =>
   refine wpAny_notIn_of (eA _ _ i t) hd dd.mapOf ⟨.bl _,H,j.tok _,rfl,?_⟩;rw[<-e];exact q U H _ (Le.refl _ _) l (.bl _)
 .exact q.elim
def xp{ea b:Expr}{ma mb:Mx PV}{al:Pos}(ha:ME X ea ma)(hb:ME X b mb)(hs:∀ov S,subscripted b T ov S=operate [ov,S] (getItem ov S):=by exact λ_ _=>rfl):ME X (.Subscript ea b al) (ay lJ ma mb):=by
 intro JB s Z H Q ak ⟨U,f,h,rs,rh,q⟩;refine Subscript_ (j_ (ha JB s Z H (λx' F=>∃l O x,Le U H l F/\RH X.K X.mg l F O/\RP X.K l F x x'/\Ful X (RV' X) f l F ((mb f O).bind λy M=>(lJ x y M).ne) Q) ak ⟨U,f,h,rs,rh,Ful.bind q λl F x x' O _ l1 L rx q1=>⟨l,O,x,l1,L,rx,q1⟩⟩) λu s1 ⟨x',F,I1,r1,l,O,x,l1,L,rx,q1⟩=>j_ (hb JB s1 Z F (λy' E=>∃C M y,Le l F C E/\RH X.K X.mg C E M/\RP X.K C E y y'/\Ful X (RV' X) f C E (lJ x y M).ne Q) I1 ⟨l,f,O,rs.le l1,L,Ful.bind q1 λC E y y' M _ l2 B R j=>⟨C,M,y,l2,B,R,j⟩⟩) λS s2 ⟨y',E,I2,r2,C,M,y,l2,B,R,j⟩=>?_);unfold lJ at j
 split at j
 .rename_i i fz ks xs ed
  obtain⟨n,a,ys,rfl,en,rfl,eo,hl,ab,d⟩:=jp B (rx.le l2) ed;cases R;obtain⟨t,rfl⟩:=r2;cases r1;obtain⟨z,hd,vs,ai,dd⟩:=lK I2.hok d
  cases ex:s_ ks xs i with
  |none=>rw[ex]at j;exact j.elim
  |some x =>
   rw[ex]at j;have b:=oC (ks:=ks) ab i;rw[ex]at b;obtain⟨y,e1,R⟩:=b;have ra:=KV.val ai (.inl i);rw[qW hl,e1]at ra;obtain⟨w',hw,rw'⟩:=gE.some_of ra;have hT:=dd.typeIs;refine g_ ?_;refine g_ (wpAny_specialOf hT PySem.F.slot_dict_getitem.lookup ?_);have fin:wpAny (model X.prog X.w) X.A (subscripted b T (.ref a) (.int i t)) (λr P=>wpAny (model X.prog X.w) X.A (letTemporaryGo ea (.ref a) r >>= λ_=>pure r) (EP X JB Z Q) X.xe P) X.xe s2:=by rw[hs (.ref a) (.int i t)];exact wpAny_operating (wpAny_getItem_of (eA _ _ i t) dd.mapOf hw (g_ (wpAny_letTemporaryGo (oh ⟨y,E,I2.tok _,rw',j C E _ (Le.refl _ _) B R⟩))))
   first
    |exact oh (g_ fin)
 .exact j.elim
def O6(m:Mx PV)(j:Mx (QL)):Mx PV:=λZ h=>(m Z h).bind λx f=>match x,cy f x with
 |.loc n,J _=>(j Z f).bind λu a=>match u,cy a (.loc n) with
  |[.int i,d],J (_,l,xs)=>.ok ((s_ l xs i).getD d) a
  |_,_=>.bad
 |_,_=>.bad
def Cg{u:QT}{Z:L2.St}{H:Hp}{s:Shared}{fz:Bool}{a:Addr}{i:List (rg×V)}(j:Inv X u Z H s)(d:dO fz (H a) (.dK i)):
  s.TypeIs (.ref a) "dict"/\(∀b,Value.ref a=.ref b->∃f,s.heap.get? b=J f/\f.dict=Y)/\(a==sysModules)=T:=by
 obtain⟨_,hd,z,_,dd⟩:=lK j.hok d;refine⟨dd.typeIs,λb q=>?_,hd⟩;cases q;obtain⟨f,_,_,y,l,_⟩:=dd;exact⟨f,y,l.2.1⟩
def Jq{o a b:Expr}{m:Mx PV}{ma:Mx (QL)}{P f:Pos}(he:ME X o m)(ha:MA X [a,b] ma)(ab:attributeBase o "get" X.env (eval o X.env)=eval o X.env:=by rfl)(ap:((backTo f (starEach [a,b] X.env)).all (λx=>!x.1)&&(backToKw f (keywordEach [] X.env)).all (λx=>x.1.isSome)
   && decide ([a,b].length+([]:List Keyword).length+(if([]:List Keyword).isEmpty then 0 else 1)<30))=I:=by rfl)(ak:(P.endLine==f.line)=I:=by rfl)(hs:starEach [a,b] X.env=(T,eval a X.env)::starEach [b] X.env:=by rfl)(l:(backTo f (starEach [b] X.env)).any (·.1)=T:=by rfl):
  ME X (.Call (.Attribute o "get" P) [a,b] [] f) (O6 m ma):=by
 intro JB s Z H Q a5 ⟨U,j,h,rs,rh,q⟩
 refine wpAny_Call_method_late ab ap ak rfl (j_ (he JB s Z H (λx' O=>∃C h1 x,Le U H C O/\RH X.K X.mg C O h1/\RP X.K C O x x'/\Ful X (RV' X) j C O (match x,cy h1 x with
 |.loc n,J _=>(ma j h1).bind λM L=>match M,cy L (.loc n) with
  |[.int i,d],J (_,ks,xs)=>.ok ((s_ ks xs i).getD d) L
  |_,_=>.bad
 |_,_=>.bad) Q) a5 ⟨U,j,h,rs,rh,Ful.bind q λC O x x' h1 _ l1 B rx q1=>⟨C,h1,x,l1,B,rx,q1⟩⟩) λv s1 ⟨x',O,I1,r1,C,h1,x,l1,B,rx,q1⟩=>?_)
 split at q1
 .rename_i n w ew
  obtain⟨_,ad,ys,e0,en,rfl,eo,hl,bm,d⟩:=jp B rx ew;cases e0;cases r1;obtain⟨t1,t2,_⟩:=Cg I1 d;refine⟨"dict","dict.get",PySem.F.plainAttrs_dict,PySem.F.slot_dict_get,PySem.F.type_dict_get,t1,t2,?_⟩
  have hA:=ha f JB s1 Z O (λai E=>∃u L M,Le C O u E/\RH X.K X.mg u E L/\RPs X.K u E M ai/\Ful X (RV' X) j u E (match M,cy L (.loc n) with
   |[.int i,d],J (_,ks,xs)=>.ok ((s_ ks xs i).getD d) L
   |_,_=>.bad) Q) I1 ⟨C,j,h1,rs.le l1,B,Ful.bind q1 λu E M ai L _ l2 F S q2=>⟨u,L,M,l2,F,S,q2⟩⟩
  rw[hs]at hA ⊢;refine Calls.callWith_builtin (by show(T||(backTo f (starEach [b] X.env)).any (·.1))=T;rw[l]<;>rfl) (Calls.evalArgs_plain ?_);refine j_ hA λus s2 ⟨ai,E,I2,r2,u,L,M,l2,F,S,q2⟩=>?_
  split at q2
  .rename_i i dd a9 R al aF
   obtain⟨_,a8,a7,e0,b5,e1,b0,a6,an,d2⟩:=jp F (.loc (l2.get en)) aF;cases e0;cases e1
   cases S with
   |cons a1 a2=>cases a2 with
    |cons a3 a4 =>
     cases a4;cases a1
     cases r2 with
     |cons b1 b2=>cases b2 with
      |@cons _ u3 _ _ b3 b4 =>
       cases b4;obtain⟨t,rfl⟩:=b1;obtain⟨z,hd,M,as,de⟩:=lK I2.hok d2;have ra:=KV.val as (.inl i);rw[qW a6]at ra;have rb:=oC (ks:=R) an i;have fin:∃v',aO v' ((valueAt M (.inl i)).getD u3)/\RP X.K u E ((s_ R al i).getD dd) v':=by
        cases ex:s_ R al i with
        |none =>
         rw[ex]at rb;dsimp only at rb;rw[rb]at ra;rw[gE.none_of ra];exact⟨_,b3,a3⟩
        |some x =>
         rw[ex]at rb;obtain⟨y,e1,ry⟩:=rb;rw[e1]at ra;obtain⟨w',hw,rw'⟩:=gE.some_of ra;rw[hw];exact⟨y,rw',ry⟩
       obtain⟨v',ar,a0⟩:=fin;exact call_meetsIn PySem.F.slot_dict_get de.typeIs PySem.F.entry_dict_get (PySem.F.args_dict_get_3 _ _ _) (meets_dict_get_default (eY X.prog X.w) ad (eA _ _ i t) hd _) ⟨_,de.mapOf,v',E,I2.tok _,ar,q2 u E _ (Le.refl _ _) F a0⟩
  .exact q2.elim
 .exact q1.elim
def jU(mo f mv:Mx PV):nr:=vC mv λv=>vC mo λo=>vC f λi Z h=>match o,i,cy h o with
 |.loc n,.int j,J (T,a,xs)=>if a.length<sizeLine then .nx Z (h.set n (.dic T (il a xs j v).1 (il a xs j v).2))else .bad
 |_,_,_=>.bad
def Ch{o i y:Expr}{mo mi mv:Mx PV}{ab M:Pos}(ho:ME X o mo)(hi:ME X i mi)(hv:ME X y mv)(hs:swapsWith y (J (.Subscript o i M)) ab.line X.env=pure T:=by rfl):
  MS X (.Assign [.Subscript o i M] y ab) (jU mo mi mv):=by
 intro JB s Z H D as ⟨U,f,h,rs,rh,q⟩;unfold jU at q
 have kk:tM X (RV' X) mv Z H (λB H1=>tM X (RV' X) mo Z H1 λo' H2=>tM X (RV' X) mi Z H2 λi' E=>∃C F v o i,RH X.K X.mg C E F/\RS X.K C E f Z/\RP X.K C E v B/\RP X.K C E o o'/\RP X.K C E i i'/\bg X C E (match o,i,cy F o with
  |.loc n,.int j,J (T,l,xs)=>if l.length<sizeLine then .nx f (F.set n (.dic T (il l xs j v).1 (il l xs j v).2))else .bad
  |_,_,_=>.bad) D):=by
  refine⟨U,f,h,rs,rh,?_⟩;unfold vC at q
  cases e:mv f h with
  |exc x h1=>rw[e]at q;exact q
  |bad=>rw[e]at q;exact q
  |ok v h1 =>
   rw[e]at q;intro U1 H1 B O al rv;dsimp only at q;refine⟨U1,f,h1,rs.le O,al,?_⟩
   cases e2:mo f h1 with
   |exc x h2=>rw[e2]at q;exact XP.le (X:=X) (σp:=f) (x:=x) (h:=h2) O q
   |bad=>rw[e2]at q;exact q
   |ok ov h2 =>
    rw[e2]at q;intro U2 H2 o' Q ar ro;dsimp only at q;refine⟨U2,f,h2,(rs.le O).le Q,ar,?_⟩
    cases e3:mi f h2 with
    |exc x F=>rw[e3]at q;exact XP.le (X:=X) (σp:=f) (x:=x) (h:=F) Q (XP.le (X:=X) (σp:=f) (x:=x) (h:=F) O q)
    |bad=>rw[e3]at q;exact q
    |ok iv F =>
     rw[e3]at q;intro C E i' l3 L ri;exact⟨C,F,v,ov,iv,L,((rs.le O).le Q).le l3,(rv.le Q).le l3,ro.le l3,ri,bg.le l3 (bg.le Q (bg.le O q))⟩
 refine wpAny_Assign_Subscript (j_ (hv JB s Z H _ as kk) λr s1 ⟨B,H1,I1,rv,q1⟩=>j_ (ho JB s1 Z H1 _ I1 q1) λu s2 ⟨o',H2,I2,ru,q2⟩=>j_ (hi JB s2 Z H2 _ I2 q2) λiv s3 ⟨i',E,I3,ri,C,F,v,ov,i,L,ai,pv,po,pi,P⟩=>?_) hs
 split at P
 .rename_i n j l xs ed
  obtain⟨_,a,ys,e0,en,rfl,eo,hl,ap,d⟩:=jp L po ed;cases e0;cases pi;obtain⟨t,rfl⟩:=ri;cases ru;by_cases hz:l.length<sizeLine
  .rw[e_ hz]at P;have d':E a=J (.dK (kz l ys)):=d;obtain⟨z,hd,vs,S,dd⟩:=lK I3.hok d;obtain⟨p1,p2⟩:=yq (ks:=l) ap pv j;obtain⟨O,Q⟩:=zM (i:=j) (v:=B) hl;have nd:(vs.map (·.1)).Nodup:=by obtain⟨_,_,_,_,_,_,_,_,nd⟩:=dd;exact nd
   have aF:(kz (il l ys j B).1 (il l ys j B).2).length<=sizeLine:=by unfold kz;rw[List.length_zip,v4];lia
   refine wpAny_setItem_pairs (hsz:=by rw[<-FL S];exact z) (eA _ _ j t) dd λh' R an=>?_;have he:∃q,h'.get? a=J q:=let⟨q,_,_,hq,_⟩:=R;⟨q,hq⟩;have I4:Inv X JB Z (l_ E a (.dK (kz (il l ys j B).1 (il l ys j B).2))) { s3 with heap:=h',toks:=s3.toks+1} :=
    I3.write (x:=a) (e:=a) (by rw[d'];exact True.intro) (.inl rfl) (λb q hb z=>(an.2 b hb).trans z) he ⟨aF,hd,_,FM hl nd S rv,R⟩
   obtain⟨ak,l4⟩:=L.put en (o:=.dic T (il l xs j v).1 (il l xs j v).2) (ho:=.dK (kz (il l ys j B).1 (il l ys j B).2)) ⟨(il l ys j B).2,by rw[p1];exact O,p2,by rw[p1];rfl⟩;exact⟨Z,_,I4,P C _ Z l4 ak (ai.le l4)⟩
  .rw[hI hz]at P;exact P.elim
 .exact P.elim
end
section
variable{X:Cx}{N W G:QM}{k:Nat}
local instance inhPV2:Inhabited PV:=⟨.non⟩
def xN{P:Program}{w:World}{i:List DictEntry}{f:List (Int×Value)}(p:Pairs (intKind P w) i f):Pairs (eY P w) i (f.map λj=>((Sum.inl j.1:rg),j.2)):=by
 induction p with
 |nil=>exact .nil
 |cons a b _ l=>exact .cons a b l
def FN{P:Program}{w:World}{h:Heap}{a:Addr}{j:List (Int×Value)}(d:h.DictOf (intKind P w) a j):h.DictOf (eY P w) a (j.map λf=>((Sum.inl f.1:rg),f.2)):=by
 obtain⟨o,u,y,E,C,l,B,F,nd⟩:=d;refine⟨o,u,y,E,C,l,λe H=>?_,xN F,?_⟩
 .obtain⟨i,e1,e2⟩:=B e H;exact⟨.inl i,e1,e2⟩
 .rw[y6];rw[show((λx:rg×Value=>x.1)∘λf:Int×Value=>((Sum.inl f.1:rg),f.2))=(Sum.inl∘λf:Int×Value=>f.1)from rfl,<-y6];exact(List.pairwise_map.mpr (List.Pairwise.imp (λh z=>h (by cases z;rfl)) nd))
def FP{K:hH}{U:QR}{H:Hp}:∀{kvs:List (Int×PV)}{vals:List (Int×Value)},kvs.length=vals.length->(∀(i:Nat) a b,kvs[i]?=J a->vals[i]?=J b->a.1=b.1/\∃v,aO v b.2/\RP K U H a.2 v) ->
  ∃ys:List V,ys.length=(kvs.map (·.1)).length/\RPs K U H (kvs.map (·.2)) ys/\KV (kz (kvs.map (·.1)) ys) (vals.map λf=>((Sum.inl f.1:rg),f.2)):=by
 intro kvs
 induction kvs with
 |nil =>
  intro vals hl _
  cases vals with
  |nil=>exact⟨[],rfl,.nil,.nil⟩
  |cons _ _=>simp at hl
 |cons a kvs j =>
  intro vals hl h
  cases vals with
  |nil=>simp at hl
  |cons b vals =>
   obtain⟨ys,e1,e2,e3⟩:=j (by simpa using hl) λi a b u l=>h (i+1) a b (by simpa using u) (by simpa using l);obtain⟨e,v,y,rp⟩:=h 0 a b rfl rfl;exact⟨v::ys,by simp at e1 ⊢;exact e1,.cons rp e2,.cons ⟨congrArg Sum.inl e,y⟩ e3⟩
def v_(f:QL)(h:MH):QX:=match f with
 |[x]=>(match Jp x with
  |some a=>.ok (.loc h.length) (h++[.dic T (a.map (·.1)) (a.map (·.2))])
  |none=>.bad)
 |_=>.bad
def wg(g:Good X N W G k):cU X (.type "dict") (λxs H Q=>∃U h ps f v,xs=[v]/\RH X.K X.mg U H h/\RP X.K U H (.tup ps) v/\ip ps=J f/\(f.map (·.1)).Nodup /\
   ∀l ys,H l=Y->ys.length=(f.map (·.1)).length->RPs X.K U H (f.map (·.2)) ys->Q (.ref l) (l_ H l (.dK (kz (f.map (·.1)) ys)))):=by
 intro JB s Z H xs us Q C r ⟨U,h,ps,f,v,e,rh,rp,ep,nd,q⟩;subst e;obtain⟨u,rfl,ru⟩:=r.one
 cases rp with
 |tup sq R =>
  cases ru;obtain⟨y,rv,ht,hz⟩:=C.tupleN sq;obtain⟨hl,hv⟩:=vp R rv ep;have a7:=rv.length;have a6:=R.length;have P:∀i,i<y.length->∃b t B,y[i]?=J (.ref b)/\s.heap.IsTuple b #[.int (f[i]!).1 t,B]/\∃w,aO w B/\RP X.K U H (f[i]!).2 w:=by
   intro i S;have E:i<f.length:=by lia
   obtain⟨b,w,e1,e2,e3⟩:=hv i y[i] f[i] (by simp[S]) (by simp[E]);obtain⟨a5,ak,ab,_⟩:=C.tuple e2
   cases ak with
   |cons a1 a2=>cases a2 with
    |cons a3 a4 =>
     cases a4;obtain⟨t,rfl⟩:=a1;refine⟨b,t,_,by rw[vE S,e1],?_,w,a3,?_⟩
     .rw[getElem!_pos f i E];exact ab
     .rw[getElem!_pos f i E];exact e3
  have an:∃j:List (Int×Value),j.length=y.length/\∀i,i<y.length->∃b t B,j[i]?=J ((f[i]!).1,B)/\y[i]?=J (.ref b)/\s.heap.IsTuple b #[.int (f[i]!).1 t,B]/\∃w,aO w B/\RP X.K U H (f[i]!).2 w:=by
   have:∀n,n<=y.length->∃j:List (Int×Value),j.length=n/\∀i,i<n->∃b t B,j[i]?=J ((f[i]!).1,B)/\y[i]?=J (.ref b)/\s.heap.IsTuple b #[.int (f[i]!).1 t,B]/\∃w,aO w B/\RP X.K U H (f[i]!).2 w:=by
    intro n
    induction n with
    |zero=>exact λ_=>⟨[],rfl,λi S=>absurd S (Nat.not_lt_zero _)⟩
    |succ n ih =>
     intro hn;obtain⟨vs,e1,e2⟩:=ih ⋯;obtain⟨b,t,B,f1,f2,f3⟩:=P n ⋯;refine⟨vs++[((f[n]!).1,B)],by simp[e1],λi S=>?_⟩;by_cases z:i<n
     .obtain⟨b,t,B,L,g2⟩:=e2 i z;exact⟨b,t,B,by rw[q7 ⋯];exact L,g2⟩
     .have:i=n:=by lia
      subst this;exact⟨b,t,B,by rw[AA ⋯,e1];simp,f1,f2,f3⟩
   exact this _ (mu _)
  obtain⟨j,al,F⟩:=an;have M:j.map (·.1)=f.map (·.1):=by
   apply Dv;intro i;by_cases z:i<y.length
   .obtain⟨_,_,_,L,_⟩:=F i z;have E:i<f.length:=by lia
    rw[u_,u_,L,vE E,getElem!_pos f i E];rfl
   .rw[AN (by simp;lia),AN (by simp;lia)]
  obtain⟨oa,ap,ar,⟨na,ai⟩,as⟩:=ht;refine nA (a:=_) (items:=y.toArray) (kvs:=j) (C.ok.hd g.calm) ⟨oa,na,ap,ar,ai,as⟩ (by simp[al]) (by simp;lia) (M▸nd) (λi v kv h1 O=>?_) λh' tk hD hx=>?_
  .have z:i<y.length:=by
    have:=(qi.mp O).1
    lia
   obtain⟨b,t,B,L,g2,g3,_⟩:=F i z;rw[L]at O;cases O
   have:v=.ref b:=by
    have e:y.toArray[i]?=y[i]?:=by simp
    rw[e,g2]at h1;exact(Option.some.inj h1).symm
   exact⟨b,t,this,g3⟩
  .have hn:H s.heap.objs.size=Y:=C.hok.fresh (mu _);have aF:=Inv.bigM C;obtain⟨ys,y1,y2,y3⟩:=FP (K:=X.K) (U:=U) (H:=H) (kvs:=f) (vals:=j) ⋯ λi a b h1 O=>by
    have z:i<y.length:=by
     have:=(qi.mp O).1
     lia
    obtain⟨b',t,B,L,g2,g3,w,g4,g5⟩:=F i z;rw[L]at O;cases O;have E:i<f.length:=by lia
    rw[vE E]at h1;cases h1;rw[getElem!_pos f i E]at g5 ⊢;exact⟨rfl,w,g4,g5⟩
   have a0:(kz (f.map (·.1)) ys).length<=sizeLine:=by unfold kz;rw[List.length_zip,v4,v4];lia
   exact⟨.ref s.heap.objs.size,_,C.laid (o:=.dK (kz (f.map (·.1)) ys)) hx (mu _) ⟨a0,beq_eq_false_iff_ne.mpr (AB aF),_,y3,FN hD⟩,rfl,q _ ys hn y1 y2⟩
 |_=>cases ep
def Ci(g:Good X N W G k):cK X (.type "dict") v_:=by
 intro E s Z H xs C Q u r ⟨U,h,z,i,rp,q⟩;unfold v_ at q
 split at q
 .rename_i x
  cases rp with
  |cons F O =>
   cases O
   cases a:Jp x with
   |none=>rw[a]at q;exact q.elim
   |some f =>
    rw[a]at q;unfold Jp at a
    split at a
    .rename_i z
     split at a
     .rename_i y L
      split at a
      .rename_i nd
       cases a;refine wg g E s Z H _ C Q u r ⟨U,h,z,f,_,rfl,i,F,L,nd,λl ys hl P M=>?_⟩;have B:RO X.K X.mg U H l (.dic T (f.map Prod.fst) (f.map Prod.snd)) (J (.dK (kz (f.map Prod.fst) ys))):=⟨ys,P,M,rfl⟩;obtain⟨j,R⟩:=i.new hl B;exact q _ _ _ R j (.loc (by rw[<-i.len];simp))
      .cases a
     .cases a
    .cases a
 .exact q.elim
end
end MM
namespace PU
open MM
def ys{α:Type}{a b:α}(h:a=b):a=b:=h
inductive D where
 |non | bl (b:Bool) | int (i:Int) | str (x:Str) | tup (xs:List D) | lst (xs:List D) | dic (fz:Bool) (ks:QN) (ds:List D) | exc (c:Str) | pen
abbrev _root_.QQ:=List D
abbrev _root_.QB:=Option D
abbrev d_:=Int×Int×Int
abbrev aw:=List (QB)
def aW(h:MH)(p:Nat)(s:d_):Prop:=h[p]?=J (.lst [.int s.1,.int s.2.1,.int s.2.2])
inductive M5(P:QL->Prop)(v:PV):Prop
 |mk(xs:QL)(e:v=.tup xs)(r:P xs):M5 P v
inductive O7(h:MH)(O:QP)(P:QL->Prop)(v:PV):Prop
 |mk(n:Nat)(xs:QL)(e:v=.loc n)(no:n∉O)(g:h[n]?=J (.lst xs))(r:P xs):O7 h O P v
inductive O9(h:MH)(O:QP)(fz:Bool)(ks:QN)(P:QL->Prop)(v:PV):Prop
 |mk(n:Nat)(xs:QL)(e:v=.loc n)(no:n∉O)(g:h[n]?=J (.dic fz ks xs))(r:P xs):O9 h O fz ks P v
inductive O_(h:MH)(O:QP)(o:MO)(v:PV):Prop
 |mk(n:Nat)(e:v=.loc n)(no:n∉O)(g:h[n]?=J o):O_ h O o v
inductive M6(P:PV->Prop)(Q:QL->Prop)(vs:QL):Prop
 |mk(x:PV)(r:QL)(e:vs=x::r)(a:P x)(b:Q r):M6 P Q vs
mutual
def Rp(p:Nat)(h:MH)(O:QP):D->PV->Prop
 |.non,v=>v=.non
 |.bl b,v=>v=.bl b
 |.int i,v=>v=.int i
 |.str x,v=>v=.str x
 |.tup a,v=>M5 (Rps p h O a) v
 |.lst a,v=>O7 h O (Rps p h O a) v
 |.dic fz f a,v=>O9 h O fz f (Rps p h O a) v
 |.exc c,v=>O_ h O (.exc ⟨c,[]⟩) v
 |.pen,v=>v=.loc p
def Rps(p:Nat)(h:MH)(O:QP):QQ->QL->Prop
 |[],a=>a=[]
 |d::f,a=>M6 (Rp p h O d) (Rps p h O f) a
end
def au{h:MH}{n:Nat}{o:MO}(e:h[n]?=J o):n<h.length:=(qi.mp e).1
structure Mv(O:QP)(h:MH)(O':QP)(h':MH):Prop where
 keep:∀n:Nat,n<h.length->n∉O->h'[n]?=h[n]?
 new:∀o∈O',o∈O\/h.length<=o
def Mv.get{O a:QP}{h i:MH}(s:Mv O h a i){n:Nat}{o:MO}(e:h[n]?=J o)(f:n∉O):n∉a/\i[n]?=J o:=by
 have hl:=au e;refine⟨λz=>?_,(s.keep n hl f).trans e⟩;rcases s.new n z with q|q
 .exact f q
 .lia
section
variable{p:Nat}{O O':QP}{h h':MH}
def Rp.mv(s:Mv O h O' h')(r:Rp p h O d v):Rp p h' O' d v:=by
 refine D.rec (motive_2:=λl=>∀u,Rps p h O l u->Rps p h' O' l u)
  (λ_ r=>r) (λ_ _ r=>r) (λ_ _ r=>r) (λ_ _ r=>r) (λl i _ r=>?_) (λl i _ r=>?_) (λ_ _ l i _ r=>?_) (λ_ _ r=>?_) (λ_ r=>r) (λ_ r=>r) (λ_ _ i j _ r=>?_) d v r
 .obtain⟨xs,e,r⟩:=r;exact⟨xs,e,i _ r⟩
 .obtain⟨n,xs,e,f,g,r⟩:=r;exact⟨n,xs,e,(s.get g f).1,(s.get g f).2,i _ r⟩
 .obtain⟨n,xs,e,f,g,r⟩:=r;exact⟨n,xs,e,(s.get g f).1,(s.get g f).2,i _ r⟩
 .obtain⟨n,e,f,g⟩:=r;exact⟨n,e,(s.get g f).1,(s.get g f).2⟩
 .obtain⟨x,t,e,a,b⟩:=r;exact⟨x,t,e,i _ a,j _ b⟩
def Rps.mv(s:Mv O h O' h')(r:Rps p h O f vs):Rps p h' O' f vs:=by
 induction f generalizing vs with
 |nil=>exact r
 |cons d f i=>obtain⟨x,t,e,a,b⟩:=r;exact⟨x,t,e,a.mv s,i b⟩
def Rps.length(r:Rps p h O f vs):vs.length=f.length:=by
 induction f generalizing vs with
 |nil=>rw[show vs=[]from r];rfl
 |cons d f i=>obtain⟨x,t,e,a,b⟩:=r;rw[e,Aw,Aw,i b]
def Rps.get{f:QQ}{j:QL}{i:Nat}{d:D}(r:Rps p h O f j)(g:f[i]?=J d):∃v,j[i]?=J v/\Rp p h O d v:=by
 induction f generalizing j i with
 |nil=>cases g
 |cons d f l =>
  obtain⟨x,t,e,a,b⟩:=r;subst e
  cases i with
  |zero=>cases g;exact⟨x,rfl,a⟩
  |succ i=>have z:=@l t i b g;exact z
def Rps.app(r:Rps p h O f vs)(s:Rps p h O es ws):Rps p h O (f++es) (vs++ws):=by
 induction f generalizing vs with
 |nil=>rw[show vs=[]from r];exact s
 |cons d f i=>obtain⟨x,t,e,a,b⟩:=r;subst e;exact⟨x,t++_,rfl,a,i b⟩
def Rps.take(n:Nat)(r:Rps p h O f vs):Rps p h O (f.take n) (vs.take n):=by
 induction f generalizing vs n with
 |nil=>rw[show vs=[]from r];cases n<;>rfl
 |cons d f i =>
  obtain⟨x,t,e,a,b⟩:=r;subst e
  cases n with
  |zero=>rfl
  |succ n=>exact⟨x,t.take n,rfl,a,i n b⟩
def Rps.drop(n:Nat)(r:Rps p h O f vs):Rps p h O (f.drop n) (vs.drop n):=by
 induction f generalizing vs n with
 |nil=>rw[show vs=[]from r];cases n<;>rfl
 |cons d f i =>
  cases n with
  |zero=>exact r
  |succ n=>obtain⟨x,t,e,a,b⟩:=r;subst e;exact i n b
def Rps.set(i:Nat)(r:Rps p h O f vs)(q:Rp p h O d v):Rps p h O (f.set i d) (vs.set i v):=by
 induction f generalizing vs i with
 |nil=>rw[show vs=[]from r];rfl
 |cons l f j =>
  obtain⟨x,t,e,a,b⟩:=r;subst e
  cases i with
  |zero=>exact⟨v,t,rfl,q,b⟩
  |succ i=>exact⟨x,t.set i v,rfl,a,j i b⟩
end
def dl:Option (QN)->QQ->D
 |none,a=>.lst a
 |some f,a=>.dic T f a
def mo:Option (QN)->QL->MO
 |none,xs=>.lst xs
 |some a,xs=>.dic T a xs
def gw(e:D.lst ds=dl k es):k=Y/\ds=es:=by
 cases k with
 |none=>cases e;exact⟨rfl,rfl⟩
 |some _=>cases e
inductive Pa(p:Nat)(h:MH)(L:Nat)(O:QP)(d:D)(v:PV):Prop
 |mk(n:Nat)(k:Option (QN))(xs:QL)(ds:QQ)(e:d=dl k ds)(e':v=.loc n)(o:n∈O)(l:L<=n)(g:h[n]?=J (mo k xs))(r:Rps p h O ds xs):Pa p h L O d v
def Vw(p:Nat)(h:MH)(L:Nat)(O:QP)(d:D)(v:PV):Prop:=Rp p h O d v\/Pa p h L O d v
def FQ(p:Nat)(h:MH)(L:Nat)(O:QP):QQ->QL->Prop
 |[],a=>a=[]
 |d::f,a=>M6 (Vw p h L O d) (FQ p h L O f) a
inductive Jr(p:Nat)(L:Nat)(O:QP)(h:MH)(k:Option (QN))(ds:QQ)(v:PV):Prop
 |mk(n:Nat)(xs:QL)(e:v=.loc n)(l:L<=n)(g:h[n]?=J (mo k xs))(r:Rps p h (n::O) ds xs):Jr p L O h k ds v
def Frs(p:Nat)(L:Nat)(O:QP)(h:MH)(d:D)(v:PV):Prop:=∀k a,d=dl k a->Jr p L O h k a v
structure KB(p:Nat)(h h':MH):Prop where
 len:h.length<=h'.length
 keep:∀n:Nat,n<h.length->n≠p->h'[n]?=h[n]?
def KB.refl(p:Nat)(h:MH):KB p h h:=⟨mu _,λ_ _ _=>rfl⟩
def KB.trans(a:KB p h h1)(b:KB p h1 h2):KB p h h2 :=
 ⟨qs a.len b.len,λn f i=>(b.keep n (sw f a.len) i).trans (a.keep n f i)⟩
def KB.app(p:Nat)(h g:MH):KB p h (h++g):=⟨by simp,λn a _=>q7 a⟩
def KB.mv(k:KB p h h')(j:p∈O):Mv O h O h' :=
 ⟨λn f i=>k.keep n f λz=>i (z▸j),λo a=>.inl a⟩
def aW.app{p:Nat}{h g:MH}{s:d_}(e:aW h p s):aW (h++g) p s:=by unfold aW at *;rw[q7 (au e)];exact e
def Vw.kb{p L:Nat}{h f:MH}{O:QP}{d:D}{v:PV}(k:KB p h f)(a:p∈O)(hL:p<L)(w:Vw p h L O d v):Vw p f L O d v:=by
 rcases w with r|⟨n,l,xs,u,e1,e2,i,j,g,r⟩
 .exact .inl (r.mv (k.mv a))
 .exact .inr ⟨n,l,xs,u,e1,e2,i,j,(k.keep n (au g) ⋯).trans g,r.mv (k.mv a)⟩
inductive PR(α:Type) where
 |ok(a:α)(s:d_)
 |exc(c:Str)(s:d_)
 |bad
def PR.bind{α β:Type}(r:PR α)(f:α->d_->PR β):PR β:=match r with
 |.ok a s=>f a s
 |.exc c s=>.exc c s
 |.bad=>.bad
@[simp]theorem Pb(a:α)(s:d_)(f:α->d_->PR β):(PR.ok a s).bind f=f a s:=rfl
@[simp]theorem Pe(c:Str)(s:d_)(f:α->d_->PR β):(PR.exc c s).bind f=.exc c s:=rfl
@[simp]theorem Pd(f:α->d_->PR β):(PR.bad:PR α).bind f=.bad:=rfl
def PR.of{α:Type}(o:Option α)(s:d_):PR α:=match o with
 |some a=>.ok a s
 |none=>.bad
@[simp]theorem Pf(a:α)(s:d_):PR.of (J a) s=.ok a s:=rfl
@[simp]theorem Pn(s:d_):PR.of (Y:Option α) s=.bad:=rfl
inductive Pc{α β:Type}(p:Nat)(h:MH)(o:Out β)(a:α)(s:d_)(R:MH->α->β->Prop):Prop
 |mk(b:β)(h':MH)(e:o=.ok b h')(k:KB p h h')(n:aW h' p s)(r:R h' a b):Pc p h o a s R
inductive Ph{β:Type}(p:Nat)(h:MH)(o:Out β)(c:Str)(s:d_):Prop
 |mk(h':MH)(e:o=.exc ⟨c,[]⟩ h')(k:KB p h h')(n:aW h' p s):Ph p h o c s
def Ok{α β:Type}(p:Nat)(h:MH)(o:Out β)(r:PR α)(R:MH->α->β->Prop):Prop:=match r with
 |.ok a s=>Pc p h o a s R
 |.exc c s=>Ph p h o c s
 |.bad=>True
def Ok.bind{α β γ δ:Type}{p:Nat}{h:MH}{o:Out β}{r:PR α}{R:MH->α->β->Prop}{f:β->MH->Out δ}{g:α->d_->PR γ}{S:MH->γ->δ->Prop}(q:Ok p h o r R)(k:∀a b i s,KB p h i->aW i p s->R i a b->Ok p i (f b i) (g a s) S):Ok p h (o.bind f) (r.bind g) S:=by
 cases r with
 |ok a s =>
  obtain⟨b,i,rfl,kb,pn,B⟩:=q
  have:=k a b i s kb pn B
  rw[Pb]
  cases e:g a s with
  |ok c y =>
   rw[e]at this;obtain⟨d,u,e2,l,j,z⟩:=this;exact⟨d,u,e2,kb.trans l,j,z⟩
  |exc c y =>
   rw[e]at this;obtain⟨u,e2,l,j⟩:=this;exact⟨u,e2,kb.trans l,j⟩
  |bad=>trivial
 |exc c s =>
  obtain⟨i,rfl,kb,pn⟩:=q;exact⟨i,rfl,kb,pn⟩
 |bad=>trivial
def Ok.imp{α β:Type}{p:Nat}{h:MH}{o:Out β}{r:PR α}{R S:MH->α->β->Prop}(q:Ok p h o r R)(k:∀f a b,KB p h f->R f a b->S f a b):Ok p h o r S:=by
 cases r with
 |ok a s=>obtain⟨b,j,e,kb,pn,i⟩:=q;exact⟨b,j,e,kb,pn,k _ _ _ kb i⟩
 |exc c s=>exact q
 |bad=>trivial
structure SR(p:Nat)(h:MH)(L:Nat)(O:QP)(ws:QP)(Z:n8)(env:aw):Prop where
 len:Z.length=env.length
 fz:∀i d,env[i]?=J (J d)->i∉ws->∃v,Z[i]?=J (J v)/\Rp p h O d v
 ow:∀i d,env[i]?=J (J d)->i∈ws->∃n k xs ds,d=dl k ds/\Z[i]?=J (J (.loc n))/\n∈O/\L<=n/\h[n]?=J (mo k xs)/\Rps p h O ds xs
structure Cx(p:Nat)(h:MH)(L:Nat)(B O:QP)(ws:QP)(Z:n8)(env:aw)(s:d_):Prop where
 bd:∀o∈O,o<h.length
 sub:∀o∈B,o∈O
 bb:∀o∈B,o<L
 pb:p∈B
 hL:L<=h.length
 pen:aW h p s
 sr:SR p h L O ws Z env
section
variable{p L:Nat}{h h':MH}{B O ws:QP}{Z:n8}{env:aw}{s s':d_}
def Cx.pO(c:Cx p h L B O ws Z env s):p∈O:=c.sub p c.pb
def Cx.pL(c:Cx p h L B O ws Z env s):p<L:=c.bb p c.pb
def SR.mv{f:QP}(m:Mv O h f h')(u:∀o∈O,o∈f)(l:∀n:Nat,n<h.length->L<=n->n∈O->h'[n]?=h[n]?)(r:SR p h L O ws Z env):SR p h' L f ws Z env :=
 ⟨r.len,λi d e j=>let⟨v,e1,q⟩:=r.fz i d e j;⟨v,e1,q.mv m⟩,λi d e j=>let⟨n,k,xs,y,e1,e2,a,b,g,q⟩:=r.ow i d e j;⟨n,k,xs,y,e1,e2,u n a,b,(l n (au g) b a).trans g,q.mv m⟩⟩
def Cx.kb(c:Cx p h L B O ws Z env s)(k:KB p h h')(pn:aW h' p s'):Cx p h' L B O ws Z env s' :=
 ⟨λo a=>sw (c.bd o a) k.len,c.sub,c.bb,c.pb,qs c.hL k.len,pn,c.sr.mv (k.mv c.pO) (λ_ h=>h) λn f hl _=>k.keep n f (by have:=c.pL;lia)⟩
def Vw.base(w:Vw p h L O d v)(sub:∀o∈B,o∈O)(bb:∀o∈B,o<L):Rp p h B d v:=by
 have m:Mv O h B h:=⟨λ_ _ _=>rfl,λo a=>.inl (sub o a)⟩;rcases w with r|⟨n,k,xs,i,rfl,rfl,_,f,g,r⟩
 .exact r.mv m
 .cases k<;>exact⟨n,xs,rfl,λz=>by have:=bb n z;lia,g,r.mv m⟩
def Frs.rp(f:Frs p L' O h d v)(bd:∀o∈O,o<L')(e:d=dl k ds):Rp p h O d v:=by obtain⟨n,xs,e1,i,g,r⟩:=f k ds e;subst e;cases k<;>exact⟨n,xs,e1,λz=>by have:=bd n z;lia,g,r.mv ⟨λ_ _ _=>rfl,λo a=>.inl (p5 _ a)⟩⟩
def Frs.le(f:Frs p L2 O h d v)(hl:L1<=L2):Frs p L1 O h d v:=λk i e =>
 let⟨n,xs,e1,a,g,r⟩:=f k i e;⟨n,xs,e1,qs hl a,g,r⟩
end
abbrev Bd(h:MH)(O:QP):Prop:=∀o∈O,o<h.length
inductive Gv(p:Nat)(h:MH)(O:QP)(fr:Bool)(o:QX)(d:D):Prop
 |mk(v:PV)(g:MH)(e:o=.ok v (h++g))(r:Rp p (h++g) O d v)(f:fr=I->Frs p h.length O (h++g) d v):Gv p h O fr o d
structure Lx where
 m:PV->MH->QX
 p:D->QB
 fr:Bool
 ok:∀{q h L O a x d},Bd h O->Vw q h L O a x->p a=J d->Gv q h O fr (m x h) d
structure w_ where
 m:PV->PV->MH->QX
 p:D->D->QB
 fr:Bool
 ok:∀{q h L O a x b y d},Bd h O->Vw q h L O a x->Vw q h L O b y->p a b=J d->Gv q h O fr (m x y h) d
structure A5 where
 k:QL->MH->QX
 p:QQ->QB
 fr:Bool
 ok:∀{q h L O as xs d},Bd h O->FQ q h L O as xs->p as=J d->Gv q h O fr (k xs h) d
structure Fn where
 m:QL->MH->QX
 p:QQ->d_->PR D
 fr:Bool
 ok:∀{q h O vs ds s},Bd h O->q∈O->aW h q s->Rps q h O ds vs->Ok q h (m vs h) (p ds s) (λh' d v=>Rp q h' O d v/\(fr=I->Frs q h.length O h' d v))
mutual
def flat:D->Bool
 |.lst _ | .dic _ _ _ | .exc _ | .pen=>T
 |.tup a=>c_ a
 |_=>I
def c_:QQ->Bool
 |[]=>I
 |d::a=>flat d&&c_ a
end
section
variable{p:Nat}{h h':MH}{O O':QP}
mutual
def Rp.flat:∀{d:D}{v:PV},PU.flat d=I->Rp p h O d v->Rp p h' O' d v
 |.non,_,_,r=>r
 |.bl _,_,_,r=>r
 |.int _,_,_,r=>r
 |.str _,_,_,r=>r
 |.tup a,_,f,⟨xs,e,r⟩=>⟨xs,e,Rps.flat (by simpa [PU.flat]using f) r⟩
 |.lst a,_,f,_=>by simp[PU.flat]at f
 |.dic _ _ _,_,f,_=>by simp[PU.flat]at f
 |.exc _,_,f,_=>by simp[PU.flat]at f
 |.pen,_,f,_=>by simp[PU.flat]at f
def Rps.flat:∀{i:QQ}{j:QL},PU.c_ i=I->Rps p h O i j->Rps p h' O' i j
 |[],_,_,r=>r
 |_::_,_,f,⟨x,t,e,a,b⟩=>⟨x,t,e,Rp.flat (by simp[PU.c_]at f;exact f.1) a,Rps.flat (by simp[PU.c_]at f;exact f.2) b⟩
end
end
structure Xe(ws:QP) where
 m:Mx PV
 p:aw->d_->PR D
 fz:Bool
 fr:Bool
 ok:∀{q h L B O Z env s},Cx q h L B O ws Z env s->Ok q h (m Z h) (p env s) (λh' d v=>Vw q h' L O d v/\(fz=I->Rp q h' O d v)/\(fr=I->Frs q h.length O h' d v))
structure Xs(ws:QP) where
 m:Mx (QL)
 p:aw->d_->PR (QQ)
 fz:Bool
 ok:∀{q h L B O Z env s},Cx q h L B O ws Z env s->Ok q h (m Z h) (p env s) (λh' ds vs=>FQ q h' L O ds vs/\(fz=I->Rps q h' O ds vs))
structure Xt(ws:QP) where
 m:Mx Bool
 p:aw->d_->PR Bool
 ok:∀{q h L B O Z env s},Cx q h L B O ws Z env s->Ok q h (m Z h) (p env s) (λ_ a b=>a=b)
noncomputable section
variable{ws:QP}
def AX{q L:Nat}{h a:MH}{O:QP}{o:QX}{d:D}{s:d_}{fr:Bool}(le:h.length<=a.length)(pn:aW a q s)(g:Gv q a O fr o d):
  Ok q a o (.ok d s) (λi d v=>Vw q i L O d v/\(I=I->Rp q i O d v)/\(fr=I->Frs q h.length O i d v)):=by
 obtain⟨v,g,e,r,f⟩:=g;exact⟨v,a++g,e,KB.app _ _ _,pn.app,.inl r,λ_=>r,λz=>(f z).le le⟩
def ac(i:Nat):Xe ws where
 m:=af i
 p:=λenv s=>match env[i]? with
  |some (J d)=>.ok d s
  |_=>.bad
 fz:=!ws.contains i
 fr:=T
 ok {q h L B O Z env s} c:=by
  show Ok q h _ (match env[i]? with|some (J d)=>PR.ok d s|_=>.bad) _
  cases e:env[i]? with
  |none=>trivial
  |some o =>
   cases o with
   |none=>trivial
   |some d =>
    by_cases z:i∈ws
    .obtain⟨n,k,xs,j,e1,e2,a,b,g,r⟩:=c.sr.ow i d e z;exact⟨.loc n,h,by simp[af,e2],KB.refl _ _,c.pen,.inr ⟨n,k,xs,j,e1,rfl,a,b,g,r⟩,λf=>by simp[z]at f,λf=>by simp at f⟩
    .obtain⟨v,e1,r⟩:=c.sr.fz i d e z;exact⟨v,h,by simp[af,e1],KB.refl _ _,c.pen,.inl r,λ_=>r,λf=>by simp at f⟩
inductive Cn where
 |non | bl (b:Bool) | int (i:Int) | str (x:Str)
def Cn.v:Cn->PV
 |.non=>.non
 |.bl b=>.bl b
 |.int i=>.int i
 |.str x=>.str x
def Cn.d:Cn->D
 |.non=>.non
 |.bl b=>.bl b
 |.int i=>.int i
 |.str x=>.str x
def Cn.rp(c:Cn){q:Nat}{h:MH}{O:QP}:Rp q h O c.d c.v:=by cases c<;>rfl
def xC(k:Cn):Xe ws where
 m:=mC k.v
 p:=λ_ s=>.ok k.d s
 fz:=I
 fr:=I
 ok {q h L B O Z env s} c:=⟨k.v,h,rfl,KB.refl _ _,c.pen,.inl k.rp,λ_=>k.rp,λ_ a f e=>by cases k<;>cases a<;>cases e⟩
def ag(o:w_)(a b:Xe ws):Xe ws where
 m:=ay o.m a.m b.m
 p:=λenv s=>(a.p env s).bind λx z=>(b.p env z).bind λy l=>.of (o.p x y) l
 fz:=I
 fr:=o.fr
 ok {q h L B O Z env s} c:=by
  refine(a.ok c).bind λx v P z i C ⟨G,_,_⟩=>?_;refine(b.ok (c.kb i C)).bind λy w M l j E ⟨H,_,_⟩=>?_
  cases e:o.p x y with
  |none=>trivial
  |some d =>
   have F:=(c.kb i C).kb j E;obtain⟨u,g,e1,r,f⟩:=o.ok F.bd (G.kb j c.pO c.pL) H e;exact AX (qs i.len j.len) E ⟨u,g,by rw[e1];rfl,r,f⟩
def vu(o:Lx)(a:Xe ws):Xe ws where
 m:=IM o.m a.m
 p:=λenv s=>(a.p env s).bind λx i=>.of (o.p x) i
 fz:=I
 fr:=o.fr
 ok {q h L B O Z env s} c:=by
  refine(a.ok c).bind λx v z i j l ⟨y,_,_⟩=>?_
  cases e:o.p x with
  |none=>trivial
  |some d =>
   obtain⟨u,g,e1,r,f⟩:=o.ok (c.kb j l).bd y e;exact AX j.len l ⟨u,g,by rw[e1];rfl,r,f⟩
def a_:Xs ws where
 m:=b_
 p:=λ_ s=>.ok [] s
 fz:=I
 ok {q h L B O Z env s} c:=⟨[],h,rfl,KB.refl _ _,c.pen,rfl,λ_=>rfl⟩
def aa(a:Xe ws)(r:Xs ws):Xs ws where
 m:=ae a.m r.m
 p:=λenv s=>(a.p env s).bind λx j=>(r.p env j).bind λy i=>.ok (x::y) i
 fz:=a.fz&&r.fz
 ok {q h L B O Z env s} c:=by refine(a.ok c).bind λx v M j z C ⟨E,z1,_⟩=>?_;refine(r.ok (c.kb z C)).bind λy w F i l H ⟨G,u⟩=>?_;refine⟨v::w,F,rfl,KB.refl _ _,H,⟨v,w,rfl,E.kb l c.pO c.pL,G⟩,λf=>?_⟩;rw[Av]at f;exact⟨v,w,rfl,(z1 f.1).mv (l.mv c.pO),u f.2⟩
def qr(o:A5)(a:Xs ws):Xe ws where
 m:=λZ h=>(a.m Z h).bind o.k
 p:=λenv s=>(a.p env s).bind λx j=>.of (o.p x) j
 fz:=I
 fr:=o.fr
 ok {q h L B O Z env s} c:=by
  refine(a.ok c).bind λx v u j f i ⟨l,_⟩=>?_
  cases e:o.p x with
  |none=>trivial
  |some d=>exact AX f.len i (o.ok (c.kb f i).bd l e)
def ao(f:Fn)(a:Xs ws)(u:a.fz=I:=by exact ys rfl):Xe ws where
 m:=ba f.m a.m
 p:=λenv s=>(a.p env s).bind f.p
 fz:=I
 fr:=f.fr
 ok {q h L B O Z env s} c:=by refine(a.ok c).bind λx v C y i j ⟨_,z⟩=>?_;have l:=c.kb i j;refine(f.ok l.bd l.pO j (z u)).imp λE d v kb ⟨r,fr⟩=>⟨.inl r,λ_=>r,λz=>(fr z).le i.len⟩
def eM:100000<=sizeLine:=by decide
def lH(bd:Bd h O)(r:Rps q h O ds xs)(hl:ds.length<=100000):Gv q h O I (tr xs h) (.lst ds):=by
 have l:=r.length;have m:Mv O h O (h++[MO.lst xs]):=⟨λn f _=>q7 f,λo a=>.inl a⟩
 have j:Mv O h (h.length::O) (h++[MO.lst xs]):=⟨λn f _=>q7 f,λo a=>by
  rcases p_.mp a with z|z
  .exact .inr ⋯
  .exact .inl z⟩
 have g:(h++[MO.lst xs])[h.length]?=J (.lst xs):=by simp
 refine⟨.loc h.length,[.lst xs],?_,⟨_,_,rfl,λz=>by have:=bd _ z;lia,g,r.mv m⟩,λ_ k i e=>?_⟩
 .unfold tr;have:=eM;lia
 .obtain⟨rfl,rfl⟩:=gw e;exact⟨_,_,rfl,mu _,g,r.mv j⟩
def ug(r:Rps q h O ds xs)(hl:ds.length<=100000):Gv q h O I (nc xs h) (.tup ds):=by
 have f:=r.length;refine⟨.tup xs,[],?_,?_,λ_ k a e=>by cases k<;>cases e⟩
 .unfold nc;rw[e_ (by have:=eM;lia)];simp
 .simpa using⟨xs,rfl,r⟩
def jk(a:Xs ws)(l:a.fz=I:=by exact ys rfl):Xe ws where
 m:=fV a.m
 p:=λenv s=>(a.p env s).bind λx j=>if x.length<=100000 then .ok (.lst x) j else .bad
 fz:=I
 fr:=I
 ok {q h L B O Z env s} c:=by
  refine(a.ok c).bind λx v u j f i ⟨_,z⟩=>?_;by_cases hl:x.length<=100000
  .rw[e_ hl];exact AX f.len i (lH (c.kb f i).bd (z l) hl)
  .rw[hI hl];trivial
def bE(a:Xs ws)(i:a.fz=I:=by exact ys rfl):Xe ws where
 m:=cY a.m
 p:=λenv s=>(a.p env s).bind λx f=>if x.length<=100000 then .ok (.tup x) f else .bad
 fz:=I
 fr:=I
 ok {q h L B O Z env s} c:=by
  refine(a.ok c).bind λx v u f j l ⟨_,z⟩=>?_;by_cases hl:x.length<=100000
  .rw[e_ hl];exact AX j.len l (ug (z i) hl)
  .rw[hI hl];trivial
def Cj:Xe ws where
 m:=Fx
 p:=λ_ s=>.ok (.dic T [] []) s
 fz:=I
 fr:=I
 ok {q h L B O Z env s} c:=by
  have g:(h++[MO.dic T [] []])[h.length]?=J (.dic T [] []):=by simp
  have r:Rp q (h++[MO.dic T [] []]) O (.dic T [] []) (.loc h.length):=⟨_,[],rfl,λz=>by have:=c.bd _ z;lia,g,rfl⟩
  exact⟨.loc h.length,h++[.dic T [] []],rfl,KB.app _ _ _,c.pen.app,.inl r,λ_=>r,λ_ k f e=>by
   cases k with
   |none=>cases e
   |some a=>cases e;exact⟨_,[],rfl,mu _,g,rfl⟩⟩
def Vw.bl(w:Vw q h L O (.bl b) v):v=.bl b:=by
 rcases w with r|⟨n,k,xs,a,e,_⟩
 .exact r
 .cases k<;>cases e
def PR.bl(r:PR D):PR Bool:=r.bind λd s=>match d with
 |.bl b=>.ok b s
 |_=>.bad
@[simp]theorem Pl:(PR.ok (D.bl b) s).bl=.ok b s:=rfl
def xB(a:Xe ws):Xt ws where
 m:=mB a.m
 p:=λenv s=>(a.p env s).bl
 ok {q h L B O Z env s} c:=by
  refine(a.ok c).bind λx v f l j i ⟨w,_,_⟩=>?_
  cases x with
  |bl b=>rw[w.bl];exact⟨b,f,rfl,KB.refl _ _,i,rfl⟩
  |_=>trivial
def du(a:Xt ws):Xt ws where
 m:=mz a.m
 p:=λenv s=>(a.p env s).bind λb s=>.ok (!b) s
 ok {q h L B O Z env s} c:=(a.ok c).bind λx v f l j i e=>⟨!v,f,rfl,KB.refl _ _,i,by rw[e]⟩
def AR(a b:Xt ws):Xt ws where
 m:=Ht a.m b.m
 p:=λenv s=>(a.p env s).bind λx s=>if x=I then .ok I s else b.p env s
 ok {q h L B O Z env s} c:=(a.ok c).bind λx v j l i f e=>by
  subst e
  cases x with
  |false=>simpa using b.ok (c.kb i f)
  |true=>exact⟨I,j,rfl,KB.refl _ _,f,rfl⟩
def pu:Xt ws where
 m:=nw
 p:=λ_ s=>.ok I s
 ok {q h L B O Z env s} c:=⟨I,h,rfl,KB.refl _ _,c.pen,rfl⟩
def Ok.after{α β:Type}{p:Nat}{h l:MH}{o:Out β}{r:PR α}{R:MH->α->β->Prop}(k:KB p h l)(q:Ok p l o r R):Ok p h o r R:=by
 cases r with
 |bad=>trivial
 |exc B y=>obtain⟨i,a,j,f⟩:=q;exact⟨i,a,k.trans j,f⟩
 |ok C y=>obtain⟨z,i,a,j,f,u⟩:=q;exact⟨z,i,a,k.trans j,f,u⟩
def vh(pn:aW h q s):Ok q h (.ok (.bl b) h) (.ok (.bl b) s) (λa d v=>Vw q a L O d v/\(I=I->Rp q a O d v)/\(I=I->Frs q l O a d v)) :=
 ⟨.bl b,h,rfl,KB.refl _ _,pn,.inl rfl,λ_=>rfl,λ_ k f e=>by cases k<;>cases e⟩
def wA(k:Ok q h o r (λa d v=>Vw q a L O d v/\(fz=I->Rp q a O d v)/\(fr=I->Frs q l' O a d v))):
  Ok q h o (r.bl.bind λb s=>.ok (.bl b) s) (λa d v=>Vw q a L O d v/\(I=I->Rp q a O d v)/\(I=I->Frs q l O a d v)):=by
 cases r with
 |bad=>trivial
 |exc c s=>exact k
 |ok d s =>
  obtain⟨v,a,e,kb,pn,w,_,_⟩:=k
  cases d with
  |bl b=>exact⟨v,a,e,kb,pn,w,λ_=>by rw[w.bl];rfl,λ_ k f e=>by cases k<;>cases e⟩
  |_=>trivial
def iN(a b:Xe ws):Xe ws where
 m:=wj a.m b.m
 p:=λenv s=>(a.p env s).bl.bind λx s=>if x=I then(b.p env s).bl.bind λy s=>.ok (.bl y) s else .ok (.bl T) s
 fz:=I
 fr:=I
 ok {q h L B O Z env s} c:=by
  have k:=a.ok c;show Ok q h ((a.m Z h).bind _) _ _
  cases e:a.p env s with
  |bad=>trivial
  |exc x z =>
   rw[e]at k;obtain⟨j,e1,f,i⟩:=k;rw[e1];exact⟨j,rfl,f,i⟩
  |ok d z =>
   rw[e]at k;obtain⟨v,j,e1,f,i,w,_,_⟩:=k
   cases d with
   |bl x =>
    rw[w.bl]at e1;rw[e1]
    cases x with
    |true =>
     exact Ok.after f (wA (l:=h.length) (b.ok (c.kb f i)))
    |false =>
     obtain⟨E,G,C,H,F,u⟩:=vh (L:=L) (l:=h.length) (O:=O) (b:=T) i;exact⟨E,G,C,f.trans H,F,u⟩
   |_=>trivial
def FR(a b:Xe ws):Xe ws where
 m:=BX a.m b.m
 p:=λenv s=>(a.p env s).bl.bind λx s=>if x=I then .ok (.bl I) s else(b.p env s).bl.bind λy s=>.ok (.bl y) s
 fz:=I
 fr:=I
 ok {q h L B O Z env s} c:=by
  have k:=a.ok c;show Ok q h ((a.m Z h).bind _) _ _
  cases e:a.p env s with
  |bad=>trivial
  |exc x z =>
   rw[e]at k;obtain⟨j,e1,f,i⟩:=k;rw[e1];exact⟨j,rfl,f,i⟩
  |ok d z =>
   rw[e]at k;obtain⟨v,j,e1,f,i,w,_,_⟩:=k
   cases d with
   |bl x =>
    rw[w.bl]at e1;rw[e1]
    cases x with
    |false =>
     exact Ok.after f (wA (l:=h.length) (b.ok (c.kb f i)))
    |true =>
     obtain⟨E,G,C,H,F,u⟩:=vh (L:=L) (l:=h.length) (O:=O) (b:=I) i;exact⟨E,G,C,f.trans H,F,u⟩
   |_=>trivial
def nW(a:Xe ws):Xe ws where
 m:=vP a.m
 p:=λenv s=>(a.p env s).bl.bind λx s=>.ok (.bl (!x)) s
 fz:=I
 fr:=I
 ok {q h L B O Z env s} c:=by
  have k:=a.ok c;show Ok q h ((a.m Z h).bind _) _ _
  cases e:a.p env s with
  |bad=>trivial
  |exc x y =>
   rw[e]at k;obtain⟨j,e1,f,i⟩:=k;rw[e1];exact⟨j,rfl,f,i⟩
  |ok d y =>
   rw[e]at k;obtain⟨v,j,e1,f,i,w,_,_⟩:=k
   cases d with
   |bl x =>
    rw[w.bl]at e1;rw[e1];obtain⟨C,F,z,G,E,u⟩:=vh (L:=L) (l:=h.length) (O:=O) (b:=!x) i;exact⟨C,F,z,f.trans G,E,u⟩
   |_=>trivial
def FS(t:Xt ws)(a b:Xe ws)(fz:Bool)(hf:fz=(a.fz&&b.fz):=by exact ys rfl):Xe ws where
 m:=Fd t.m a.m b.m
 p:=λenv s=>(t.p env s).bind λx s=>if x=I then a.p env s else b.p env s
 fz:=fz
 fr:=T
 ok {q h L B O Z env s} c:=(t.ok c).bind λx v y u i j e=>by
  subst e
  cases x with
  |true=>exact(a.ok (c.kb i j)).imp λl d v kb r=>⟨r.1,λf=>r.2.1 (by rw[hf,Av]at f;exact f.1),λf=>by simp at f⟩
  |false=>exact(b.ok (c.kb i j)).imp λl d v kb r=>⟨r.1,λf=>r.2.1 (by rw[hf,Av]at f;exact f.2),λf=>by simp at f⟩
def nz(f g:w_)(a b e:Xe ws):Xe ws where
 m:=nk f.m g.m a.m b.m e.m
 p:=λenv s=>(a.p env s).bind λx F=>(b.p env F).bind λy C=>match f.p x y with
  |some (.bl t)=>if t=I then(e.p env C).bind λz M=>.of (g.p y z) M else .ok (.bl T) C
  |_=>.bad
 fz:=I
 fr:=T
 ok {q h L B O Z env s} c:=by
  refine(a.ok c).bind λx v h1 F P Q ⟨w1,_,_⟩=>?_;refine(b.ok (c.kb P Q)).bind λy w l C U E ⟨S,_,_⟩=>?_;have G:=(c.kb P Q).kb U E
  cases e1:f.p x y with
  |none=>trivial
  |some d =>
   cases d with
   |bl t =>
    obtain⟨u,i,e2,r,_⟩:=f.ok G.bd (w1.kb U c.pO c.pL) S e1;have hu:u=.bl t:=r;subst hu;rw[e2];have j:=KB.app q l i;have W:=G.kb j E.app
    cases t with
    |true =>
     refine Ok.after j ?_;show Ok q (l++i) ((e.m Z (l++i)).bind _) _ _;refine(e.ok W).bind λz u h3 M R X ⟨w3,_,_⟩=>?_
     cases e4:g.p y z with
     |none=>trivial
     |some d =>
      obtain⟨u2,g2,e5,H,_⟩:=g.ok (W.kb R X).bd ((S.kb j c.pO c.pL).kb R c.pO c.pL) w3 e4;refine⟨u2,h3++g2,by rw[e5];rfl,KB.app _ _ _,X.app,.inl H,λ_=>H,λf=>by simp at f⟩
    |false=>exact⟨.bl T,l++i,rfl,j,E.app,.inl rfl,λ_=>rfl,λf=>by simp at f⟩
   |_=>trivial
end
structure Xi(ws:QP) where
 m:Mx MIt
 p:aw->d_->PR (QQ)
 fz:Bool
 ok:∀{q h L B O Z env s},Cx q h L B O ws Z env s->Ok q h (m Z h) (p env s) (λh' ds it=>Rps q h' O ds it.xs/\(∀g∈it.gd,h'[g.1]?=J (.lst g.2)/\g.1≠q)/\(fz=I->∀g∈it.gd,g.1∉O))
inductive GI(q:Nat)(h:MH)(O:QP)(ds as:QQ)(xs:QL)(o:Out MIt):Prop
 |mk(it:MIt)(e:o=.ok it h)(r:Rps q h O ds it.xs)(g:∀g∈it.gd,h[g.1]?=J (.lst g.2)/\g.1≠q)(z:Rps q h O as xs->∀g∈it.gd,g.1∉O):GI q h O ds as xs o
structure Hy where
 k:QL->MH->Out MIt
 p:QQ->Option (QQ)
 ok:∀{q h L O as xs ds},q<L->q∈O->Bd h O->FQ q h L O as xs->p as=J ds->GI q h O ds as xs (k xs h)
def D.items:D->Option (QQ)
 |.lst a=>J a
 |.tup a=>J a
 |_=>Y
@[simp]theorem Hz:(D.lst ds).items=J ds:=rfl
@[simp]theorem HA:(D.tup ds).items=J ds:=rfl
noncomputable section
variable{ws:QP}
def cg(o:Hy)(a:Xs ws):Xi ws where
 m:=λZ h=>(a.m Z h).bind o.k
 p:=λenv s=>(a.p env s).bind λx i=>.of (o.p x) i
 fz:=a.fz
 ok {q h L B O Z env s} c:=by
  refine(a.ok c).bind λx v E i C j ⟨w,z⟩=>?_
  cases e:o.p x with
  |none=>trivial
  |some F =>
   obtain⟨l,e1,r,y,u⟩:=o.ok c.pL c.pO (c.kb C j).bd w e;exact⟨l,E,e1,KB.refl _ _,j,r,y,λf=>u (z f)⟩
def Vw.seq(F:q<L)(B:q∈O)(w:Vw q h L O d v)(e:d.items=J ds):∃xs gd,r_ v h=.ok ⟨xs,gd⟩ h/\Rps q h O ds xs/\(∀g∈gd,h[g.1]?=J (.lst g.2)/\g.1≠q)/\(Rp q h O d v->∀g∈gd,g.1∉O):=by
 have one:∀n xs,h[n]?=J (MO.lst xs)->n≠q->(∀g∈[(n,xs)],h[g.1]?=J (MO.lst g.2)/\g.1≠q):=λn xs g l y a=>by
  have:y=(n,xs):=by simpa using a
  subst this;exact⟨g,l⟩
 cases d with
 |lst i =>
  have:i=ds:=by simpa using e
  subst this;rcases w with⟨n,xs,e1,f,g,r⟩|⟨n,u,xs,j,e0,e1,_,l,g,r⟩
  .subst e1;refine⟨xs,[(n,xs)],by simp only[r_,g],r,one n xs g (λz=>f (z▸B)),λ_ y a=>?_⟩
   have:y=(n,xs):=by simpa using a
   subst this;exact f
  .obtain⟨rfl,rfl⟩:=gw e0;subst e1;replace g:h[n]?=J (.lst xs):=g;refine⟨xs,[(n,xs)],by simp only[r_,g],r,one n xs g ⋯,λ⟨E,C,e1,f,_,_⟩ y a=>?_⟩
   grind
 |tup i =>
  have:i=ds:=by simpa using e
  subst this;rcases w with⟨xs,e1,r⟩|⟨n,u,xs,j,e0,_⟩
  .subst e1;exact⟨xs,[],rfl,r,(λ_ a=>nomatch a),λ_ _ a=>nomatch a⟩
  .cases u<;>cases e0
 |_=>simp[D.items]at e
def bT(a:Xe ws):Xi ws where
 m:=c9 a.m
 p:=λenv s=>(a.p env s).bind λx i=>.of x.items i
 fz:=a.fz
 ok {q h L B O Z env s} c:=by
  refine(a.ok c).bind λx v y i C u ⟨w,z,_⟩=>?_
  cases e:x.items with
  |none=>trivial
  |some E =>
   obtain⟨xs,gd,e1,r,l,j⟩:=w.seq c.pL c.pO e;exact⟨⟨xs,gd⟩,y,e1,KB.refl _ _,u,r,l,λf=>j (z f)⟩
structure Xg(ws:QP) where
 m:Mg
 p:D->aw->Option aw
 ok:∀{q h L O Z env d v env'},SR q h L O ws Z env->Rp q h O d v->p d env=J env'->∃Z',m v Z h=.nx Z' h/\SR q h L O ws Z' env'/\∀i∈ws,Z'[i]?=Z[i]?/\env'[i]?=env[i]?
structure DN(ws:QP) where
 m:BZ
 p:QQ->aw->Option aw
 ok:∀{q h L O Z env ds vs env'},SR q h L O ws Z env->Rps q h O ds vs->p ds env=J env'->∃Z',m vs Z h=.nx Z' h/\SR q h L O ws Z' env'/\∀i∈ws,Z'[i]?=Z[i]?/\env'[i]?=env[i]?
def SR.set(r:SR q h L O ws Z env)(f:i∉ws)(w:Rp q h O d v):SR q h L O ws (Z.set i (J v)) (env.set i (J d))/\∀j∈ws,(Z.set i (J v))[j]?=Z[j]?/\(env.set i (J d))[j]?=env[j]?:=by
 have ne:∀j∈ws,i≠j:=λj a z=>f (z▸a);refine⟨⟨by simp[r.len],λj e a hw=>?_,λj e a hw=>?_⟩,λj a=>⟨p6 (ne j a),p6 (ne j a)⟩⟩
 .by_cases z:i=j
  .subst z;have hl:i<env.length:=by
    have:=(qi.mp a).1;simpa using this
   rw[zO hl]at a;cases a;exact⟨v,zO (by rw[r.len];exact hl),w⟩
  .rw[p6 z]at a;obtain⟨u,e1,B⟩:=r.fz j e a hw
   simp_all
 .rw[p6 (ne j hw)]at a;obtain⟨n,l,xs,y,e1,e2,rest⟩:=r.ow j e a hw;exact⟨n,l,xs,y,e1,by rw[p6 (ne j hw)];exact e2,rest⟩
def i0(i:Nat)(j:ws.contains i=T:=by exact ys rfl):Xg ws where
 m:=mA i
 p:=λd env=>J (env.set i (J d))
 ok {q h L O Z env d v env'} r w e:=by
  cases e;have f:i∉ws:=λz=>by simp[z]at j
  obtain⟨a,b⟩:=r.set f w;exact⟨_,rfl,a,b⟩
def ts:DN ws where
 m:=wv
 p:=λa env=>match a with
  |[]=>J env
  |_=>Y
 ok {q h L O Z env a vs env'} r w e:=by
  cases a with
  |nil =>
   cases e
   have:vs=[]:=w
   subst this;exact⟨Z,rfl,r,λ_ _=>⟨rfl,rfl⟩⟩
  |cons _ _=>cases e
def lR(a:Xg ws)(t:DN ws):DN ws where
 m:=qb a.m t.m
 p:=λj env=>match j with
  |d::j=>(a.p d env).bind λf=>t.p j f
  |[]=>Y
 ok {q h L O Z env j vs env'} r w e:=by
  cases j with
  |nil=>cases e
  |cons d j =>
   obtain⟨x,y,rfl,G,F⟩:=w;dsimp only at e
   cases e1:a.p d env with
   |none=>rw[e1]at e;cases e
   |some f =>
    rw[e1]at e;obtain⟨P,C,E,u⟩:=a.ok r G e1;obtain⟨H,M,B,z⟩:=t.ok E F e;exact⟨H,by show(a.m x Z h).then (t.m y)=_;rw[C];exact M,B,λi l=>⟨(z i l).1.trans (u i l).1,(z i l).2.trans (u i l).2⟩⟩
def tx(t:DN ws)(n:Nat):Xg ws where
 m:=wy t.m n
 p:=λd env=>match d with
  |.tup f=>if f.length=n then t.p f env else Y
  |_=>Y
 ok {q h L O Z env d v env'} r w e:=by
  cases d with
  |tup f =>
   obtain⟨xs,rfl,w⟩:=w;dsimp only at e;by_cases z:f.length=n
   .rw[e_ z]at e;obtain⟨i,a,b⟩:=t.ok r w e;exact⟨i,by show(if xs.length=n then t.m xs Z h else .bad)=_;rw[e_ (by rw[w.length];exact z)];exact a,b⟩
   .rw[hI z]at e;cases e
  |_=>cases e
def AY(a:Nat)(fm ws:QP):QP:=((List.range fm.length).filter λj=>ws.contains (fm.getD j 0)).map (a+·)
def t_(a:Nat)(fm:QP)(env:aw):aw:=List.replicate a Y++fm.map λi=>(env[i]?).getD Y
def PR.ne{α:Type}(r:PR α):PR α:=match r with
 |.exc _ _=>.bad
 |r=>r
@[simp]theorem PR.ne_ok(a:α)(s:d_):(PR.ok a s).ne=.ok a s:=rfl
def cT(g:D->aw->Option aw)(t:aw->d_->PR Bool)(e:aw->d_->PR D):QQ->aw->d_->PR (QQ)
 |[],_,s=>.ok [] s
 |d::i,env,s=>match g d env with
  |none=>.bad
  |some a=>(t a s).bind λb f=>if b=I then(e a f).bind λx l=>(cT g t e i a l).bind λr j=>.ok (x::r) j else cT g t e i a f
def Js{a:Nat}{fm:QP}{α:Type}{env:List (Option α)}{i:Nat}{d:α}(e:(List.replicate a Y++fm.map λi=>(env[i]?).getD Y)[i]?=J (J d)):∃j k,i=a+j/\fm[j]?=J k/\env[k]?=J (J d):=by
 by_cases z:i<a
 .rw[q7 (by simpa using z)]at e;simp[z]at e
 .rw[AA (by simp;lia)]at e;simp only[HM,u_]at e
  cases f:fm[i-a]? with
  |none=>rw[f]at e;cases e
  |some k =>
   rw[f]at e;simp only[Ew]at e;refine⟨i-a,k,⋯,f,?_⟩
   cases l:env[k]? with
   |none=>rw[l]at e;cases e
   |some o=>rw[l]at e;simp at e;rw[e]
def Jt{a:Nat}{fm:QP}{α:Type}{Z:List (Option α)}{j k:Nat}{v:α}(e1:fm[j]?=J k)(e2:Z[k]?=J (J v)):(List.replicate a Y++fm.map λi=>(Z[i]?).getD Y)[a+j]?=J (J v):=by rw[AA (by simp)];simp[e1,e2]
def uT(e:fm[j]?=J k):nv+j∈AY nv fm ws↔k∈ws:=by
 have a:=(qi.mp e).1;unfold AY
 simp_all
def SR.comp{q:Nat}{h:MH}{L:Nat}{O:QP}{Z:n8}{env:aw}(a:Nat)(fm:QP)(r:SR q h L O ws Z env):SR q h L O (AY a fm ws) (Bm a fm Z) (t_ a fm env):=by
 refine⟨by simp[Bm,t_],λi d e f=>?_,λi d e f=>?_⟩
 .obtain⟨j,k,rfl,e1,e2⟩:=Js e;obtain⟨v,e3,w⟩:=r.fz k d e2 λz=>f ((uT e1).mpr z);exact⟨v,Jt e1 e3,w⟩
 .obtain⟨j,k,rfl,e1,e2⟩:=Js e;obtain⟨n,l,xs,u,e0,e3,w⟩:=r.ow k d e2 ((uT e1).mp f);exact⟨n,l,xs,u,e0,Jt e1 e3,w⟩
def FT(gt:Xg u)(t:Xt u)(e:Xe u)(hz:e.fz=I)(hq:q<h1.length)(gd:∀g∈it.gd,h1[g.1]?=J (.lst g.2)/\g.1≠q):
  ∀(R:QQ)(xs:QL)(env:aw)(Z:n8)(h:MH)(j:QQ)(f:QL)(s:d_)(r:QQ)(X:d_),(∀i∈u,∀d,env[i]?=J (J d)->∀n,Z[i]?=J (J (.loc n))->n<h1.length)->KB q h1 h->Cx q h L B (h1.length::O) u Z env s->Rps q h (h1.length::O) R xs->h[h1.length]?=J (.lst f)->Rps q h (h1.length::O) j f->j.length+R.length<=100000 ->
  cT gt.p t.p e.p R env s=.ok r X->∃F S,zo it h1.length gt.m t.m e.m xs Z h=.ok () F/\KB q h1 F/\aW F q X/\F[h1.length]?=J (.lst S)/\Rps q F (h1.length::O) (j++r) S:=by
 intro R
 induction R with
 |nil =>
  intro xs env Z h j f s r X on kb c rx ga W hl a
  have:xs=[]:=rx
  subst this;cases a;have ok:it.ok h:=λg hg=>(kb.keep _ (au (gd g hg).1) (gd g hg).2).trans (gd g hg).1;exact⟨h,f,by rw[zo,e_ ok],kb,c.pen,ga,by simpa using W⟩
 |cons d R ih =>
  intro xs env Z h j f s r X on kb c rx ga W hl a;obtain⟨x,xr,rfl,r1,r2⟩:=rx;have ok:it.ok h:=λg hg=>(kb.keep _ (au (gd g hg).1) (gd g hg).2).trans (gd g hg).1;rw[cT]at a
  cases eg:gt.p d env with
  |none=>rw[eg]at a;cases a
  |some l =>
   rw[eg]at a;dsimp only at a;obtain⟨U,f1,al,k1⟩:=gt.ok c.sr r1 eg;have P:∀i∈u,∀d,l[i]?=J (J d)->∀n,U[i]?=J (J (.loc n))->n<h1.length:=λi H d e n z=>on i H d ((k1 i H).2▸e) n ((k1 i H).1▸z);have c1:Cx q h L B (h1.length::O) u U l s:=⟨c.bd,c.sub,c.bb,c.pb,c.hL,c.pen,al⟩;have kt:=t.ok c1
   cases et:t.p l s with
   |bad=>rw[et]at a;cases a
   |exc _ _=>rw[et]at a;cases a
   |ok b s1 =>
    rw[et]at a kt;obtain⟨b',h2,f2,k2,p2,eb⟩:=kt;subst eb;have c2:=c1.kb k2 p2;have E:Mv (h1.length::O) h (h1.length::O) h2:=k2.mv c.pO;have hn:h1.length<h.length:=au ga;have Q:h2[h1.length]?=J (.lst f):=(k2.keep _ hn ⋯).trans ga;rw[Pb]at a
    cases b with
    |false =>
     rw[hI (by simp)]at a;obtain⟨F,S,a1,a2⟩:=ih xr l U h2 j f s1 r X P (kb.trans k2) c2 (r2.mv E) Q (W.mv E) (by simp at hl;lia) a;refine⟨F,S,?_,a2⟩;rw[zo,e_ ok,f1];simp only[f2,Out.ne_ok,Out.bind_ok,vI,if_false];exact a1
    |true =>
     rw[e_ rfl]at a;have ke:=e.ok c2
     cases ee:e.p l s1 with
     |bad=>rw[ee]at a;cases a
     |exc _ _=>rw[ee]at a;cases a
     |ok y s2 =>
      rw[ee]at a ke;obtain⟨v,G,f3,k3,p3,_,rv,_⟩:=ke;have rv:=rv hz;have M:=c2.kb k3 p3;have ak:Mv (h1.length::O) h2 (h1.length::O) G:=k3.mv c.pO;have ab:G[h1.length]?=J (.lst f):=(k3.keep _ (au Q) ⋯).trans Q;have C:Mv (h1.length::O) G (h1.length::O) (G.set h1.length (.lst (f++[v]))) :=
       ⟨λn hn no=>p6 (λz=>no (by simp[z])),λo ho=>.inl ho⟩
      have an:Rps q G (h1.length::O) (j++[y]) (f++[v]):=((W.mv E).mv ak).app ⟨v,[],rfl,rv,rfl⟩;rw[Pb]at a
      cases er:cT gt.p t.p e.p R l s2 with
      |bad=>rw[er]at a;cases a
      |exc _ _=>rw[er]at a;cases a
      |ok r' s3 =>
       rw[er]at a;cases a;have ai:KB q h1 G:=(kb.trans k2).trans k3;have c4:Cx q (G.set h1.length (.lst (f++[v]))) L B (h1.length::O) u U l s2:=by
        refine⟨λo ho=>by simpa using M.bd o ho,M.sub,M.bb,M.pb,by simpa using M.hL,?_,?_⟩
        .unfold aW;rw[p6 ⋯];exact p3
        .refine⟨M.sr.len,λi d e H=>let⟨v,e1,q1⟩:=M.sr.fz i d e H;⟨v,e1,q1.mv C⟩,λi d e H=>?_⟩;obtain⟨n,kd,ys,es,b1,b2,b3,b4,b5,b6⟩:=M.sr.ow i d e H;have z:=P i H d e n b2;exact⟨n,kd,ys,es,b1,b2,b3,b4,by rw[p6 ⋯];exact b5,b6.mv C⟩
       obtain⟨F,S,a1,a2,a3,a4,a5⟩:=ih xr l U (G.set h1.length (.lst (f++[v]))) (j++[y]) (f++[v]) s2 r' _ P ⟨by simpa using ai.len,λn hn hp=>by rw[p6 ⋯];exact ai.keep n hn hp⟩ c4 (((r2.mv E).mv ak).mv C) (zO (au ab)) (an.mv C) (by simp at hl ⊢;lia) er;refine⟨F,S,?_,a2,a3,a4,by simpa using a5⟩;rw[zo,e_ ok,f1];simp only[f2,Out.ne_ok,Out.bind_ok,if_true,f3,ab];rw[e_ (by have:=eM;have:=W.length;simp at hl;lia)];exact a1
def bx(a:Nat)(fm:QP)(i:Xi ws){ws':QP}(g:Xg ws')(t:Xt ws')(e:Xe ws')(hw:AY a fm ws=ws':=by exact ys rfl)(hz:e.fz=I:=by exact ys rfl):Xe ws where
 m:=bI a fm i.m g.m t.m e.m
 p:=λenv s=>(i.p env s).bind λu y=>if u.length<=100000 then (match cT g.p t.p e.p u (t_ a fm env) y with
  |.ok r F=>.ok (.lst r) F
  |_=>.bad)else .bad
 fz:=I
 fr:=I
 ok {q h L B O Z env s} c:=by
  subst hw;refine(i.ok c).bind λu U j y H G ⟨W,gd,_⟩=>?_;have C:=c.kb H G;by_cases hl:u.length<=100000
  .rw[e_ hl]
   cases er:cT g.p t.p e.p u (t_ a fm env) y with
   |bad=>trivial
   |exc _ _=>trivial
   |ok r F =>
    have mv:Mv O j (j.length::O) (j++[MO.lst []]):=⟨λn E _=>q7 E,λo l=>by
     rcases p_.mp l with z|z
     .exact .inr ⋯
     .exact .inl z⟩
    have sr:=(C.sr.comp a fm).mv mv (λo l=>p5 _ l) λn E _ _=>q7 E;have c2:Cx q (j++[MO.lst []]) L B (j.length::O) (AY a fm ws) (Bm a fm Z) (t_ a fm env) y:=by
     refine⟨λo l=>?_,λo l=>p5 _ (c.sub o l),c.bb,c.pb,by have:=C.hL;simp;lia,G.app,sr⟩;rcases p_.mp l with z|z
     .subst z;simp
     .have:=C.bd o z;simp;lia
    have hq:q<j.length:=au G
    obtain⟨Q,R,X,a2,a3,S,a5⟩:=FT g t e hz (L:=L) (B:=B) (O:=O) hq gd u U.xs (t_ a fm env) (Bm a fm Z) (j++[MO.lst []]) [] [] y r F (λi hi d ed n P=>by
     obtain⟨n',_,_,_,_,b2,_,_,b5,_⟩:=(C.sr.comp a fm).ow i d ed hi;rw[b2]at P;cases P
     exact au b5) (KB.app _ _ _) c2 (W.mv mv) (by simp) rfl (by simpa using hl) er
    have f:Frs q h.length O Q (.lst r) (.loc j.length):=λk u e=>by
     obtain⟨rfl,rfl⟩:=gw e;exact⟨_,R,rfl,H.len,S,by simpa using a5⟩
    have M:=f.rp (k:=Y) c.bd rfl;exact⟨.loc j.length,Q,by show(zo _ _ _ _ _ _ _ _).bind _=_;rw[X];rfl,a2,a3,.inl M,λ_=>M,λ_=>f⟩
  .rw[hI hl];trivial
end
inductive PS where
 |nx(e:aw)(s:d_)
 |rt(d:D)(s:d_)
 |bk(e:aw)(s:d_)
 |ct(e:aw)(s:d_)
 |exc(c:Str)(e:aw)(s:d_)
 |rse(c:Str)(e:aw)(s:d_)
 |bad
structure Stp(q L:Nat)(h:MH)(O:QP)(h':MH)(O':QP):Prop where
 len:h.length<=h'.length
 mv:Mv O h O' h'
 sub:∀o∈O,o∈O'
 base:∀n:Nat,n<L->n≠q->h'[n]?=h[n]?
def Stp.refl(q L:Nat)(h:MH)(O:QP):Stp q L h O h O:=⟨mu _,⟨λ_ _ _=>rfl,λ_ h=>.inl h⟩,λ_ h=>h,λ_ _ _=>rfl⟩
def Stp.trans(a:Stp q L h O h1 O1)(b:Stp q L h1 O1 h2 O2):Stp q L h O h2 O2:=by
 refine⟨qs a.len b.len,⟨λn f l=>?_,λo i=>?_⟩,λo i=>b.sub o (a.sub o i),λn f j=>(b.base n f j).trans (a.base n f j)⟩
 .have u:n∉O1:=λz=>by
   rcases a.mv.new n z with q|q
   .exact l q
   .lia
  exact(b.mv.keep n (sw f a.len) u).trans (a.mv.keep n f l)
 .rcases b.mv.new o i with z|z
  .exact a.mv.new o z
  .exact .inr (qs a.len z)
def Dis(a:QP)(Z:n8)(env:aw):Prop:=∀i j,i∈a->j∈a->i≠j->∀d f n,env[i]?=J (J d)->env[j]?=J (J f)->Z[i]?=J (J (.loc n))->Z[j]?≠J (J (.loc n))
inductive Nxt(q L:Nat)(h:MH)(B O ws:QP)(Z':n8)(h':MH)(env:aw)(s:d_):Prop
 |mk(O':QP)(a:Stp q L h O h' O')(c:Cx q h' L B O' ws Z' env s)(d:Dis ws Z' env):Nxt q L h B O ws Z' h' env s
inductive HB(q L:Nat)(h:MH)(B O ws:QP)(f:n8->MH->SOut)(o:SOut)(env:aw)(s:d_):Prop
 |mk(Z':n8)(h':MH)(e:o=f Z' h')(n:Nxt q L h B O ws Z' h' env s):HB q L h B O ws f o env s
inductive Pj(q L:Nat)(h:MH)(B:QP)(fr:Bool)(o:SOut)(d:D)(s:d_):Prop
 |mk(v:PV)(h':MH)(e:o=.rt v h')(l:h.length<=h'.length)(b:∀n:Nat,n<L->n≠q->h'[n]?=h[n]?)(p:aW h' q s)(r:Rp q h' B d v)(f:fr=I->Frs q L B h' d v):Pj q L h B fr o d s
def SOk(q L:Nat)(h:MH)(B O a:QP)(fr:Bool)(o:SOut)(r:PS):Prop:=match r with
 |.nx env s=>HB q L h B O a .nx o env s
 |.bk env s=>HB q L h B O a .bk o env s
 |.ct env s=>HB q L h B O a .ct o env s
 |.exc c env s=>HB q L h B O a (.exc ⟨c,[]⟩) o env s
 |.rse c env s=>HB q L h B O a (.rse ⟨c,[]⟩) o env s
 |.rt d s=>Pj q L h B fr o d s
 |.bad=>True
structure Xd(ws:QP) where
 m:nr
 p:aw->d_->PS
 fr:Bool
 ok:∀{q h L B O Z env s},Cx q h L B O ws Z env s->Dis ws Z env->SOk q L h B O ws fr (m Z h) (p env s)
def Nxt.after(a:Stp q L h O h1 O1)(n:Nxt q L h1 B O1 ws Z' h' env s):Nxt q L h B O ws Z' h' env s :=
 let⟨f,b,c,d⟩:=n;⟨f,a.trans b,c,d⟩
def SOk.after(a:Stp q L h O h1 O1)(k:SOk q L h1 B O1 ws fr o r):SOk q L h B O ws fr o r:=by
 cases r with
 |nx env s=>obtain⟨i,f,e,n⟩:=k;exact⟨i,f,e,n.after a⟩
 |bk env s=>obtain⟨i,f,e,n⟩:=k;exact⟨i,f,e,n.after a⟩
 |ct env s=>obtain⟨i,f,e,n⟩:=k;exact⟨i,f,e,n.after a⟩
 |exc c env s=>obtain⟨i,f,e,n⟩:=k;exact⟨i,f,e,n.after a⟩
 |rse c env s=>obtain⟨i,f,e,n⟩:=k;exact⟨i,f,e,n.after a⟩
 |rt d s=>obtain⟨v,f,e,l,b,z,y,C⟩:=k;exact⟨v,f,e,qs a.len l,λn j u=>(b n j u).trans (a.base n j u),z,y,C⟩
 |bad=>trivial
def SOk.fr(hf:f'=I->f=I)(k:SOk q L h B O ws f o r):SOk q L h B O ws f' o r:=by
 cases r with
 |rt d s=>obtain⟨v,a,e,l,b,p,r,z⟩:=k;exact⟨v,a,e,l,b,p,r,λy=>z (hf y)⟩
 |nx env s=>exact k
 |bk env s=>exact k
 |ct env s=>exact k
 |exc c env s=>exact k
 |rse c env s=>exact k
 |bad=>trivial
def KB.stp(c:Cx q h L B O ws Z env s)(k:KB q h h'):Stp q L h O h' O :=
 ⟨k.len,k.mv c.pO,λ_ h=>h,λn f a=>k.keep n (sw f c.hL) a⟩
def PR.go{α:Type}(r:PR α)(env:aw)(k:α->aw->d_->PS):PS:=match r with
 |.ok a s=>k a env s
 |.exc c s=>.exc c env s
 |.bad=>.bad
@[simp]theorem Pg(a:α)(s:d_)(env:aw)(k:α->aw->d_->PS):(PR.ok a s).go env k=k a env s:=rfl
@[simp]theorem PR.go_exc(c:Str)(s:d_)(env:aw)(k:α->aw->d_->PS):(PR.exc c s:PR α).go env k=.exc c env s:=rfl
@[simp]theorem PR.go_bad(env:aw)(k:α->aw->d_->PS):(PR.bad:PR α).go env k=.bad:=rfl
theorem SOk.ex{α β:Type}{q L:Nat}{h:MH}{B O l:QP}{fr:Bool}{Z:n8}{env:aw}{s:d_}{o:Out β}{r:PR α}{R:MH->α->β->Prop}{f:β->nr}{g:α->aw->d_->PS}(c:Cx q h L B O l Z env s)(d:Dis l Z env)(k:Ok q h o r R)(n:∀a b i j,KB q h i->Cx q i L B O l Z env j->R i a b->SOk q L i B O l fr (f b Z i) (g a env j)):
  SOk q L h B O l fr (o.go Z f) (r.go env g):=by
 cases r with
 |ok a j =>
  obtain⟨b,i,rfl,kb,pn,u⟩:=k;exact(n a b i j kb (c.kb kb pn) u).after (kb.stp c)
 |exc x j =>
  obtain⟨i,rfl,kb,pn⟩:=k;exact⟨Z,i,rfl,O,kb.stp c,c.kb kb pn,d⟩
 |bad=>trivial
noncomputable section
variable{ws:QP}
def PS.then(r:PS)(k:aw->d_->PS):PS:=match r with
 |.nx env s=>k env s
 |r=>r
@[simp]theorem ax:(PS.nx env s).then k=k env s:=rfl
@[simp]theorem oU:(PS.rt d s).then k=.rt d s:=rfl
@[simp]theorem then_bk:(PS.bk env s).then k=.bk env s:=rfl
@[simp]theorem then_ct:(PS.ct env s).then k=.ct env s:=rfl
@[simp]theorem zn:(PS.exc c env s).then k=.exc c env s:=rfl
@[simp]theorem zp:(PS.rse c env s).then k=.rse c env s:=rfl
@[simp]theorem zu:PS.bad.then k=.bad:=rfl
def aM(a b:Xd ws):Xd ws where
 m:=aQ a.m b.m
 p:=λenv s=>(a.p env s).then b.p
 fr:=a.fr&&b.fr
 ok {q h L B O Z env s} c d:=by
  have k:=a.ok c d;show SOk q L h B O ws _ ((a.m Z h).then b.m) _
  cases e:a.p env s with
  |nx i u =>
   rw[e]at k;obtain⟨Q,P,e1,M,st,E,F⟩:=k;rw[e1];exact((b.ok E F).fr (by simp)).after st
  |rt x u=>rw[e]at k;obtain⟨v,j,e1,C,z,G,y,H⟩:=k;rw[e1];exact SOk.fr (f:=a.fr) (by simp;exact λh _=>h) (show SOk q L h B O ws a.fr (.rt v j) (.rt x u) from⟨v,j,rfl,C,z,G,y,H⟩)
  |bk i u=>rw[e]at k;obtain⟨l,j,e1,r⟩:=k;rw[e1];exact⟨l,j,rfl,r⟩
  |ct i u=>rw[e]at k;obtain⟨l,j,e1,r⟩:=k;rw[e1];exact⟨l,j,rfl,r⟩
  |exc x i u=>rw[e]at k;obtain⟨l,j,e1,r⟩:=k;rw[e1];exact⟨l,j,rfl,r⟩
  |rse x i u=>rw[e]at k;obtain⟨l,j,e1,r⟩:=k;rw[e1];exact⟨l,j,rfl,r⟩
  |bad=>trivial
def ln:Xd ws where
 m:=n7
 p:=.nx
 fr:=I
 ok {q h L B O Z env s} c d:=⟨Z,h,rfl,O,Stp.refl _ _ _ _,c,d⟩
def FU{m:Mx PV}{Z:n8}{h:MH}:bO m Z h=(m Z h).go Z λv _ a=>.rt v a:=by unfold bO;cases m Z h<;>rfl
def aZ(e:Xe ws):Xd ws where
 m:=bO e.m
 p:=λenv s=>(e.p env s).go env λd _ s=>.rt d s
 fr:=e.fr
 ok {q h L B O Z env s} c d:=by
  rw[FU];refine SOk.ex (f:=λv _ F=>.rt v F) (g:=λd _ s=>.rt d s) c d (e.ok c) λx v C H kb a ⟨w,z,f⟩=>?_;refine⟨v,C,rfl,mu _,λ_ _ _=>rfl,a.pen,w.base a.sub a.bb,λy=>?_⟩;intro k E G;obtain⟨n,xs,l,M,u,i⟩:=f y k E G
  have:=c.hL
  exact⟨n,xs,l,⋯,u,i.mv ⟨λ_ _ _=>rfl,λo j=>.inl (by
   rcases p_.mp j with z|z
   .subst z;simp
   .exact p5 _ (c.sub o z))⟩⟩
def lV(i:Nat)(E:ws.contains i=I:=by exact ys rfl):Xd ws where
 m:=bO (af i)
 p:=λenv s=>match env[i]? with
  |some (J d)=>.rt d s
  |_=>.bad
 fr:=I
 ok {q h L B O Z env s} c d:=by
  show SOk q L h B O ws _ _ (match env[i]? with|some (J d)=>PS.rt d s|_=>.bad)
  cases e:env[i]? with
  |none=>trivial
  |some o =>
   cases o with
   |none=>trivial
   |some x =>
    obtain⟨n,l,xs,y,e1,e2,a,b,g,r⟩:=c.sr.ow i x e (by simpa using E);subst e1
    have F:Mv O h (n::B) h:=⟨λ_ _ _=>rfl,λo C=>.inl (by
     rcases p_.mp C with z|z
     .subst z;exact a
     .exact c.sub o z)⟩
    have f:Frs q L B h (dl l y) (.loc n):=λu j e=>by
     have:u=l/\j=y:=by cases l<;>cases u<;>cases e<;>exact⟨rfl,rfl⟩
     obtain⟨rfl,rfl⟩:=this;exact⟨n,xs,rfl,b,g,r.mv F⟩
    refine⟨.loc n,h,by simp[bO,af,e2],mu _,λ_ _ _=>rfl,c.pen,f.rp c.bb rfl,λ_=>f⟩
def qQ(e:Xe ws):Xd ws where
 m:=fM e.m
 p:=λenv s=>(e.p env s).go env λ_=>.nx
 fr:=I
 ok {q h L B O Z env s} c d:=SOk.ex (f:=λ_=>n7) (g:=λ_=>.nx) c d (e.ok c) λx v i j kb a _=>⟨Z,i,rfl,O,Stp.refl _ _ _ _,a,d⟩
def xg(t:Xt ws)(a b:Xd ws):Xd ws where
 m:=Ax t.m a.m b.m
 p:=λenv s=>(t.p env s).go env λx env s=>if x=I then a.p env s else b.p env s
 fr:=a.fr&&b.fr
 ok {q h L B O Z env s} c d:=SOk.ex (f:=λx=>if x=I then a.m else b.m) (g:=λx env s=>if x=I then a.p env s else b.p env s) c d (t.ok c) λx v j l kb i e=>by
  subst e
  cases x with
  |true=>exact(a.ok i d).fr (by simp;exact λh _=>h)
  |false=>exact(b.ok i d).fr (by simp)
def Dis.keep(d:Dis ws Z env)(k:∀i∈ws,Z'[i]?=Z[i]?/\env'[i]?=env[i]?):Dis ws Z' env':=λi j l f ne x y n a b e=>by
 rw[(k i l).1]at e;rw[(k i l).2]at a;rw[(k j f).2]at b;rw[(k j f).1];exact d i j l f ne x y n a b e
def bn(i:Nat)(e:Xe ws)(y:ws.contains i=T:=by exact ys rfl)(l:e.fz=I:=by exact ys rfl):Xd ws where
 m:=aV i e.m
 p:=λenv s=>(e.p env s).go env λd env s=>.nx (env.set i (J d)) s
 fr:=I
 ok {q h L B O Z env s} c d:=by refine SOk.ex (f:=λv Z h=>.nx (Z.set i (J v)) h) (g:=λd env s=>.nx (env.set i (J d)) s) c d (e.ok c) λx v u C kb j ⟨_,z,_⟩=>?_;obtain⟨a,b⟩:=j.sr.set (i:=i) (λz=>by simp[z]at y) (z l);exact⟨_,u,rfl,O,Stp.refl _ _ _ _,⟨j.bd,j.sub,j.bb,j.pb,j.hL,j.pen,a⟩,d.keep b⟩
def D.mine:D->Bool
 |.lst _=>I
 |.dic fz _ _=>!fz
 |_=>T
def gb(i:Nat)(e:Xe ws)(hi:ws.contains i=I:=by exact ys rfl)(hz:e.fr=I:=by exact ys rfl):Xd ws where
 m:=aV i e.m
 p:=λenv s=>(e.p env s).go env λd env s=>if d.mine=I then .nx (env.set i (J d)) s else .bad
 fr:=I
 ok {q h L B O Z env s} c d:=by
  show SOk q L h B O ws _ _ _;have k:=e.ok c;show SOk q L h B O ws _ ((e.m Z h).go Z λv Z h=>.nx (Z.set i (J v)) h) _
  cases X:e.p env s with
  |bad=>trivial
  |exc x s1 =>
   rw[X]at k;obtain⟨M,e1,kb,pn⟩:=k;rw[e1];exact⟨Z,M,rfl,O,kb.stp c,c.kb kb pn,d⟩
  |ok x s1 =>
   rw[X]at k;obtain⟨v,M,e1,kb,pn,_,_,f⟩:=k;rw[e1];by_cases u:x.mine=I
   .obtain⟨G,C,rfl⟩:∃G C,x=dl G C:=by
     cases x with
     |lst C=>exact⟨Y,C,rfl⟩
     |dic fz ks C =>
      cases fz with
      |false=>exact⟨J ks,C,rfl⟩
      |true=>cases u
     |_=>cases u
    obtain⟨n,xs,rfl,hn,g,r⟩:=f hz G C rfl;show SOk q L h B O ws _ _ (if(dl G C).mine=I then _ else _);rw[e_ u];have c1:=c.kb kb pn;have S:i∈ws:=by simpa using hi
    have mv:Mv O h (n::O) M:=⟨λm u no=>kb.keep m u λz=>no (z▸c.pO),λo E=>by
     rcases p_.mp E with z|z
     .exact .inr ⋯
     .exact .inl z⟩
    have Q:n∉O:=λz=>by have:=c.bd n z;lia
    refine⟨Z.set i (J (.loc n)),M,rfl,n::O,⟨kb.len,mv,λo E=>p5 _ E,λm u hq=>kb.keep m (sw u c.hL) hq⟩,⟨λo E=>?_,λo E=>p5 _ (c.sub o E),c.bb,c.pb,c1.hL,pn,?_⟩,?_⟩
    .rcases p_.mp E with z|z
     .subst z;exact au g
     .exact c1.bd o z
    .have sr:=c.sr.mv mv (λo E=>p5 _ E) λm u hl _=>kb.keep m u (by have:=c.pL;lia);refine⟨by simp[sr.len],λj x l H=>?_,λj x l H=>?_⟩
     .have ne:i≠j:=λz=>H (z▸S);rw[p6 ne]at l;rw[p6 ne];exact sr.fz j x l H
     .by_cases z:i=j
      .subst z;have hl:i<env.length:=by have:=(qi.mp l).1;simpa using this
       rw[zO hl]at l;cases l;exact⟨n,G,xs,C,rfl,zO (by rw[sr.len];exact hl),by simp,by have:=c.hL;lia,g,r⟩
      .rw[p6 z]at l;rw[p6 z];exact sr.ow j x l H
    .have old:∀j d,j∈ws->i≠j->(env.set i (J (dl G C)))[j]?=J (J d)->(Z.set i (J (.loc n)))[j]?≠J (J (.loc n)):=λj d H ne l z=>by
      rw[p6 ne]at l z;obtain⟨n',_,_,_,_,W,b3,_⟩:=c.sr.ow j d l H;rw[z]at W;cases W;exact Q b3
     intro a b ha hb ne x y m P R F;by_cases z1:i=a
     .subst z1;have hl:i<Z.length:=by have:=(qi.mp F).1;simpa using this
      rw[zO hl]at F;cases F;exact old b y hb ne R
     .by_cases U:i=b
      .subst U;intro z;have hl:i<Z.length:=by have:=(qi.mp z).1;simpa using this
       rw[zO hl]at z;cases z;exact old a x ha z1 P F
      .rw[p6 z1]at P F;rw[p6 U]at R ⊢;exact d a b ha hb ne x y m P R F
   .show SOk q L h B O ws _ _ (if x.mine=I then _ else _);rw[hI u];trivial
end
end PU
namespace PU
open MM
open L2 (vf)
noncomputable section
variable{ws:QP}
def PS.turn(r:PS)(k:aw->d_->PS):PS:=match r with
 |.nx e s=>k e s
 |.ct e s=>k e s
 |.bk e s=>.nx e s
 |r=>r
@[simp]theorem turn_nx:(PS.nx e s).turn k=k e s:=rfl
@[simp]theorem turn_ct:(PS.ct e s).turn k=k e s:=rfl
@[simp]theorem turn_bk:(PS.bk e s).turn k=.nx e s:=rfl
@[simp]theorem turn_rt:(PS.rt d s).turn k=.rt d s:=rfl
@[simp]theorem yP:(PS.exc c e s).turn k=.exc c e s:=rfl
@[simp]theorem yY:(PS.rse c e s).turn k=.rse c e s:=rfl
@[simp]theorem Ju:PS.bad.turn k=.bad:=rfl
def AK(g:D->aw->Option aw)(b:aw->d_->PS):QQ->aw->d_->PS
 |[],env,s=>.nx env s
 |d::f,env,s=>match g d env with
  |none=>.bad
  |some a=>(b a s).turn (AK g b f)
def FV(g:Xg ws)(b:Xd ws):∀(G:QQ)(xs:QL)(env:aw)(Z:n8)(h:MH)(O:QP)(s:d_),Cx q h L B O ws Z env s->Dis ws Z env->Rps q h O G xs->(∀y∈it.gd,h[y.1]?=J (.lst y.2)/\y.1∉O) ->
  SOk q L h B O ws b.fr (vr it g.m b.m xs Z h) (AK g.p b.p G env s):=by
 intro G
 induction G with
 |nil =>
  intro xs env Z h O s c d r gd
  have:xs=[]:=r
  subst this;have ok:it.ok h:=λy z=>(gd y z).1;refine⟨Z,h,by rw[vr];dsimp only;rw[e_ ok],O,Stp.refl _ _ _ _,c,d⟩
 |cons x G R =>
  intro xs env Z h O s c d r gd;obtain⟨v,E,rfl,P,H⟩:=r;have ok:it.ok h:=λy z=>(gd y z).1;rw[AK]
  cases X:g.p x env with
  |none=>trivial
  |some j =>
   obtain⟨S,U,sr,k⟩:=g.ok c.sr P X;have c1:Cx q h L B O ws S j s:=⟨c.bd,c.sub,c.bb,c.pb,c.hL,c.pen,sr⟩;have kb:=b.ok c1 (d.keep k)
   have em:vr it g.m b.m (v::E) Z h=(match b.m S h with
    |.nx i f=>vr it g.m b.m E i f
    |.ct i f=>vr it g.m b.m E i f
    |.bk i f=>.nx i f
    |.rt v f=>.rt v f
    |.exc e i f=>.exc e i f
    |.rse e i f=>.rse e i f
    |.bad=>.bad):=by rw[vr];dsimp only;(rw[e_ ok,U])<;>rfl
   rw[em];have F:∀{f:MH}{u:QP},Stp q L h O f u->∀y∈it.gd,f[y.1]?=J (.lst y.2)/\y.1∉u:=λst y z=>by
    obtain⟨a,b⟩:=st.mv.get (gd y z).1 (gd y z).2;exact⟨b,a⟩
   dsimp only
   cases C:b.p j s with
   |bad=>trivial
   |nx e2 l =>
    rw[C]at kb;obtain⟨i,f,e1,u,st,M,Q⟩:=kb;rw[e1];exact(R E e2 i f u l M Q (H.mv st.mv) (F st)).after st
   |ct e2 l =>
    rw[C]at kb;obtain⟨i,f,e1,u,st,M,Q⟩:=kb;rw[e1];exact(R E e2 i f u l M Q (H.mv st.mv) (F st)).after st
   |bk e2 l=>rw[C]at kb;obtain⟨i,f,e1,r⟩:=kb;rw[e1];exact⟨i,f,rfl,r⟩
   |exc x e2 l=>rw[C]at kb;obtain⟨i,f,e1,r⟩:=kb;rw[e1];exact⟨i,f,rfl,r⟩
   |rse x e2 l=>rw[C]at kb;obtain⟨i,f,e1,r⟩:=kb;rw[e1];exact⟨i,f,rfl,r⟩
   |rt x l=>rw[C]at kb;obtain⟨v,f,e1,P,H,r3,W,r5⟩:=kb;rw[e1];exact⟨v,f,rfl,P,H,r3,W,r5⟩
def dG(i:Xi ws)(g:Xg ws)(b:Xd ws)(z:i.fz=I:=by exact ys rfl):Xd ws where
 m:=je i.m g.m b.m
 p:=λenv s=>(i.p env s).go env λa env s=>AK g.p b.p a env s
 fr:=b.fr
 ok {q h L B O Z env s} c d:=SOk.ex (f:=λj=>vr j g.m b.m j.xs) (g:=λa env s=>AK g.p b.p a env s) c d (i.ok c) λa j C E kb u r =>
  FV g b a j.xs env Z C O E u d r.1 λy l=>⟨(r.2.1 y l).1,r.2.2 z y l⟩
def eI(t:aw->d_->PR Bool)(b:aw->d_->PS):Nat->aw->d_->PS
 |0,_,_=>.bad
 |n+1,env,s=>(t env s).go env λx env s=>if x=I then(b env s).turn (eI t b n)else .nx env s
def oS(t:Xt ws)(b:Xd ws):∀(n:Nat)(env:aw)(Z:n8)(h:MH)(O:QP)(s:d_),Cx q h L B O ws Z env s->Dis ws Z env->SOk q L h B O ws b.fr (bY t.m b.m n Z h) (eI t.p b.p n env s)
 |0,env,Z,h,O,s,c,d=>trivial
 |n+1,env,Z,h,O,s,c,d=>by
  refine SOk.ex c d (t.ok c) λx v H C kb z e=>?_;subst e
  cases x with
  |false=>exact⟨Z,H,rfl,O,Stp.refl _ _ _ _,z,d⟩
  |true =>
   have k:=b.ok z d;rw[e_ rfl]
   cases j:b.p env C with
   |bad=>trivial
   |nx e2 i =>
    rw[j]at k;obtain⟨f,a,e1,l,st,u,y⟩:=k;rw[e1];exact(oS t b n e2 f a l i u y).after st
   |ct e2 i =>
    rw[j]at k;obtain⟨f,a,e1,l,st,u,y⟩:=k;rw[e1];exact(oS t b n e2 f a l i u y).after st
   |bk e2 i=>rw[j]at k;obtain⟨f,a,e1,r⟩:=k;rw[e1];exact⟨f,a,rfl,r⟩
   |exc x e2 i=>rw[j]at k;obtain⟨f,a,e1,r⟩:=k;rw[e1];exact⟨f,a,rfl,r⟩
   |rse x e2 i=>rw[j]at k;obtain⟨f,a,e1,r⟩:=k;rw[e1];exact⟨f,a,rfl,r⟩
   |rt x i=>rw[j]at k;obtain⟨v,a,e1,G,F,M,E,P⟩:=k;rw[e1];exact⟨v,a,rfl,G,F,M,E,P⟩
def Jv(N:Nat)(t:Xt ws)(b:Xd ws)(f:∀{Z h n},bY t.m b.m n Z h≠.bad->Fm t.m b.m Z h=bY t.m b.m n Z h):Xd ws where
 m:=Fm t.m b.m
 p:=eI t.p b.p N
 fr:=b.fr
 ok {q h L B O Z env s} c d:=by
  have k:=oS t b N env Z h O s c d;by_cases z:bY t.m b.m N Z h=.bad
  .rw[z]at k
   cases e:eI t.p b.p N env s with
   |bad=>trivial
   |nx e2 a=>rw[e]at k;obtain⟨_,_,e1,_⟩:=k;cases e1
   |ct e2 a=>rw[e]at k;obtain⟨_,_,e1,_⟩:=k;cases e1
   |bk e2 a=>rw[e]at k;obtain⟨_,_,e1,_⟩:=k;cases e1
   |exc x e2 a=>rw[e]at k;obtain⟨_,_,e1,_⟩:=k;cases e1
   |rse x e2 a=>rw[e]at k;obtain⟨_,_,e1,_⟩:=k;cases e1
   |rt x a=>rw[e]at k;obtain⟨_,_,e1,_⟩:=k;cases e1
  .rw[f z];exact k
structure DO where
 m:Nat->QL->MH->QX
 p:QQ->QQ->Option (D×QQ)
 ok:∀{q:Nat}{h:MH}{O:QP}{n:Nat}{xs:QL}{ds as:QQ}{vs:QL}{d:D}{ds':QQ},h[n]?=J (.lst xs)->Rps q h O ds xs->Rps q h O as vs->p ds as=J (d,ds')->∃v xs',m n vs h=.ok v (h.set n (.lst xs'))/\Rps q h O ds' xs'/\Rp q h O d v
def sH{q h L B O Z env s n xs' ds' i d0 kd}(c:Cx q h L B O ws Z env s)(d:Dis ws Z env)(H:i∈ws)(e:env[i]?=J (J d0))(E:Z[i]?=J (J (.loc n)))(r:Rps q h O ds' xs'):
  Nxt q L h B O ws Z (h.set n (mo kd xs')) (env.set i (J (dl kd ds'))) s:=by
 obtain⟨n',k0,xs,ab,e0,e2,a,b,g,r0⟩:=c.sr.ow i _ e H;rw[E]at e2;cases e2;have mv:Mv O h O (h.set n (mo kd xs')):=⟨λm R S=>p6 (λ(z:n=m)=>S (z▸a)),λo C=>.inl C⟩;have hp:=c.pL;have Q:=(qi.mp e).1;refine⟨O,⟨by simp,mv,λ_ h=>h,λm R _=>p6 ⋯⟩,⟨λo C=>by simpa using c.bd o C,c.sub,c.bb,c.pb,by simpa using c.hL,?_,⟨by simp[c.sr.len],λj x f l=>?_,λj x f l=>?_⟩⟩,?_⟩
 .unfold aW;rw[p6 ⋯];exact c.pen
 .have ne:i≠j:=λz=>l (z▸H);rw[p6 ne]at f;obtain⟨v,e1,w⟩:=c.sr.fz j x f l;exact⟨v,e1,w.mv mv⟩
 .by_cases z:i=j
  .subst z;rw[zO Q]at f;cases f;exact⟨n,kd,xs',ds',rfl,E,a,b,zO (au g),r.mv mv⟩
  .rw[p6 z]at f;obtain⟨m,U,ys,G,e1,e3,b3,b4,b5,b6⟩:=c.sr.ow j x f l
   have:n≠m:=λy=>d i j H l z _ _ n e f E (y▸e3)
   exact⟨m,U,ys,G,e1,e3,b3,b4,by rw[p6 this];exact b5,b6.mv mv⟩
 .intro j k l W ne x y m f X e1;have P:∀j x,(env.set i (J (dl kd ds')))[j]?=J (J x)->∃F,env[j]?=J (J F):=λj x f=>by
   by_cases z:i=j
   .subst z;exact⟨_,e⟩
   .rw[p6 z]at f;exact⟨x,f⟩
  obtain⟨F,u⟩:=P j x f;obtain⟨y',M⟩:=P k y X;exact d j k l W ne F y' m u M e1
def ub{q h L B O Z env s n xs' ds' i ds}(c:Cx q h L B O ws Z env s)(d:Dis ws Z env)(f:i∈ws)(e:env[i]?=J (J (D.lst ds)))(a:Z[i]?=J (J (.loc n)))(r:Rps q h O ds' xs'):
  Nxt q L h B O ws Z (h.set n (.lst xs')) (env.set i (J (.lst ds'))) s:=sH (kd:=Y) c d f e a r
def Jw(o:DO)(i:Nat)(a:Xs ws)(G:i∈ws)(E:a.fz=I){q h L B O Z env s}(c:Cx q h L B O ws Z env s)(d:Dis ws Z env)(u:a.p env s=.ok as s1)(Q:env[i]?=J (J (.lst ds)))(z:o.p ds as=J (r,ds')):∃v j n f,KB q h j/\Cx q j L B O ws Z env s1/\Z[i]?=J (J (.loc n))/\AW o.m (af i) a.m Z h=.ok v (j.set n (.lst f))/\Rps q j O ds' f/\Rp q j O r v:=by
 obtain⟨n,W,xs,H,e0,e2,X,S,g,R⟩:=c.sr.ow i _ Q G;obtain⟨rfl,rfl⟩:=gw e0;replace g:h[n]?=J (.lst xs):=g;have l:=a.ok c;rw[u]at l;obtain⟨U,j,e3,kb,pn,_,P⟩:=l;have M:=c.kb kb pn;have C:=(kb.keep n (au g) (by have:=c.pL;lia)).trans g;obtain⟨v,f,e4,F,y⟩:=o.ok C (R.mv (kb.mv c.pO)) (P E) z;refine⟨v,j,n,f,kb,M,e2,?_,F,y⟩;have em:af i Z h=.ok (.loc n) h:=by simp[af,e2]
 simp_all
def A6(o:DO)(i:Nat)(a:aw->d_->PR (QQ))(env:aw)(s:d_)(k:D->aw->d_->PS):PS:=match a env s with
 |.ok j l=>(match env[i]? with
  |some (J (.lst u))=>(match o.p u j with
   |some (r,f)=>k r (env.set i (J (.lst f))) l
   |none=>.bad)
  |_=>.bad)
 |_=>.bad
def xo(e1:a env s=.ok as s1)(e2:env[i]?=J (J (.lst ds)))(e3:o.p ds as=J (r,ds')):A6 o i a env s k=k r (env.set i (J (.lst ds'))) s1:=by simp only[A6,e1,e2,e3]
def Ck:A6 o i a env s k=.bad\/∃j u l r f,a env s=.ok j u/\env[i]?=J (J (.lst l))/\o.p l j=J (r,f)/\A6 o i a env s k=k r (env.set i (J (.lst f))) u:=by
 cases e1:a env s with
 |bad=>left;simp only[A6,e1]
 |exc _ _=>left;simp only[A6,e1]
 |ok j u =>
  cases e2:env[i]? with
  |none=>left;simp only[A6,e1,e2]
  |some x =>
   cases x with
   |none=>left;simp only[A6,e1,e2]
   |some d =>
    cases d with
    |lst l =>
     cases e3:o.p l j with
     |none=>left;simp only[A6,e1,e2,e3]
     |some y=>exact .inr ⟨j,u,l,y.1,y.2,rfl,rfl,e3,xo e1 e2 e3⟩
    |_=>left;simp only[A6,e1,e2]
def DP(o:DO)(i:Nat)(a:Xs ws)(F:ws.contains i=I:=by exact ys rfl)(l:a.fz=I:=by exact ys rfl):Xd ws where
 m:=fM (AW o.m (af i) a.m)
 p:=λenv s=>A6 o i a.p env s λ_=>.nx
 fr:=I
 ok {q h L B O Z env s} c d:=by
  rcases Ck (o:=o) (i:=i) (a:=a.p) (env:=env) (s:=s) (k:=λ_=>.nx)with z|⟨P,H,Q,r,C,e1,e2,e3,z⟩
  .rw[z];trivial
  .rw[z];have f:i∈ws:=by simpa using F
   obtain⟨v,E,n,j,kb,G,u,em,y,M⟩:=Jw o i a f l c d e1 e2 e3;refine⟨Z,E.set n (.lst j),?_,(ub G d f e2 u y).after (kb.stp c)⟩;unfold fM vC;rw[em];rfl
def eL(i:Nat)(e l:aw->d_->PR D)(env:aw)(s:d_):PS:=match e env s with
 |.ok v u=>(match l env u with
  |.ok (.int j) f=>(match env[i]? with
   |some (J (.lst a))=>(match vf a.length j with
    |some n=>.nx (env.set i (J (.lst (a.set n v)))) f
    |none=>.bad)
   |_=>.bad)
  |_=>.bad)
 |_=>.bad
def lE(e1:e env s=.ok v s1)(e2:ix env s1=.ok (.int j) s2)(e3:env[i]?=J (J (.lst ds)))(e4:vf ds.length j=J n):eL i e ix env s=.nx (env.set i (J (.lst (ds.set n v)))) s2:=by simp only[eL,e1,e2,e3,e4]
def zq:eL i e ix env s=.bad\/∃v f j l a n,e env s=.ok v f/\ix env f=.ok (.int j) l/\env[i]?=J (J (.lst a))/\vf a.length j=J n/\eL i e ix env s=.nx (env.set i (J (.lst (a.set n v)))) l:=by
 cases e1:e env s with
 |bad=>left;simp only[eL,e1]
 |exc _ _=>left;simp only[eL,e1]
 |ok v f =>
  cases e2:ix env f with
  |bad=>left;simp only[eL,e1,e2]
  |exc _ _=>left;simp only[eL,e1,e2]
  |ok k l =>
   cases k with
   |int j =>
    cases e3:env[i]? with
    |none=>left;simp only[eL,e1,e2,e3]
    |some x =>
     cases x with
     |none=>left;simp only[eL,e1,e2,e3]
     |some d =>
      cases d with
      |lst a =>
       cases e4:vf a.length j with
       |none=>left;simp only[eL,e1,e2,e3,e4]
       |some n=>exact .inr ⟨v,f,j,l,a,n,rfl,e2,rfl,e4,lE e1 e2 e3 e4⟩
      |_=>left;simp only[eL,e1,e2,e3]
   |_=>left;simp only[eL,e1,e2]
def Vw.int(w:Vw q h L O (.int b) v):v=.int b:=by
 rcases w with r|⟨n,a,xs,f,e,_⟩
 .exact r
 .cases a<;>cases e
def pD(i:Nat)(e u:Xe ws)(hi:ws.contains i=I:=by exact ys rfl)(hz:e.fz=I:=by exact ys rfl):Xd ws where
 m:=kZ e.m (Bs (af i) u.m)
 p:=eL i e.p u.p
 fr:=I
 ok {q h L B O Z env s} c d:=by
  rcases zq (i:=i) (e:=e.p) (ix:=u.p) (env:=env) (s:=s)with z|⟨v,s1,j,s2,ds,n,e1,e2,e3,e4,z⟩
  .rw[z];trivial
  .rw[z];have E:i∈ws:=by simpa using hi
   have M:=e.ok c;rw[e1]at M;obtain⟨x,H,X,l,G,_,W,_⟩:=M;have U:=c.kb l G;have S:=u.ok U;rw[e2]at S;obtain⟨y,C,f2,a,F,w,_,_⟩:=S;have Q:=U.kb a F;obtain⟨f,kd,xs,ab,e0,R,b1,b2,g,P⟩:=Q.sr.ow i _ e3 E;obtain⟨rfl,rfl⟩:=gw e0;replace g:C[f]?=J (.lst xs):=g;have hy:=w.int;subst hy;have em:af i Z H=.ok (.loc f) H:=by simp[af,R]
   have nx:=ub Q d E e3 R (xs':=xs.set n x) (ds':=ds.set n v) (P.set n ((W hz).mv (a.mv c.pO)));refine⟨Z,C.set f (.lst (xs.set n x)),?_,nx.after ((l.trans a).stp c)⟩;have e5:mK (.loc f) (.int j) x C=J (C.set f (.lst (xs.set n x))):=by simp only[mK,g];rw[P.length,e4];rfl
   have e6:Bs (af i) u.m x Z H=.nx Z (C.set f (.lst (xs.set n x))):=by simp only[Bs,vC,em,f2,e5]
   unfold kZ vC;rw[X];dsimp only;rw[e6]
def PS.fin(r:PS):PR D:=match r with
 |.nx _ s=>.ok .non s
 |.rt d s=>.ok d s
 |.exc c _ s=>.exc c s
 |.rse c _ s=>.exc c s
 |_=>.bad
@[simp]theorem xI:(PS.nx e s).fin=.ok .non s:=rfl
@[simp]theorem bS:(PS.rt d s).fin=.ok d s:=rfl
@[simp]theorem fin_exc:(PS.exc c e s).fin=.exc c s:=rfl
@[simp]theorem fin_rse:(PS.rse c e s).fin=.exc c s:=rfl
@[simp]theorem Ly:PS.bad.fin=.bad:=rfl
def m_(n:Nat)(a:QQ):aw:=a.map J++List.replicate (n-a.length) Y
def bM(n B:Nat)(b:Xd ws)(hw:ws.all (λi=>decide (B<=i))=I:=by exact ys rfl):Fn where
 m:=cr n B b.m
 p:=λu s=>if u.length=B then(b.p (m_ n u) s).fin else .bad
 fr:=b.fr
 ok {q h O vs u s} bd L pn r:=by
  by_cases hl:u.length=B
  .rw[e_ hl];have hv:vs.length=B:=by rw[r.length];exact hl
   have C:∀i d,(m_ n u)[i]?=J (J d)->i<B/\u[i]?=J d:=λi d e=>by
    by_cases z:i<u.length
    .refine⟨⋯,?_⟩;unfold m_ at e;rw[q7 (by simpa using z)]at e;simp at e;simpa using e
    .unfold m_ at e;rw[AA (by simpa using z)]at e;by_cases y:i-(u.map J).length<n-u.length
     .simp[Ep,y]at e
     .simp at y e;exact absurd e (by simp[Ep])
   have P:∀i d,(m_ n u)[i]?=J (J d)->i∉ws:=λi d e G=>by
    have:=(C i d e).1
    rw[List.all_eq_true]at hw
    have:=hw i G
    simp at this;lia
   have c:Cx q h h.length O O ws (bh n vs) (m_ n u) s:=by refine⟨bd,λ_ h=>h,bd,L,mu _,pn,⟨by simp[bh,m_,r.length],λi d e _=>?_,λi d e G=>absurd G (P i d e)⟩⟩;obtain⟨v,M,W⟩:=r.get (C i d e).2;refine⟨v,?_,W⟩;unfold bh;rw[q7 (by simpa using(qi.mp M).1)];simp[M]
   have k:=b.ok c λi j G _ _ d _ _ e=>absurd G (P i d e)
   have em:cr n B b.m vs h=(match b.m (bh n vs) h with
    |.nx _ a=>.ok .non a
    |.rt v a=>.ok v a
    |.exc x _ a=>.exc x a
    |.rse x _ a=>.exc x a
    |_=>.bad):=by unfold cr;(rw[e_ hv])<;>(cases b.m (bh n vs) h<;>rfl)
   rw[em];have kb:∀{a H},Stp q h.length h O a H->KB q h a:=λst=>⟨st.len,λm R L=>st.base m R L⟩
   cases e:b.p (m_ n u) s with
   |nx e1 F=>rw[e]at k;obtain⟨Q,a,f,H,st,E,_⟩:=k;rw[f];exact⟨.non,a,rfl,kb st,E.pen,rfl,λ_ k u e=>by cases k<;>cases e⟩
   |exc x e1 F=>rw[e]at k;obtain⟨Q,a,f,H,st,E,_⟩:=k;rw[f];exact⟨a,rfl,kb st,E.pen⟩
   |rse x e1 F=>rw[e]at k;obtain⟨Q,a,f,H,st,E,_⟩:=k;rw[f];exact⟨a,rfl,kb st,E.pen⟩
   |rt x F=>rw[e]at k;obtain⟨v,a,f,l,b,p,S,U⟩:=k;rw[f];exact⟨v,a,rfl,⟨l,b⟩,p,S,U⟩
   |bk e1 F=>trivial
   |ct e1 F=>trivial
   |bad=>trivial
  .rw[hI hl];trivial
def DQ(m:QL->MH->QX):Fn where
 m:=m
 p:=λ_ _=>.bad
 fr:=I
 ok _ _ _ _:=trivial
end
end PU
namespace PU
open MM SetT SortT
open L2 (vf pz fW)
noncomputable section
section
variable{q:Nat}{h:MH}{L:Nat}{O:QP}{v:PV}
def Vw.non(w:Vw q h L O .non v):v=.non:=by
 rcases w with r|⟨n,a,xs,f,e,_⟩
 .exact r
 .cases a<;>cases e
def Vw.str(w:Vw q h L O (.str x) v):v=.str x:=by
 rcases w with r|⟨n,a,xs,f,e,_⟩
 .exact r
 .cases a<;>cases e
inductive Pk(h:MH)(P:QL->Prop)(v:PV):Prop
 |mk(n:Nat)(xs:QL)(e:v=.loc n)(g:h[n]?=J (.lst xs))(r:P xs):Pk h P v
def Vw.lst(w:Vw q h L O (.lst ds) v):Pk h (Rps q h O ds) v:=by
 rcases w with⟨n,xs,e,_,g,r⟩|⟨n,f,xs,a,e,e1,_,_,g,r⟩
 .exact⟨n,xs,e,g,r⟩
 .obtain⟨rfl,rfl⟩:=gw e;exact⟨n,xs,e1,g,r⟩
def Vw.tup(w:Vw q h L O (.tup ds) v):M5 (Rps q h O ds) v:=by
 rcases w with r|⟨n,f,xs,a,e,_⟩
 .exact r
 .cases f<;>cases e
def FW(r:Rp q h O d v)(hf:fr=I->∀k a,d≠dl k a):Gv q h O fr (.ok v h) d :=
 ⟨v,[],by simp,by simpa using r,λz k a e=>absurd e (hf z k a)⟩
def AZ:Gv q h O fr (.ok (.int i) h) (.int i):=FW rfl λ_ k _ e=>by cases k<;>cases e
def zK:Gv q h O fr (.ok (.bl i) h) (.bl i):=FW rfl λ_ k _ e=>by cases k<;>cases e
def eN(w:FQ q h L O [d] vs):∃x,vs=[x]/\Vw q h L O d x:=by
 obtain⟨x,r,e,a,b⟩:=w
 have:r=[]:=b
 subst this;exact⟨x,e,a⟩
def Jx(w:FQ q h L O [d,d'] vs):∃x y,vs=[x,y]/\Vw q h L O d x/\Vw q h L O d' y:=by obtain⟨x,r,e,a,b⟩:=w;obtain⟨y,rfl,c⟩:=eN b;exact⟨x,y,e,a,c⟩
end
def tt(m:PV->PV->MH->QX)(f:Int->Int->D)(g:Int->Int->PV)(l:∀i j h,m (.int i) (.int j) h=.ok (g i j) h)(hg:∀i j q h O fr,Gv q h O fr (.ok (g i j) h) (f i j)):w_ where
 m:=m
 p:=λa b=>match a,b with
  |.int i,.int j=>J (f i j)
  |_,_=>Y
 fr:=I
 ok {q h L O a x b y d} bd wa wb e:=by
  cases a with
  |int i =>
   cases b with
   |int j=>cases e;rw[wa.int,wb.int,l];exact hg i j q h O I
   |_=>cases e
  |_=>cases e
def km:w_:=tt Bi (λi j=>.int (i-j)) (λi j=>.int (i-j)) (λ_ _ _=>rfl) λ_ _ _ _ _ _=>AZ
def FX:w_:=tt Bg (λi j=>.bl (decide (i<j))) (λi j=>.bl (decide (i<j))) (λ_ _ _=>rfl) λ_ _ _ _ _ _=>zK
def M7:w_:=tt Fo (λi j=>.bl (decide (i<=j))) (λi j=>.bl (decide (i<=j))) (λ_ _ _=>rfl) λ_ _ _ _ _ _=>zK
def Lz:w_:=tt Bh (λi j=>.bl (decide (j<i))) (λi j=>.bl (decide (j<i))) (λ_ _ _=>rfl) λ_ _ _ _ _ _=>zK
def M8:w_:=tt AV (λi j=>.bl (decide (j<=i))) (λi j=>.bl (decide (j<=i))) (λ_ _ _=>rfl) λ_ _ _ _ _ _=>zK
def dJ:w_ where
 m:=jj
 p:=λa b=>match a,b with
  |.int i,.int j=>J (.int (i+j))
  |.lst x,.lst y=>if x.length+y.length<=100000 then J (.lst (x++y))else Y
  |.tup (a::x),.tup y=>if x.length+1+y.length<=100000 then J (.tup (a::x++y))else Y
  |_,_=>Y
 fr:=I
 ok {q h L O a x b y d} bd wa wb e:=by
  cases a with
  |int i =>
   cases b with
   |int j=>cases e;rw[wa.int,wb.int];exact AZ
   |_=>cases e
  |lst x =>
   cases b with
   |lst y =>
    dsimp only at e;by_cases z:x.length+y.length<=100000
    .rw[e_ z]at e;cases e;obtain⟨n,xs,rfl,g,r⟩:=wa.lst;obtain⟨l,ys,rfl,u,f⟩:=wb.lst;show Gv q h O I (match h[n]?,h[l]? with|some (.lst xs),J (.lst ys)=>tr (xs++ys) h|_,_=>.bad) _;rw[g,u];exact lH bd (r.app f) (by simpa using z)
    .rw[hI z]at e;cases e
   |_=>cases e
  |tup x =>
   cases x with
   |nil=>cases b<;>cases e
   |cons a x =>
    cases b with
    |tup y =>
     dsimp only at e;by_cases z:x.length+1+y.length<=100000
     .rw[e_ z]at e;cases e;obtain⟨xs,rfl,r⟩:=wa.tup;obtain⟨ys,rfl,f⟩:=wb.tup;have ne:xs≠[]:=λz=>by have:=r.length;simp[z]at this
      show Gv q h O I (if xs≠[]then nc (xs++ys) h else .bad) _;rw[e_ ne];exact ug (r.app f) (by simp;lia)
     .rw[hI z]at e;cases e
    |_=>cases e
  |_=>cases e
def Rps.rep(r:Rps q h O ds xs):∀n,Rps q h O (List.replicate n ds).flatten (List.replicate n xs).flatten
 |0=>rfl
 |n+1=>by
  exact r.app (Rps.rep r n)
def br:w_ where
 m:=ki
 p:=λa b=>match a,b with
  |.int i,.int j=>if IntMulOk i j then J (.int (i*j))else Y
  |.lst x,.int j=>if(0<=j/\j<=1000)/\((List.replicate j.toNat x).flatten).length<=100000 then J (.lst (List.replicate j.toNat x).flatten)else Y
  |_,_=>Y
 fr:=I
 ok {q h L O a x b y d} bd wa wb e:=by
  cases a with
  |int i =>
   cases b with
   |int j =>
    dsimp only at e;by_cases z:IntMulOk i j
    .rw[e_ z]at e;cases e;rw[wa.int,wb.int];show Gv q h O I (if IntMulOk i j then .ok (.int (i*j)) h else .bad) _;rw[e_ z];exact AZ
    .rw[hI z]at e;cases e
   |_=>cases e
  |lst x =>
   cases b with
   |int j =>
    dsimp only at e;by_cases z:(0<=j/\j<=1000)/\((List.replicate j.toNat x).flatten).length<=100000
    .rw[e_ z]at e;cases e;obtain⟨n,xs,rfl,g,r⟩:=wa.lst;rw[wb.int];show Gv q h O I (match h[n]? with|some (.lst xs)=>if -(2^63)<=j/\j<2^63 then tr (List.flatten (List.replicate j.toNat xs)) h else .bad|_=>.bad) _;rw[g];dsimp only;rw[e_ ⋯];exact lH bd (r.rep _) z.2
    .rw[hI z]at e;cases e
   |_=>cases e
  |_=>cases e
def Co:w_ where
 m:=AH
 p:=λa b=>match a,b with
  |.int i,.int j=>if j≠0 then J (.int (i.fdiv j))else Y
  |_,_=>Y
 fr:=I
 ok {q h L O a x b y d} bd wa wb e:=by
  cases a with
  |int i =>
   cases b with
   |int j =>
    dsimp only at e;by_cases z:j≠0
    .rw[e_ z]at e;cases e;rw[wa.int,wb.int];show Gv q h O I (if j≠0 then .ok (.int (i.fdiv j)) h else .bad) _;rw[e_ z];exact AZ
    .rw[hI z]at e;cases e
   |_=>cases e
  |_=>cases e
def oW:w_ where
 m:=n4
 p:=λa b=>match a,b with
  |.int i,.int j=>if j≠0 then J (.int (i.fmod j))else Y
  |_,_=>Y
 fr:=I
 ok {q h L O a x b y d} bd wa wb e:=by
  cases a with
  |int i =>
   cases b with
   |int j =>
    dsimp only at e;by_cases z:j≠0
    .rw[e_ z]at e;cases e;rw[wa.int,wb.int];show Gv q h O I (if j≠0 then .ok (.int (i.fmod j)) h else .bad) _;rw[e_ z];exact AZ
    .rw[hI z]at e;cases e
   |_=>cases e
  |_=>cases e
def qU:w_ where
 m:=rk
 p:=λa b=>match a,b with
  |.int i,.int j=>if fW i j then J (.int (i^j.toNat))else Y
  |_,_=>Y
 fr:=I
 ok {q h L O a x b y d} bd wa wb e:=by
  cases a with
  |int i =>
   cases b with
   |int j =>
    dsimp only at e;by_cases z:fW i j
    .rw[e_ z]at e;cases e;rw[wa.int,wb.int];show Gv q h O I (if fW i j then .ok (.int (i^j.toNat)) h else .bad) _;rw[e_ z];exact AZ
    .rw[hI z]at e;cases e
   |_=>cases e
  |_=>cases e
def l7:w_ where
 m:=bc
 p:=λa b=>match a,b with
  |.lst x,.int j=>pz x j
  |.tup x,.int j=>pz x j
  |_,_=>Y
 fr:=T
 ok {q h L O a x b y d} bd wa wb e:=by
  have at':∀{f:QQ}{xs:QL}{j:Int},Rps q h O f xs->pz f j=J d->∃v,pz xs j=J v/\Rp q h O d v:=λ{f xs j} r e=>by
   unfold pz at e ⊢;rw[r.length]
   cases e1:vf f.length j with
   |none=>rw[e1]at e;cases e
   |some k=>rw[e1]at e;exact r.get e
  cases b with
  |int j =>
   rw[wb.int]
   cases a with
   |lst f =>
    obtain⟨n,xs,rfl,g,r⟩:=wa.lst;obtain⟨v,e1,i⟩:=at' r e;show Gv q h O T (match h[n]? with|some (.lst xs)=>(match pz xs j with|some v=>.ok v h|none=>.bad)|_=>.bad) _;rw[g];dsimp only;rw[e1];exact FW i λz=>by cases z
   |tup f =>
    obtain⟨xs,rfl,r⟩:=wa.tup;obtain⟨v,e1,i⟩:=at' r e;show Gv q h O T (match pz xs j with|some v=>.ok v h|none=>.bad) _;rw[e1];exact FW i λz=>by cases z
   |_=>cases e
  |_=>cases a<;>cases e
def DR(f:Bool):w_ where
 m:=Fp f
 p:=λa b=>match b with
  |.non=>(match a with
   |.non=>J (.bl (!f))
   |_=>J (.bl f))
  |.bl b=>(match a with
   |.bl c=>J (.bl (if f then !(c==b)else c==b))
   |.non=>J (.bl f)
   |.int _=>J (.bl f)
   |.str _=>J (.bl f)
   |.tup _=>J (.bl f)
   |_=>Y)
  |_=>Y
 fr:=I
 ok {q h L O a x b y d} bd wa wb e:=by
  have loc:∀{a:D}{x:PV},Vw q h L O a x->(∃i,a=.lst i)\/(∃fz j i,a=.dic fz j i)\/(∃c,a=.exc c)\/a=.pen->∃n,x=.loc n:=λ{a x} w z=>by
   rcases w with r|⟨n,l,xs,i,e,e1,_⟩
   .rcases z with⟨i,rfl⟩|⟨_,_,_,rfl⟩|⟨c,rfl⟩|rfl
    .obtain⟨n,_,e,_⟩:=r;exact⟨n,e⟩
    .obtain⟨n,_,e,_⟩:=r;exact⟨n,e⟩
    .obtain⟨n,e,_⟩:=r;exact⟨n,e⟩
    .exact⟨q,r⟩
   .exact⟨n,e1⟩
  cases b with
  |non =>
   rw[wb.non]
   cases a with
   |non=>cases e;rw[wa.non];exact zK
   |bl c=>cases e;rw[wa.bl];exact zK
   |int c=>cases e;rw[wa.int];exact zK
   |str c=>cases e;rw[wa.str];exact zK
   |tup c=>cases e;obtain⟨xs,rfl,_⟩:=wa.tup;exact zK
   |lst c=>cases e;obtain⟨n,rfl⟩:=loc wa (.inl ⟨_,rfl⟩);exact zK
   |dic a b c=>cases e;obtain⟨n,rfl⟩:=loc wa (.inr (.inl ⟨_,_,_,rfl⟩));exact zK
   |exc c=>cases e;obtain⟨n,rfl⟩:=loc wa (.inr (.inr (.inl ⟨_,rfl⟩)));exact zK
   |pen=>cases e;obtain⟨n,rfl⟩:=loc wa (.inr (.inr (.inr rfl)));exact zK
  |bl b =>
   rw[wb.bl]
   cases a with
   |non=>cases e;rw[wa.non];exact zK
   |bl c=>cases e;rw[wa.bl];exact zK
   |int c=>cases e;rw[wa.int];exact zK
   |str c=>cases e;rw[wa.str];exact zK
   |tup c=>cases e;obtain⟨xs,rfl,_⟩:=wa.tup;exact zK
   |_=>cases e
  |_=>cases e
mutual
def py:D->Option PyData
 |.non=>J .none
 |.bl b=>J (.bool b)
 |.int i=>J (.int i)
 |.str x=>J (.str x)
 |.tup a=>(A0 a).map .tuple
 |.lst a=>(A0 a).map .list
 |_=>Y
def A0:QQ->Option (List PyData)
 |[]=>J []
 |d::a=>match py d,A0 a with
  |some x,J xs=>J (x::xs)
  |_,_=>Y
end
mutual
def zU:D->Nat
 |.tup a=>1+vU a
 |.lst a=>1+vU a
 |_=>0
def vU:QQ->Nat
 |[]=>0
 |d::a=>max (zU d) (vU a)
end
def t7(d:D):(∀(v:PV)(e:PyData)(n:Nat),Rp q h O d v->py d=J e->zU d<=n->rd n h v=J e):=by
 refine D.rec (motive_1:=λd=>∀(v:PV)(e:PyData)(n:Nat),Rp q h O d v->py d=J e->zU d<=n->rd n h v=J e)
  (motive_2:=λf=>∀(l:QL)(i:List PyData)(n:Nat),Rps q h O f l->A0 f=J i->vU f<=n->dS (rd n h) l=J i)
  (λv _ n r e _=>?_) (λb v _ n r e _=>?_) (λb v _ n r e _=>?_) (λb v _ n r e _=>?_) (λf u v e n r j hd=>?_) (λf u v e n r j hd=>?_) (λ_ _ _ _ _ _ _ _ e _=>?_) (λ_ _ _ _ _ e _=>?_) (λ_ _ _ _ e _=>?_)
  (λl i n r e _=>?_) (λd f B E l i n r e hd=>?_) d
 .rw[show v=PV.non from r];cases e;cases n<;>rfl
 .rw[show v=PV.bl b from r];cases e;cases n<;>rfl
 .rw[show v=PV.int b from r];cases e;cases n<;>rfl
 .rw[show v=PV.str b from r];cases e;cases n<;>rfl
 .obtain⟨xs,ex,r⟩:=r;subst ex;rw[py,As]at j;obtain⟨i,e1,rfl⟩:=j;rw[zU]at hd
  cases n with
  |zero=>lia
  |succ n=>simp only[rd];rw[u _ _ n r e1 ⋯];rfl
 .obtain⟨m,xs,ex,_,g,r⟩:=r;subst ex;rw[py,As]at j;obtain⟨i,e1,rfl⟩:=j;rw[zU]at hd
  cases n with
  |zero=>lia
  |succ n=>simp only[rd,g];rw[u _ _ n r e1 ⋯];rfl
 .simp[py]at e
 .simp[py]at e
 .simp[py]at e
 .rw[show l=[]from r];rw[A0]at e;cases e;rfl
 .obtain⟨x,t,ex,a,b⟩:=r;subst ex;rw[vU]at hd;rw[A0]at e
  cases e1:py d with
  |none=>rw[e1]at e;cases e
  |some y =>
   cases e2:A0 f with
   |none=>rw[e1,e2]at e;cases e
   |some ys =>
    rw[e1,e2]at e;cases e;have z:=B _ _ n a e1 ⋯;have C:=E _ _ n b e2 ⋯;simp only[dS,z,C]
def Jy(r:Rp q h O d v)(a:py d=J e)(hd:zU d<=n):rd n h v=J e:=t7 d v e n r a hd
def FY(r:Rps q h O ds vs)(a:A0 ds=J es)(hd:vU ds<=n):dS (rd n h) vs=J es:=by
 have:=t7 (.tup ds) (.tup vs) (.tuple es) (n+1) (⟨vs,rfl,r⟩) (by rw[py,a];rfl) (by rw[zU];lia)
 simp only[rd]at this
 simp_all
def qJ(w:Vw q h L O d v)(a:py d=J e)(hd:zU d<=60):rd 60 h v=J e:=by
 rcases w with r|⟨n,f,xs,l,rfl,rfl,_,_,g,r⟩
 .exact Jy r a hd
 .cases f with
  |some _=>simp[dl,py]at a
  |none =>
   replace g:h[n]?=J (.lst xs):=g;unfold dl at a hd;rw[py,As]at a;obtain⟨j,e1,rfl⟩:=a;rw[zU]at hd;have i:=FY (n:=59) r e1 ⋯;show(match h[n]? with|some (.lst xs)=>(dS (rd 59 h) xs).map PyData.list|_=>Y)=_;rw[g];dsimp only;rw[i];rfl
def Ak(f:Bool)(a b:D):QB:=match py a,py b with
 |some x,J y=>if(zU a<=60/\zU b<=60)/\SeqAt.shaped x=I/\SeqAt.shaped y=I then J (.bl (if f then !PyData.eqv x y else PyData.eqv x y))else Y
 |_,_=>Y
def tW(e:Ak neg a b=J d):∃x y,py a=J x/\py b=J y/\(zU a<=60/\zU b<=60)/\(SeqAt.shaped x=I/\SeqAt.shaped y=I)/\d=.bl (if neg then !PyData.eqv x y else PyData.eqv x y):=by
 unfold Ak at e
 cases e1:py a with
 |none=>rw[e1]at e;cases e
 |some x =>
  cases e2:py b with
  |none=>rw[e1,e2]at e;cases e
  |some y =>
   simp_all
def Ay:w_ where
 m:=Am
 p:=Ak T
 fr:=I
 ok {q h L O a x b y d} bd wa wb e:=by obtain⟨u,w,e1,e2,hd,f,rfl⟩:=tW e;unfold Am;rw[qJ wa e1 hd.1,qJ wb e2 hd.2];dsimp only;rw[e_ f];exact zK
def Al:w_ where
 m:=An
 p:=Ak I
 fr:=I
 ok {q h L O a x b y d} bd wa wb e:=by obtain⟨u,w,e1,e2,hd,f,rfl⟩:=tW e;unfold An;rw[qJ wa e1 hd.1,qJ wb e2 hd.2];dsimp only;rw[e_ f];exact zK
def Vw.seqOf(w:Vw q h L O d v)(e:d.items=J ds):∃xs,MM.cS h v=J xs/\Rps q h O ds xs:=by
 cases d with
 |lst a=>cases e;obtain⟨n,xs,rfl,g,r⟩:=w.lst;exact⟨xs,by simp[MM.cS,g],r⟩
 |tup a=>cases e;obtain⟨xs,rfl,r⟩:=w.tup;exact⟨xs,rfl,r⟩
 |_=>cases e
end
noncomputable section
def mT:Lx where
 m:=Bj
 p:=λa=>match a with
  |.int i=>J (.int (-i))
  |_=>Y
 fr:=I
 ok {q h L O a x d} bd w e:=by
  cases a with
  |int i=>cases e;rw[w.int];exact AZ
  |_=>cases e
def Bv:D->Option String
 |.non=>J "NoneType"
 |.bl _=>J "bool"
 |.int _=>J "int"
 |.str _=>J "str"
 |.tup _=>J "tuple"
 |.lst _=>J "list"
 |.dic _ _ _=>J "dict"
 |_=>Y
def Jz(w:Vw q h L O d v)(e:Bv d=J t):B2 h v=J t:=by
 cases d with
 |non=>cases e;rw[w.non];rfl
 |bl b=>cases e;rw[w.bl];rfl
 |int b=>cases e;rw[w.int];rfl
 |str b=>cases e;rw[w.str];rfl
 |tup b=>cases e;obtain⟨xs,rfl,_⟩:=w.tup;rfl
 |lst b=>cases e;obtain⟨n,xs,rfl,g,_⟩:=w.lst;simp[B2,g]
 |dic fz i j =>
  cases e;rcases w with⟨n,xs,rfl,_,g,_⟩|⟨n,f,xs,a,e,rfl,_,_,g,_⟩
  .simp[B2,g]
  .cases f with
   |none=>cases e
   |some _=>simp[B2,g,mo]
 |_=>cases e
def bQ(f:List String):Lx where
 m:=kP f
 p:=λa=>(Bv a).map λt=>.bl (f.any (bX t))
 fr:=I
 ok {q h L O a x d} bd w e:=by rw[As]at e;obtain⟨t,e1,rfl⟩:=e;unfold kP;rw[Jz w e1];exact zK
def oB:A5 where
 k:=λxs h=>(Ao xs h).ne
 p:=λf=>match f with
  |[.int i]=>J (.int (if i<0 then -i else i))
  |_=>Y
 fr:=I
 ok {q h L O f xs d} bd w e:=by
  match f,e with
  |[.int i],e=>cases e;obtain⟨x,rfl,a⟩:=eN w;rw[a.int];exact AZ
def mH:A5 where
 k:=λxs h=>(Bk xs h).ne
 p:=λf=>match f with
  |[.int i]=>J (.int i)
  |[.bl b]=>J (.int (if b then 1 else 0))
  |_=>Y
 fr:=I
 ok {q h L O f xs d} bd w e:=by
  match f,e with
  |[.int i],e=>cases e;obtain⟨x,rfl,a⟩:=eN w;rw[a.int];exact AZ
  |[.bl i],e=>cases e;obtain⟨x,rfl,a⟩:=eN w;rw[a.bl];exact AZ
def fZ:A5 where
 k:=λxs h=>(q_ xs h).ne
 p:=λi=>match i with
  |[.lst f]=>J (.int f.length)
  |[.tup f]=>J (.int f.length)
  |[.str x]=>if x.length<=sizeLine then J (.int x.length)else Y
  |_=>Y
 fr:=I
 ok {q h L O i xs d} bd w e:=by
  match i,e with
  |[.lst f],e =>
   cases e;obtain⟨x,rfl,a⟩:=eN w;obtain⟨n,ys,rfl,g,r⟩:=a.lst;simp only[q_,g];rw[r.length];exact AZ
  |[.tup f],e =>
   cases e;obtain⟨x,rfl,a⟩:=eN w;obtain⟨ys,rfl,r⟩:=a.tup;simp only[q_];rw[r.length];exact AZ
  |[.str x],e =>
   dsimp only at e;by_cases z:x.length<=sizeLine
   .rw[e_ z]at e;cases e;obtain⟨x,rfl,a⟩:=eN w;rw[a.str];simp only[q_];rw[e_ z];exact AZ
   .rw[hI z]at e;cases e
def gh:A5 where
 k:=λxs h=>(qx xs h).ne
 p:=λi=>match i with
  |[d]=>d.items.bind λf=>if f.length<=100000 then J (.lst f)else Y
  |_=>Y
 fr:=I
 ok {q h L O i xs d} bd w e:=by
  match i,e with
  |[a],e =>
   obtain⟨x,rfl,wx⟩:=eN w;rw[HL]at e;obtain⟨f,e1,e2⟩:=e;obtain⟨xs,e3,r⟩:=wx.seqOf e1;by_cases z:f.length<=100000
   .rw[e_ z]at e2;cases e2;obtain⟨v,g,e4,j,l⟩:=lH bd r z;exact⟨v,g,by simp only[qx,e3];rw[e4];rfl,j,l⟩
   .rw[hI z]at e2;cases e2
def cW:A5 where
 k:=λxs h=>(Ap xs h).ne
 p:=λf=>match f with
  |[d]=>d.items.map .tup
  |_=>Y
 fr:=I
 ok {q h L O f xs d} bd w e:=by
  match f,e with
  |[a],e =>
   obtain⟨x,rfl,wx⟩:=eN w;rw[As]at e;obtain⟨i,e1,rfl⟩:=e;obtain⟨xs,e3,r⟩:=wx.seqOf e1;simp only[Ap,e3];exact FW ⟨xs,rfl,r⟩ λ_ k _ e=>by cases k<;>cases e
def i9:QQ->Option (List Bool)
 |[]=>J []
 |.bl b::r=>(i9 r).map (b::·)
 |_=>Y
def wC:∀{f:QQ}{xs:QL}{bs:List Bool},Rps q h O f xs->i9 f=J bs->j7 xs=J bs
 |[],_,_,r,e=>by rw[show _=[]from r];cases e;rfl
 |d::f,_,bs,⟨x,t,ex,a,b⟩,e=>by
  subst ex
  cases d with
  |bl c =>
   rw[show x=PV.bl c from a];rw[i9,As]at e;obtain⟨i,e1,rfl⟩:=e;rw[j7,wC b e1];rfl
  |_=>cases e
def oM:A5 where
 k:=λxs h=>(AJ xs h).ne
 p:=λf=>match f with
  |[d]=>(d.items.bind i9).map λbs=>.bl (bs.all id)
  |_=>Y
 fr:=I
 ok {q h L O f xs d} bd w e:=by
  match f,e with
  |[a],e =>
   obtain⟨x,rfl,wx⟩:=eN w;rw[As]at e;obtain⟨bs,e1,rfl⟩:=e;rw[HL]at e1;obtain⟨i,e1,e2⟩:=e1;obtain⟨xs,e3,r⟩:=wx.seqOf e1;simp only[AJ,e3,Hh,wC r e2];exact zK
def j8:QQ->Option (QN)
 |[]=>J []
 |.int b::r=>(j8 r).map (b::·)
 |_=>Y
def rF:∀{f:QQ}{xs:QL}{bs:QN},Rps q h O f xs->j8 f=J bs->xs=bs.map .int
 |[],_,_,r,e=>by rw[show _=[]from r];cases e;rfl
 |d::f,_,bs,⟨x,t,ex,a,b⟩,e=>by
  subst ex
  cases d with
  |int c =>
   rw[show x=PV.int c from a];rw[j8,As]at e;obtain⟨i,e1,rfl⟩:=e;rw[rF b e1];rfl
  |_=>cases e
def qg:∀(bs:QN),lg (bs.map .int)=J bs
 |[]=>rfl
 |b::bs=>by rw[n_,lg,qg bs];rfl
def m3:∀(bs:QN),Rps q h O (bs.map .int) (bs.map .int)
 |[]=>rfl
 |b::bs=>⟨_,_,rfl,rfl,m3 bs⟩
def Vw.lstOf(w:Vw q h L O (.lst ds) v):∃xs,MM.iL h v=J xs/\Rps q h O ds xs:=by obtain⟨n,xs,rfl,g,r⟩:=w.lst;exact⟨xs,by simp[MM.iL,g],r⟩
def Pm(bd:Bd h O)(r:∀h O,Rps q h O ds xs):Gv q h O I (.ok (.loc h.length) (h++[.lst xs])) (.lst ds):=by
 have g:(h++[MO.lst xs])[h.length]?=J (.lst xs):=by simp
 exact⟨_,_,rfl,⟨_,_,rfl,λz=>by have:=bd _ z;ext,g,r _ _⟩,λ_ k a e=>by obtain⟨rfl,rfl⟩:=gw e;exact⟨_,_,rfl,mu _,g,r _ _⟩⟩
def qC(a:QQ):Option (QQ):=match j8 a with
 |some ns=>if ns.length<64 then J ((gG ns).map .int)else Y
 |none=>Y
def fb:A5 where
 k:=λxs h=>(va xs h).ne
 p:=λa=>match a with
  |[.lst f]=>(qC f).map .lst
  |_=>Y
 fr:=I
 ok {q h L O a xs d} bd w e:=by
  match a,e with
  |[.lst f],e =>
   obtain⟨x,rfl,wx⟩:=eN w;obtain⟨ys,e0,r⟩:=wx.lstOf;rw[As]at e;obtain⟨i,e1,rfl⟩:=e;unfold qC at e1
   cases e2:j8 f with
   |some ns =>
    rw[e2]at e1;dsimp only at e1;by_cases z:ns.length<64
    .rw[e_ z]at e1;cases e1
     have:va [x] h=.ok (.loc h.length) (h++[.lst ((gG ns).map .int)]):=by simp only[va,e0,rF r e2,qg];rw[e_ z]
     show Gv q h O I (va [x] h).ne _;rw[this];exact Pm bd λ_ _=>m3 _
    .rw[hI z]at e1;cases e1
   |none=>rw[e2]at e1;cases e1
def eO(lo:Int)(n:Nat):QQ:=(List.range n).map λ(i:Nat)=>D.int (lo+(i:Int))
def uc:Rps q h O (eO lo n) (bH lo n):=by
 have:=m3 (q:=q) (h:=h) (O:=O) ((List.range n).map λ(i:Nat)=>lo+(i:Int))
 rw[y6,y6]at this;exact this
def LA:A5 where
 k:=λi f=>match i with
  |[.int j]=>if -(2^62)<=j/\j<2^62/\j.toNat<=sizeLine then .ok (.loc f.length) (f++[.lst (bH 0 j.toNat)])else .bad
  |_=>.bad
 p:=λa=>match a with
  |[.int j]=>if -100000<=j/\j<=100000 then J (.lst (eO 0 j.toNat))else Y
  |_=>Y
 fr:=I
 ok {q h L O a xs d} bd w e:=by
  match a,e with
  |[.int j],e =>
   obtain⟨x,rfl,wx⟩:=eN w;rw[wx.int];dsimp only at e;by_cases z:-100000<=j/\j<=100000
   .rw[e_ z]at e;cases e;dsimp only
    have:=eM
    rw[e_ ⟨by ext,by ext,by ext⟩];exact Pm bd λ_ _=>uc
   .rw[hI z]at e;cases e
def Cp:Hy where
 k:=λi f=>match i with
  |[.int j]=>if -(2^62)<=j/\j<2^62 then .ok ⟨bH 0 j.toNat,[]⟩ f else .bad
  |_=>.bad
 p:=λa=>match a with
  |[.int j]=>if -100000<=j/\j<=100000 then J (eO 0 j.toNat)else Y
  |_=>Y
 ok {q h L O a xs d} hq hO bd w e:=by
  match a,e with
  |[.int j],e =>
   obtain⟨x,rfl,wx⟩:=eN w;rw[wx.int];dsimp only at e;by_cases z:-100000<=j/\j<=100000
   .rw[e_ z]at e;cases e;dsimp only;rw[e_ ⟨by ext,by ext⟩];exact⟨_,rfl,uc,(λ_ hg=>nomatch hg),λ_ _ hg=>nomatch hg⟩
   .rw[hI z]at e;cases e
def Vw.sqAny(u:q<L)(l:q∈O)(w:Vw q h L O d v)(e:d.items=J ds):∃t xs gd,MM.bi v h=J (t,xs,gd)/\Rps q h O ds xs/\(∀g∈gd,h[g.1]?=J (.lst g.2)/\g.1≠q)/\(Rp q h O d v->∀g∈gd,g.1∉O):=by
 obtain⟨xs,gd,e1,r,i,f⟩:=w.seq u l e
 cases d with
 |lst j =>
  cases e;obtain⟨n,ys,rfl,g,a⟩:=w.lst;simp only[r_,g]at e1;cases e1;exact⟨T,xs,[(n,xs)],by simp[MM.bi,g],a,i,f⟩
 |tup j =>
  cases e;obtain⟨ys,rfl,a⟩:=w.tup;cases e1;exact⟨I,_,[],rfl,a,i,f⟩
 |_=>cases e
def bz(a:QQ):QQ:=a.zipIdx.map λp=>.tup [.int (p.2:Int),p.1]
def gF(xs ys:QQ):QQ:=(xs.zip ys).map λp=>.tup [p.1,p.2]
def qT:∀{f:QQ}{xs:QL}(n:Nat),Rps q h O f xs->Rps q h O ((f.zipIdx n).map λp=>.tup [.int (p.2:Int),p.1]) ((xs.zipIdx n).map λp=>.tup [.int (p.2:Int),p.1])
 |[],_,_,r=>by rw[show _=[]from r];rfl
 |d::f,_,n,⟨x,t,e,a,b⟩=>by
  subst e;exact⟨_,_,rfl,⟨_,rfl,⟨_,_,rfl,rfl,⟨_,_,rfl,a,rfl⟩⟩⟩,qT (n+1) b⟩
def uV:∀{j f:QQ}{xs ys:QL},Rps q h O j xs->Rps q h O f ys->Rps q h O (gF j f) (jg xs ys)
 |[],_,_,_,r,_=>by rw[show _=[]from r];rfl
 |_::_,[],_,_,r,l=>by rw[show _=[]from l];simp[jg];rfl
 |d::j,e::f,_,_,⟨x,t,e1,a,b⟩,⟨B,z,i,y,u⟩=>by
  subst e1 i;exact⟨_,_,rfl,⟨_,rfl,⟨_,_,rfl,a,⟨_,_,rfl,y,rfl⟩⟩⟩,uV b u⟩
def iE:Hy where
 k:=λu i=>match u with
  |[x]=>(match bi x i with
   |some (_,xs,gd)=>.ok ⟨cH xs,gd⟩ i
   |none=>.bad)
  |_=>.bad
 p:=λf=>match f with
  |[d]=>d.items.map bz
  |_=>Y
 ok {q h L O f xs d} hq hO bd w e:=by
  match f,e with
  |[a],e =>
   obtain⟨x,rfl,wx⟩:=eN w;rw[As]at e;obtain⟨C,e1,rfl⟩:=e;obtain⟨t,ys,gd,e2,r,l,j⟩:=wx.sqAny hq hO e1;refine⟨⟨cH ys,gd⟩,by simp only[e2],qT 0 r,l,λz=>j ?_⟩;obtain⟨B,y,e3,a,_⟩:=z;cases e3;exact a
def iZ:Hy where
 k:=λP B=>match P with
  |[x,y]=>(match bi x B,bi y B with
   |some (_,xs,i),J (_,ys,f)=>.ok ⟨jg xs ys,i++f⟩ B
   |_,_=>.bad)
  |_=>.bad
 p:=λj=>match j with
  |[d,e]=>d.items.bind λxs=>e.items.map λys=>gF xs ys
  |_=>Y
 ok {q h L O j xs d} hq hO bd w e:=by
  match j,e with
  |[a,b],e =>
   obtain⟨x,y,rfl,wx,H⟩:=Jx w;rw[HL]at e;obtain⟨Z,e1,e⟩:=e;rw[As]at e;obtain⟨W,e2,rfl⟩:=e;obtain⟨t,ys,gd,R,r,i,f⟩:=wx.sqAny hq hO e1;obtain⟨S,F,C,u,G,l,E⟩:=H.sqAny hq hO e2;refine⟨⟨jg ys F,gd++C⟩,by simp only[R,u],uV r G,λg hg=>?_,λz g hg=>?_⟩
   .rcases Dx.mp hg with z|z
    .exact i g z
    .exact l g z
   .obtain⟨X,G,e3,M,x2,U,e4,Q,_⟩:=z;cases e3;cases e4;rcases Dx.mp hg with z|z
    .exact f M g z
    .exact E Q g z
def i5(xs:QQ)(lo a:QV):QQ:=(xs.drop (HT.nu xs.length 0 lo)).take (HT.nu xs.length xs.length a-HT.nu xs.length 0 lo)
def tU(lo a:QV)(r:Rps q h O ds xs):Rps q h O (i5 ds lo a) (f7 xs lo a):=by unfold i5 f7;rw[r.length];exact(r.drop _).take _
structure Xo(ws:QP) where
 m:Mx (QV)
 p:aw->d_->PR (QV)
 ok:∀{q h L B O Z env s},Cx q h L B O ws Z env s->Ok q h (m Z h) (p env s) (λ_ a b=>a=b)
section
variable{ws:QP}
def Bw:Xo ws where
 m:=OY
 p:=λ_ s=>.ok Y s
 ok {q h L B O Z env s} c:=⟨Y,h,rfl,KB.refl _ _,c.pen,rfl⟩
def Bx(e:Xe ws):Xo ws where
 m:=OZ e.m
 p:=λenv s=>(e.p env s).bind λd s=>match d with
  |.int i=>.ok (J i) s
  |_=>.bad
 ok {q h L B O Z env s} c:=by
  refine(e.ok c).bind λx v a l j f ⟨w,_,_⟩=>?_
  cases x with
  |int i=>rw[w.int];exact⟨J i,a,rfl,KB.refl _ _,f,rfl⟩
  |_=>trivial
def HC(d:D)(lo f:QV):QB:=match d with
 |.lst a=>J (.lst (i5 a lo f))
 |.tup a=>if HT.nu a.length 0 lo=0/\HT.nu a.length a.length f=a.length then Y else J (.tup (i5 a lo f))
 |_=>Y
def JA(bd:Bd h O)(w:Vw q h L O a x)(e:HC a lo hi=J d):Gv q h O I (FG x lo hi h) d:=by
 cases a with
 |lst f =>
  cases e;obtain⟨n,xs,rfl,g,r⟩:=w.lst;simp only[FG,g];have r:=tU lo hi r;have m:Mv O h O (h++[MO.lst (f7 xs lo hi)]):=⟨λn j _=>q7 j,λo i=>.inl i⟩
  have u:Mv O h (h.length::O) (h++[MO.lst (f7 xs lo hi)]):=⟨λn j _=>q7 j,λo i=>by
   rcases p_.mp i with z|z
   .exact .inr (by ext)
   .exact .inl z⟩
  have g:(h++[MO.lst (f7 xs lo hi)])[h.length]?=J (.lst (f7 xs lo hi)):=by simp
  exact⟨_,_,rfl,⟨_,_,rfl,λz=>by have:=bd _ z;ext,g,r.mv m⟩,λ_ k l e=>by obtain⟨rfl,rfl⟩:=gw e;exact⟨_,_,rfl,mu _,g,r.mv u⟩⟩
 |tup f =>
  unfold HC at e;dsimp only at e;by_cases z:HT.nu f.length 0 lo=0/\HT.nu f.length f.length hi=f.length
  .rw[e_ z]at e;cases e
  .rw[hI z]at e;cases e;obtain⟨xs,rfl,r⟩:=w.tup;simp only[FG];rw[r.length,hI z];exact FW ⟨_,rfl,tU lo hi r⟩ λ_ k _ e=>by cases k<;>cases e
 |_=>cases e
def By(a:Xe ws)(lo i:Xo ws):Xe ws where
 m:=O0 a.m lo.m i.m
 p:=λenv s=>(a.p env s).bind λx s=>(lo.p env s).bind λl s=>(i.p env s).bind λu s=>.of (HC x l u) s
 fz:=I
 fr:=I
 ok {q h L B O Z env s} c:=by
  refine(a.ok c).bind λx v h1 U E H ⟨w,_,_⟩=>?_;have F:=c.kb E H;refine(lo.ok F).bind λl R h2 S j P e=>?_;subst e;have z:=F.kb j P;refine(i.ok z).bind λu X Q W f C e=>?_;subst e;have M:=z.kb f C
  cases e:HC x l u with
  |none=>trivial
  |some d =>
   obtain⟨y,g,e1,r,G⟩:=JA M.bd ((w.kb j c.pO c.pL).kb f c.pO c.pL) e;exact AX (qs (qs E.len j.len) f.len) C ⟨y,g,by rw[e1];rfl,r,G⟩
end
def x5:DO where
 m:=cV
 p:=λf i=>match i with
  |[a]=>if f.length<100000 then J (.non,f++[a])else Y
  |_=>Y
 ok {q h O n xs f i vs d ds'} g r ra e:=by
  match i,e with
  |[a],e =>
   obtain⟨x,t,rfl,a,b⟩:=ra
   have:t=[]:=b
   subst this;dsimp only at e;by_cases z:f.length<100000
   .rw[e_ z]at e;cases e;refine⟨.non,xs++[x],?_,r.app ⟨x,[],rfl,a,rfl⟩,rfl⟩;simp only[cV,g];rw[e_ (by have:=eM;rw[r.length];ext)]
   .rw[hI z]at e;cases e
def x6:DO where
 m:=lv
 p:=λf j=>match j with
  |[.int i,a]=>if(0<=i/\i<=100000)/\f.length<100000 then J (.non,f.take (min i.toNat f.length)++a::f.drop (min i.toNat f.length))else Y
  |_=>Y
 ok {q h O n xs f j vs d ds'} g r ra e:=by
  match j,e with
  |[.int i,a],e =>
   obtain⟨x,t,rfl,u,y,l,rfl,w,b⟩:=ra
   have:l=[]:=b
   subst this;rw[show x=PV.int i from u];dsimp only at e;by_cases z:(0<=i/\i<=100000)/\f.length<100000
   .rw[e_ z]at e;cases e;refine⟨.non,kW xs i y,?_,?_,rfl⟩
    .simp only[lv,g];rw[e_ ⟨by ext,by have:=eM;rw[r.length];ext⟩]
    .unfold kW;rw[hI (by ext),r.length];exact(r.take _).app ⟨y,_,rfl,w,r.drop _⟩
   .rw[hI z]at e;cases e
end
section
variable{ws:QP}{env:aw}{s:d_}
@[simp]theorem aq{d:D}{r:aw}:(ac 0:Xe ws).p (J d::r) s=.ok d s:=rfl
@[simp]theorem aA{i:Nat}{o:QB}{r:aw}:(ac (i+1):Xe ws).p (o::r) s=(ac i:Xe ws).p r s:=by simp[ac]
theorem pB(e:env[i]?=J (J d)):(ac i:Xe ws).p env s=.ok d s:=by show(match env[i]? with|some (J d)=>PR.ok d s|_=>.bad)=_;rw[e]
@[simp]theorem bJ:(xC k:Xe ws).p env s=.ok k.d s:=rfl
@[simp]theorem M9:Cn.non.d=.non:=rfl
@[simp]theorem Po:(Cn.bl b).d=.bl b:=rfl
@[simp]theorem aU:(Cn.int b).d=.int b:=rfl
@[simp]theorem M_:(Cn.str b).d=.str b:=rfl
@[simp]theorem aJ:(ag o a b).p env s=(a.p env s).bind λx s1=>(b.p env s1).bind λy s2=>.of (o.p x y) s2:=rfl
@[simp]theorem qR:(vu o a).p env s=(a.p env s).bind λx s1=>.of (o.p x) s1:=rfl
@[simp]theorem az:(a_:Xs ws).p env s=.ok [] s:=rfl
@[simp]theorem am:(aa a r).p env s=(a.p env s).bind λx s1=>(r.p env s1).bind λy s2=>.ok (x::y) s2:=rfl
@[simp]theorem cE:(qr o a).p env s=(a.p env s).bind λx s1=>.of (o.p x) s1:=rfl
@[simp]theorem aE:(ao f a h).p env s=(a.p env s).bind f.p:=rfl
@[simp]theorem rX:(jk a h).p env s=(a.p env s).bind λx s1=>if x.length<=100000 then .ok (.lst x) s1 else .bad:=rfl
@[simp]theorem dL:(bE a h).p env s=(a.p env s).bind λx s1=>if x.length<=100000 then .ok (.tup x) s1 else .bad:=rfl
@[simp]theorem FZ:(Cj:Xe ws).p env s=.ok (.dic T [] []) s:=rfl
@[simp]theorem cq:(xB a).p env s=(a.p env s).bl:=rfl
@[simp]theorem dN:(du a).p env s=(a.p env s).bind λb s=>.ok (!b) s:=rfl
@[simp]theorem lW:(AR a b).p env s=(a.p env s).bind λx s=>if x=I then .ok I s else b.p env s:=rfl
@[simp]theorem LB:(pu:Xt ws).p env s=.ok I s:=rfl
@[simp]theorem ui:(iN a b).p env s=(a.p env s).bl.bind λx s=>if x=I then(b.p env s).bl.bind λy s=>.ok (.bl y) s else .ok (.bl T) s:=rfl
@[simp]theorem F0:(FR a b).p env s=(a.p env s).bl.bind λx s=>if x=I then .ok (.bl I) s else(b.p env s).bl.bind λy s=>.ok (.bl y) s:=rfl
@[simp]theorem LC:(nW a).p env s=(a.p env s).bl.bind λx s=>.ok (.bl (!x)) s:=rfl
@[simp]theorem w9:(FS t a b z h).p env s=(t.p env s).bind λx s=>if x=I then a.p env s else b.p env s:=rfl
@[simp]theorem JC:(nz f g a b e).p env s=(a.p env s).bind λx s1=>(b.p env s1).bind λy s2=>match f.p x y with
  |some (.bl t)=>if t=I then(e.p env s2).bind λz s3=>.of (g.p y z) s3 else .ok (.bl T) s2
  |_=>.bad:=rfl
@[simp]theorem gu:(cg o a).p env s=(a.p env s).bind λx s1=>.of (o.p x) s1:=rfl
@[simp]theorem gx:(bT a).p env s=(a.p env s).bind λx s1=>.of x.items s1:=rfl
@[simp]theorem Pp{i:Nat}{h:ws.contains i=T}{d:D}:(i0 i h).p d env=J (env.set i (J d)):=rfl
@[simp]theorem Pq:(ts:DN ws).p [] env=J env:=rfl
@[simp]theorem Pr:(lR a t).p (d::ds) env=(a.p d env).bind λenv1=>t.p ds env1:=rfl
@[simp]theorem Ps:(tx t n).p (.tup ds) env=if ds.length=n then t.p ds env else Y:=rfl
@[simp]theorem jE{nv:Nat}{fm:QP}{i:Xi ws}{ws':QP}{g:Xg ws'}{t:Xt ws'}{e:Xe ws'}{hw:AY nv fm ws=ws'}{hz:e.fz=I}:(bx nv fm i g t e hw hz).p env s=(i.p env s).bind λds s1=>if ds.length<=100000 then (match cT g.p t.p e.p ds (t_ nv fm env) s1 with
  |.ok r s2=>.ok (.lst r) s2
  |_=>.bad)else .bad:=rfl
@[simp]theorem DS:(Bw:Xo ws).p env s=.ok Y s:=rfl
@[simp]theorem DT:(Bx e).p env s=(e.p env s).bind λd s=>match d with
  |.int i=>.ok (J i) s
  |_=>.bad:=rfl
@[simp]theorem DU:(By a lo hi).p env s=(a.p env s).bind λx s=>(lo.p env s).bind λl s=>(hi.p env s).bind λu s=>.of (HC x l u) s:=rfl
@[simp]theorem aH:(aM a b).p env s=(a.p env s).then b.p:=rfl
@[simp]theorem bt:(ln:Xd ws).p env s=.nx env s:=rfl
@[simp]theorem bN:(aZ e).p env s=(e.p env s).go env λd _ s=>.rt d s:=rfl
theorem oA{i:Nat}{h:ws.contains i=I}{d:D}(e:env[i]?=J (J d)):(lV i h).p env s=.rt d s:=by show(match env[i]? with|some (J d)=>PS.rt d s|_=>.bad)=_;rw[e]
@[simp]theorem Cq:(qQ e).p env s=(e.p env s).go env λ_=>.nx:=rfl
@[simp]theorem bK:(xg t a b).p env s=(t.p env s).go env λx env s=>if x=I then a.p env s else b.p env s:=rfl
@[simp]theorem bu:(bn i e hi hz).p env s=(e.p env s).go env λd env s=>.nx (env.set i (J d)) s:=rfl
@[simp]theorem xn:(D.lst ds).mine=I:=rfl
@[simp]theorem Na:(D.dic T ks ds).mine=I:=rfl
@[simp]theorem Cr{hi hz}:(gb i e hi hz:Xd ws).p env s=(e.p env s).go env λd env s=>if d.mine=I then .nx (env.set i (J d)) s else .bad:=rfl
@[simp]theorem fA:(dG i g b hz).p env s=(i.p env s).go env λds env s=>AK g.p b.p ds env s:=rfl
@[simp]theorem JD:(DP o i a hi hz).p env s=A6 o i a.p env s λ_=>.nx:=rfl
@[simp]theorem sP:(pD i e ix hi hz).p env s=eL i e.p ix.p env s:=rfl
theorem bj{hw}(hl:ds.length=np):(bM n np b hw).p ds s=(b.p (m_ n ds) s).fin:=by show(if ds.length=np then _ else _)=_;rw[e_ hl]
variable{i j:Int}{b:Bool}{x y:QQ}
@[simp]theorem dY:dJ.p (.int i) (.int j)=J (.int (i+j)):=rfl
@[simp]theorem jt:km.p (.int i) (.int j)=J (.int (i-j)):=rfl
@[simp]theorem F1:FX.p (.int i) (.int j)=J (.bl (decide (i<j))):=rfl
@[simp]theorem Nb:M7.p (.int i) (.int j)=J (.bl (decide (i<=j))):=rfl
@[simp]theorem F2:Lz.p (.int i) (.int j)=J (.bl (decide (j<i))):=rfl
@[simp]theorem F3:M8.p (.int i) (.int j)=J (.bl (decide (j<=i))):=rfl
@[simp]theorem hU:l7.p (.lst x) (.int j)=pz x j:=rfl
@[simp]theorem lF:l7.p (.tup x) (.int j)=pz x j:=rfl
theorem Cs(h:j≠0):oW.p (.int i) (.int j)=J (.int (i.fmod j)):=by show(if j≠0 then _ else _)=_;rw[e_ h]
@[simp]theorem Nc:(bQ Ts).p d=(Bv d).map λt=>.bl (Ts.any (bX t)):=rfl
@[simp]theorem Nd:Bv .non=J "NoneType":=rfl
@[simp]theorem Pu:Bv (.bl b)=J "bool":=rfl
@[simp]theorem Nf:Bv (.int i)=J "int":=rfl
@[simp]theorem Ng:Bv (.str z)=J "str":=rfl
@[simp]theorem Nh:Bv (.tup x)=J "tuple":=rfl
@[simp]theorem Ni:Bv (.lst x)=J "list":=rfl
@[simp]theorem Nj:Bv (.dic fz ks es)=J "dict":=rfl
@[simp]theorem yg:mH.p [.bl b]=J (.int (if b then 1 else 0)):=rfl
@[simp]theorem Nk:mH.p [.int i]=J (.int i):=rfl
@[simp]theorem Nl:fZ.p [.lst x]=J (.int x.length):=rfl
@[simp]theorem Nm:fZ.p [.tup x]=J (.int x.length):=rfl
theorem t6(h:x.length<=100000):gh.p [.lst x]=J (.lst x):=by show(if x.length<=100000 then _ else _)=_;rw[e_ h]
@[simp]theorem mS:cW.p [.lst x]=J (.tup x):=rfl
@[simp]theorem JE:cW.p [.tup x]=J (.tup x):=rfl
theorem JF(h:-100000<=i/\i<=100000):LA.p [.int i]=J (.lst (eO 0 i.toNat)):=by show(if _ then _ else _)=_;rw[e_ h]
def qF(h:-100000<=i/\i<=100000):Cp.p [.int i]=J (eO 0 i.toNat):=by show(if _ then _ else _)=_;rw[e_ h]
@[simp]theorem JG:iE.p [.lst x]=J (bz x):=rfl
@[simp]theorem Pw:iZ.p [.lst x,.lst y]=J (gF x y):=rfl
@[simp]theorem Px:iZ.p [.tup x,.tup y]=J (gF x y):=rfl
@[simp]theorem DV:HC (.lst x) lo hi=J (.lst (i5 x lo hi)):=rfl
theorem xX(h:x.length<100000):x5.p x [a]=J (.non,x++[a]):=by show(if _ then _ else _)=_;rw[e_ h]
def xx{a:D}{i:Nat}(h:i<=x.length)(hl:x.length<100000):x6.p x [.int i,a]=J (.non,x.take i++a::x.drop i):=by show(if _ then _ else _)=_;rw[e_ ⟨by ext,hl⟩,Br,Nat.min_eq_left h]
end
section
variable{i j:Int}{b c:Bool}
def iQ(a:x.canLay0=I)(f:x.depth<=64):SeqAt.shaped x=I:=by simp[SeqAt.shaped,a,f]
@[simp]theorem im:Ak neg (.int i) (.int j)=J (.bl (if neg then !decide (i=j)else decide (i=j))):=rfl
@[simp]theorem No:Ak neg (.bl b) (.bl c)=J (.bl (if neg then !(b==c)else b==c)):=rfl
@[simp]theorem gT:Ay.p a d=Ak T a d:=rfl
@[simp]theorem iJ:Al.p a d=Ak I a d:=rfl
theorem mM:∀(k:QN),A0 (k.map .int)=J (k.map .int)/\vU (k.map .int)=0
 |[]=>⟨rfl,rfl⟩
 |i::k=>by
  obtain⟨a,b⟩:=mM k;simp[A0,py,a,vU,zU,b]
def ja:∀(k f:QN),PyData.eqvAll (k.map .int) (f.map .int)=decide (k=f)
 |[],[]=>by simp[PyData.eqvAll]
 |[],_::_=>by simp[PyData.eqvAll]
 |_::_,[]=>by simp[PyData.eqvAll]
 |a::k,b::f=>by
  simp only[n_,PyData.eqvAll,PyData.eqv,ja k f];by_cases z:a=b<;>simp[z]
def yw{f:Bool}{xs ys:QN}:Ak f (.lst (xs.map .int)) (.lst (ys.map .int))=J (.bl (if f then !decide (xs=ys)else decide (xs=ys))):=by obtain⟨a,b⟩:=mM xs;obtain⟨c,d⟩:=mM ys;obtain⟨u,y⟩:=mQ xs;obtain⟨l,z⟩:=mQ ys;simp only[Ak,py,a,c,Ew];rw[e_ ⟨⟨by simp[zU,b],by simp[zU,d]⟩,iQ (by simpa [PyData.canLay0]using u) (by simp only[PyData.depth];lia),iQ (by simpa [PyData.canLay0]using l) (by simp only[PyData.depth];lia)⟩];simp only[PyData.eqv,ja]
end
@[simp]theorem LD:AK g b [] env s=.nx env s:=rfl
theorem iB(e:g d env=J env1):AK g b (d::ds) env s=(b env1 s).turn (AK g b ds):=by rw[AK,e]
def fT(i:Nat->aw->d_->Prop):∀(u:QQ)(j:Nat)(env:aw)(s:d_),i j env s ->
  (∀m env s d,i (j+m) env s->u[m]?=J d->∃f a l,g d env=J f/\b f s=.nx a l/\i (j+m+1) a l)->∃a l,AK g b u env s=.nx a l/\i (j+u.length) a l
 |[],j,env,s,C,_=>⟨env,s,rfl,C⟩
 |d::u,j,env,s,C,st=>by
  obtain⟨f,y,F,e1,e2,E⟩:=st 0 env s d C rfl;obtain⟨B,H,e3,G⟩:=fT i u (j+1) y F E λm a l x q z=>by
   have:=st (m+1) a l x (by rw[show j+(m+1)=j+1+m by lia];exact q) (by simpa using z)
   rw[show j+(m+1)+1=j+1+m+1 by lia]at this;exact this
  refine⟨B,H,?_,by rw[Aw,show j+(u.length+1)=j+1+u.length by lia];exact G⟩;rw[iB e1,e2];exact e3
def nC(p:D->Bool)(f:D->D):∀(l:QQ)(j:aw),j.length=nv ->
  (∀x∈l,∀j:aw,j.length=nv->∃a:aw,a.length=nv/\g x (j++fr)=J (a++fr)/\t (a++fr) s=.ok (p x) s/\(p x=I->e (a++fr) s=.ok (f x) s))->cT g t e l (j++fr) s=.ok ((l.filter p).map f) s
 |[],j,hv,i=>rfl
 |x::l,j,hv,i=>by
  obtain⟨a,z,e1,e2,e3⟩:=i x (by simp) j hv;have B:=nC p f l a z λy C=>i y (p5 _ C);rw[cT,e1];dsimp only;rw[e2]
  cases u:p x with
  |true=>simp only[Pb,if_true,e3 u,B,KP u,n_]
  |false=>simp only[Pb,vI,if_false,B,KQ (show ¬p x=I by simp[u])]
def vF{z a:QP}{env:aw}{s:d_}{y:Nat}{fm:QP}{i:Xi z}{g:Xg a}{t:Xt a}{e:Xe a}{hw:AY y fm z=a}{C:e.fz=I}{u:QQ}(p:D->Bool)(f:D->D)(E:i.p env s=.ok u s)(hl:u.length<=100000)(l:∀x∈u,∀B:aw,B.length=y->∃j:aw,j.length=y/\g.p x (B++fm.map λi=>(env[i]?).getD Y)=J (j++fm.map λi=>(env[i]?).getD Y)/\t.p (j++fm.map λi=>(env[i]?).getD Y) s=.ok (p x) s/\(p x=I->e.p (j++fm.map λi=>(env[i]?).getD Y) s=.ok (f x) s)):
  (bx y fm i g t e hw C).p env s=.ok (.lst ((u.filter p).map f)) s:=by
 rw[jE,E,Pb,e_ hl];unfold t_;rw[nC p f u _ (by simp) l]
def JH{u ws':QP}{env:aw}{s:d_}{fm:QP}{i:Xi u}{t:Xt ws'}{e:Xe ws'}{l:QQ}(p:D->Bool)(f:D->D)(F:i.p env s=.ok l s)(hl:l.length<=100000)(j:∀x∈l,∃a b,x=.tup [a,b]/\t.p (J a::J b::fm.map λi=>(env[i]?).getD Y) s=.ok (p x) s/\(p x=I->e.p (J a::J b::fm.map λi=>(env[i]?).getD Y) s=.ok (f x) s))(E:ws'.contains 0=T:=by exact ys rfl)(B:ws'.contains 1=T:=by exact ys rfl)(hw:AY 2 fm u=ws':=by exact ys rfl)(y:e.fz=I:=by exact ys rfl):
  (bx 2 fm i (tx (lR (i0 0 E) (lR (i0 1 B) ts)) 2) t e hw y).p env s=.ok (.lst ((l.filter p).map f)) s :=
 vF p f F hl λx z C hv=>match C,hv with
  |[_,_],_=>let⟨a,b,e,q⟩:=j x z;⟨[J a,J b],rfl,by subst e;rfl,q⟩
def xO{α:Type}(l:List α):(l.filter λ_=>I)=l:=KW.mpr (by simp)
def jx(h:0<=i):∃n:Nat,i=(n:Int):=⟨i.toNat,⋯⟩
noncomputable section
def Ct:D->Option Bool
 |.non=>J T
 |.bl b=>J b
 |.int i=>J (i != 0)
 |.tup xs=>J (!xs.isEmpty)
 |.lst xs=>J (!xs.isEmpty)
 |_=>Y
def Rps.empty(r:Rps p h O a vs):vs.isEmpty=a.isEmpty:=by
 cases a with
 |nil=>rw[show vs=[]from r];rfl
 |cons d a=>obtain⟨x,t,e,_⟩:=r;rw[e];rfl
def rA(w:Vw q h L O d v)(e:Ct d=J b):mD h v=J b:=by
 cases d with
 |non=>cases e;rw[w.non];rfl
 |bl c=>cases e;rw[w.bl];rfl
 |int c=>cases e;rw[w.int];rfl
 |tup c=>cases e;obtain⟨xs,rfl,r⟩:=w.tup;rw[mD,r.empty]
 |lst c=>cases e;obtain⟨n,xs,rfl,g,r⟩:=w.lst;simp only[mD,g];rw[r.empty]
 |_=>cases e
section
variable{ws:QP}
def JI(a:Xe ws):Xt ws where
 m:=O4 a.m
 p:=λenv s=>(a.p env s).bind λd s=>.of (Ct d) s
 ok {q h L B O Z env s} c:=by
  refine(a.ok c).bind λx v f l j i ⟨w,_,_⟩=>?_
  cases e:Ct x with
  |none=>trivial
  |some b=>rw[rA w e];exact⟨b,f,rfl,KB.refl _ _,i,rfl⟩
structure OpR where
 m:Nat->QL->MH->QX
 p:QQ->QQ->QB
 ok:∀{q:Nat}{h:MH}{L:Nat}{O:QP}{n:Nat}{xs:QL}{ds as:QQ}{vs:QL}{d:D},h[n]?=J (.lst xs)->Rps q h O ds xs->FQ q h L O as vs->p ds as=J d->∃v,m n vs h=.ok v h/\Rp q h O d v/\∀k es,d≠dl k es
end
section
variable{ws:QP}{env:aw}{s:d_}
@[simp]theorem Py:(JI a).p env s=(a.p env s).bind λd s=>.of (Ct d) s:=rfl
end
end
noncomputable section
section
variable{ws:QP}
def ss(i j:Nat)(a:Xs ws)(P:ws.contains i=T:=by exact ys rfl)(R:ws.contains j=T:=by exact ys rfl)(G:a.fz=I:=by exact ys rfl):Xd ws where
 m:=Fj i j a.m
 p:=λenv s=>(a.p env s).go env λu env s=>match u with
  |[x,y]=>.nx ((env.set i (J x)).set j (J y)) s
  |_=>.bad
 fr:=I
 ok {q h L B O Z env s} c d:=by
  refine SOk.ex (f:=λC Z h=>match C with|[v,w]=>.nx ((Z.set i (J v)).set j (J w)) h|_=>.bad) (g:=λu env s=>match u with|[x,y]=>.nx ((env.set i (J x)).set j (J y)) s|_=>.bad) c d (a.ok c) λxs C M W kb l ⟨_,z⟩=>?_;have z:=z G
  match xs,z with
  |[],_=>trivial
  |[_],_=>trivial
  |[x,y],z =>
   obtain⟨v,t,rfl,S,F⟩:=z;obtain⟨w,X,rfl,rw',rfl⟩:=F;obtain⟨E,Q⟩:=l.sr.set (i:=i) (λz=>by simp[z]at P) S;obtain⟨U,H⟩:=E.set (i:=j) (λz=>by simp[z]at R) rw';exact⟨_,M,rfl,O,Stp.refl _ _ _ _,⟨l.bd,l.sub,l.bb,l.pb,l.hL,l.pen,U⟩,(d.keep Q).keep H⟩
  |_::_::_::_,_=>trivial
variable{env:aw}{s:d_}
@[simp]theorem F4:(ss i j a hi hj hz).p env s=(a.p env s).go env λds env s=>match ds with
  |[x,y]=>.nx ((env.set i (J x)).set j (J y)) s
  |_=>.bad:=rfl
end
end
noncomputable section
def jy:QQ->Option (List (Int×D))
 |[]=>J []
 |.tup [.int k,v]::r=>(jy r).map ((k,v)::·)
 |_=>Y
def JJ(x:D):Option (List (Int×D)):=match x with
 |.tup f=>(match jy f with
  |some a=>if(a.map (·.1)).Nodup then J a else Y
  |none=>Y)
 |_=>Y
def Rkv(q:Nat)(h:MH)(O:QP):List (Int×D)->List (Int×PV)->Prop
 |[],r=>r=[]
 |a::t,r=>∃b u,r=b::u/\a.1=b.1/\Rp q h O a.2 b.2/\Rkv q h O t u
def ww:∀{i:QQ}{xs:QL}{f:List (Int×D)},Rps q h O i xs->jy i=J f->∃j,ip xs=J j/\Rkv q h O f j:=by
 intro i
 induction i with
 |nil=>intro xs f r e;rw[show xs=[]from r];cases e;exact⟨[],rfl,rfl⟩
 |cons d i C =>
  intro xs f r e;obtain⟨x,t,rfl,G,y⟩:=r;unfold jy at e
  split at e
  .rename_i z;cases z
  .rename_i u M P z
   injection z with z1 z2
   subst z1 z2;rw[As]at e;obtain⟨l,e1,rfl⟩:=e;obtain⟨j,e2,e3⟩:=C y e1;obtain⟨L,rfl,a,H,rfl,E,b,B,rfl,F,rfl⟩:=G;rw[show a=PV.int u from E];exact⟨(u,b)::j,by unfold ip;rw[e2];rfl,_,_,rfl,rfl,F,e3⟩
  .cases e
def Rkv.keys:∀{f:List (Int×D)}{i:List (Int×PV)},Rkv q h O f i->i.map (·.1)=f.map (·.1)
 |[],_,r=>by rw[show _=[]from r];rfl
 |a::t,_,⟨b,u,e,e1,_,r⟩=>by rw[e,n_,n_,e1,Rkv.keys r]
def F5(r:Rp q h O x v)(e:JJ x=J kvs):∃a,Jp v=J a/\Rkv q h O kvs a:=by
 unfold JJ at e
 split at e
 .rename_i j
  split at e
  .rename_i f i
   split at e
   .rename_i nd
    cases e;obtain⟨xs,rfl,r⟩:=r;obtain⟨a,e1,e2⟩:=ww r i;refine⟨a,?_,e2⟩;simp only[Jp,e1];rw[e_ (by rw[e2.keys];exact nd)]
   .cases e
  .cases e
 .cases e
section
variable{ws:QP}
def zV(i j:Int):Xe ws where
 m:=mC (.tup [.int i,.int j])
 p:=λ_ s=>.ok (.tup [.int i,.int j]) s
 fz:=I
 fr:=I
 ok {q h L B O Z env s} c:=by have r:Rp q h O (.tup [.int i,.int j]) (.tup [.int i,.int j]):=⟨_,rfl,_,_,rfl,rfl,_,_,rfl,rfl,rfl⟩;exact⟨_,h,rfl,KB.refl _ _,c.pen,.inl r,λ_=>r,λ_ k a e=>by cases k<;>cases e⟩
end
end
noncomputable section
variable{ws:QP}
end
end PU
namespace MM
open PySem.Spec PyProof.Rows L2
def JK:nr:=λ_ _=>.bad
def F6{X:Cx}{st:Stmt}:MS X st JK:=λi s Z H D a ⟨U,f,h,j,l,q⟩=>q.elim
end MM
namespace PU
open MM
def sF{ws:QP}:Xd ws where
 m:=JK
 p:=λ_ _=>.bad
 fr:=I
 ok _ _:=trivial
end PU
namespace MM
open PySem.Spec PyProof.Rows L2
abbrev HD(scope sc:Scope)(vars frees:QM):Prop:=(∀y∈scope.names,y.2=.cell->scope.names.lookup y.1=J .cell)/\(∀y∈scope.names,y.2=.local->scope.names.lookup y.1=J .local)/\(∀x∈vars,scope.names.lookup x=J .local\/scope.names.lookup x=J .cell)/\(∀x∈frees,scope.names.lookup x=J .free)/\(∀y∈scope.names,y.2=.free->y.1∈frees)/\(∀x∈frees,sc.names.lookup x=J .cell)
def F7(a f:Scope):Scope:={ a with names:=a.names.map λ(n,k)=>if(k == .free&&f.kind == .function&&f.names.lookup n==J .cell)then(n,.cell)else(n,k)}
def nP{a f:Scope}{env:Env}(h:env.scope=f):relabel a env=F7 a f:=by subst h;rfl
def hW{X:Cx}{N:QM}{a l:Scope}{f frees:QM}{fm:QP}(j:X.env.scope=l)(y:a.kind=.function)(u:fm.map (λi=>N[i]?)=frees.map J)(h:HD a l f frees):zi X N a f frees fm :=
 FF j y h.1 h.2.1 h.2.2.1 h.2.2.2.1 h.2.2.2.2.1 u h.2.2.2.2.2
def JL{Q:QS->Prop}(h:∀f,Q [f]):∀a,a.length=1->Q a
 |[_],_=>h _
def LF{Q:QS->Prop}(h:∀i f,Q [i,f]):∀a,a.length=2->Q a
 |[_,_],_=>h _ _
def LG{Q:QS->Prop}(h:∀i f j,Q [i,f,j]):∀a,a.length=3->Q a
 |[_,_,_],_=>h _ _ _
def LH{Q:QS->Prop}(h:∀j i l f,Q [j,i,l,f]):∀a,a.length=4->Q a
 |[_,_,_,_],_=>h _ _ _ _
abbrev Zn(K:hH)(x:Str):Prop:=PySem.W.nsIn K mainGlobals x=J Y
abbrev Nn(X:Cx)(x:Str):Prop:=X.mg x=Y
abbrev Sc(X:Cx)(s:Stmt):Prop:=X.env.scope=aj s
abbrev Gd(X:Cx)(N G:QM)(k:Nat):Prop:=Good X N N G k
structure Ba(P:Program)(w:World)(K:hH)(mg:QA)(base:Heap):Prop where
 kin:K.In base
 ns:base.Ns mainGlobals mg
structure EE(X:Cx)(P:Program)(w:World)(K:hH)(mg:QA)(base:Heap):Prop where
 e1:X.prog=P
 e2:X.w=w
 e3:X.K=K
 e4:X.mg=mg
 e5:X.base=base
 b:Ba P w K mg base
section
variable{P:Program}{w:World}{K:hH}{mg:QA}{base:Heap}{X:Cx}
def EE.n(e:EE X P w K mg base){x:Str}(z:Zn K x):Nn X x:=by show X.mg x=Y;rw[e.e4];exact PySem.W.mg_none_of e.b.kin e.b.ns z
def FnAt.c{x:Str}{f:QM}{F:QL->MH->QX}{i j:Nat}(a:FnAt P w K mg base x f F i)(e:EE X P w K mg base)(h:i<=j:=by decide):Cal X x f F j :=
 (a.mono h).cal e.e1 e.e2 e.e3 e.e4 e.e5
def HE{x:Str}{st:Stmt}{N G ps:QM}{m:nr}{k:Nat}(b:Ba P w K mg base)(D:eT K x st)(j:∀X:Cx,EE X P w K mg base->Sc X st->Gd X N G k->h_ X->Aj X (aG st) m)(B:fQ x st ps:=by first | exact λ_ _ _ _ _ _=>JL λ_=>rfl | exact λ_ _ _ _ _ _=>LF λ_ _=>rfl | exact λ_ _ _ _ _ _=>LG λ_ _ _=>rfl | exact λ_ _ _ _ _ _=>LH λ_ _ _ _=>rfl | exact λ_ _ _ _ _ _=>ar5 λ_ _ _ _ _=>rfl)(S:o_ N ps (aj st):=by exact⟨rfl,rfl,rfl,by decide +kernel,rfl,by decide +kernel,by decide +kernel⟩)(hl:∀y∈N,(aj st).names.lookup y=J .local\/(aj st).names.lookup y=J .cell:=by decide +kernel)(a:∀y∈G,(aj st).names.lookup y=J .globalImplicit:=by decide +kernel)(dbg:∀x∈N++G,(x==("__debug__":Str))=T/\(x==("__classdict__":Str))=T/\x≠"__name__":=by decide +kernel):
  FnAt P w K mg base x ps (cr N.length ps.length m) (k+1) :=
 nK b.kin b.ns D S B hl a dbg λX e1 e2 e3 e4 e5 i g f=>j X ⟨e1,e2,e3,e4,e5,b⟩ i g f
end
structure YE(Y X:Cx):Prop where
 e1:Y.prog=X.prog
 e2:Y.w=X.w
 e3:Y.K=X.K
 e4:Y.mg=X.mg
 e5:Y.base=X.base
section
variable{X Y:Cx}{N W G:QM}{k:Nat}{x:Str}{p pos:Pos}{e:Expr}{es:QW}{m:Mx (QL)}{f:QL->MH->QX}
def YE.n(y:YE Y X)(h:X.mg x=none):Y.mg x=none:=y.e4.symm▸h
def YE.c(y:YE Y X){a:QM}{F:QL->MH->QX}{i:Nat}(c:Cal X x a F i):Cal Y x a F i:=c.at y.e1 y.e2 y.e3 y.e4 y.e5
def kV(g:Good X N W G k)(i:Nat)(a:N[i]?=J x:=by rfl):ME X (.Name x pos) (af i):=xE g i a
def z_(g:Good X N W G k)(i:Nat)(a:N[i]?=J x:=by rfl)(hw:W[i]?=J x:=by rfl):MG X (.Name x pos) (mA i):=ue g i a hw
def AC{a b:Expr}{i j:Mx PV}(y:ME X a i)(u:ME X b j)(l:jq b:=by exact λ_ _=>rfl):ME X (.Subscript a b pos) (ay bc i j):=DI y u l
def Pz{i:CmpOp}{f:PV->PV->MH->QX}{a b:Expr}{j l:Mx PV}(u:y_ X (compareOp i) f)(B:ME X a j)(z:ME X b l)(y:behindInMarks i b=T:=by first | exact AF _ | rfl):ME X (.Compare a [i] [b] pos) (ay f j l):=wR u B z y
def Cu{i:CmpOp}{f:PV->PV->MH->QX}{a b:Expr}{j l:Mx PV}(u:y_ X (compareOp i) f)(B:ME X a j)(z:ME X b l)(y:behindInMarks i b=T:=by first | exact AF _ | rfl):MT X (.Compare a [i] [b] pos) (mB (ay f j l)):=yj u B z y
def wh(g:Good X N W G k)(j:Nat){l:QM}{F:QL->MH->QX}(C:Cal X x l F k)(y:MA X (e::es) m)(i:G[j]?=J x:=by rfl)(u:starEach (e::es) X.env=(T,eval e X.env)::starEach es X.env:=by rfl)(a:(backTo pos (starEach es X.env)).any (·.1)=T:=by rfl):ME X (.Call (.Name x p) (e::es) [] pos) (ba F m):=uG g i C y u a
def A7{id:String}(g:Good X N W G k)(j:Nat)(u:cK X (.builtin id) f)(l:X.mg x=none)(hv:bootBuiltins x=J (.builtin id))(z:MA X (e::es) m)(i:G[j]?=J x:=by rfl)(y:starEach (e::es) X.env=(T,eval e X.env)::starEach es X.env:=by rfl)(a:(backTo pos (starEach es X.env)).any (·.1)=T:=by rfl):ME X (.Call (.Name x p) (e::es) [] pos) (qo f m):=rV g j i u l hv z y a
def DW{a:String}(g:Good X N W G k)(j:Nat)(y:cK X (.type a) f)(u:X.mg x=none)(hv:bootBuiltins x=J (.type a))(B:MA X (e::es) m)(l:G[j]?=J x:=by rfl)(z:starEach (e::es) X.env=(T,eval e X.env)::starEach es X.env:=by rfl)(i:(backTo pos (starEach es X.env)).any (·.1)=T:=by rfl):ME X (.Call (.Name x p) (e::es) [] pos) (qo f m):=pZ g j l y u hv B z i
def HG{y a:Expr}(g:Good X N W G k)(j:Nat)(l:X.mg "range"=none)(z:MA X [a] m)(i:G[j]?=J "range":=by rfl)(u:starEach [a] X.env=[(T,eval a X.env)]:=by rfl):MI X y (.Call (.Name "range" p) [a] [] pos) (cQ m):=pH (g.gl _ (aL i)) l z u
def PB{i:QW}{C:Nat}{l:Pos}{a:Expr}(g:Good X N W G k)(j:Nat)(y:X.mg "enumerate"=none)(B:MA X [a] m)(u:G[j]?=J (("enumerate":String):Str):=by rfl)(z:starEach [a] X.env=[(T,eval a X.env)]:=by rfl):MI X (.Tuple i C l) (.Call (.Name "enumerate" p) [a] [] pos) (my m):=ua g u y B z
section
variable{tg iter elt:Expr}{ifs:QW}{scope sc:Scope}{mi:Mx MIt}{gt:Mg}{mt:Mx Bool}{me:Mx PV}
def JM(g:Good X N W G k)(l:X.env.scope=sc)(a frees u:QM)(fm:QP)(F:MI X tg iter mi)(L:∀Y:Cx,YE Y X->Good Y (a++frees) a u k->MG Y tg gt/\Bt Y ifs mt/\ME Y elt me)(E:scope.kind=.function:=by rfl)(O:fm.map (λi=>N[i]?)=frees.map J:=by rfl)(h:HD scope sc a frees:=by decide +kernel)(nd:(a++frees).Nodup:=by decide +kernel)(j:∀x∈u,scope.names.lookup x=J .globalImplicit:=by decide +kernel)(dbg:∀x∈(a++frees)++u,(x==("__debug__":Str))=T/\(x==("__classdict__":Str))=T/\x≠"__name__":=by decide +kernel)(y:∀x,foldedSetIterable iter X.env x=pure x:=by exact λ_=>rfl):ME X (.ListComp elt [⟨tg,iter,ifs,0⟩] scope pos) (bI a.length fm mi gt mt me) :=
 oP g (hW l E O h) nd j dbg F (λY H C B M z _ g=>L Y ⟨H,C,B,M,z⟩ g) y
def PC{j py:Pos}{y:Str}(g:Good X N W G k)(l:X.env.scope=sc)(i:Nat)(a frees C:QM)(fm:QP)(O:MI X tg iter mi)(Q:∀Y:Cx,YE Y X->Good Y (a++frees) a C k->MG Y tg gt/\Bt Y ifs mt/\ME Y elt me)(z:∀env:Env,env.scope=sc->swapsWith (.ListComp elt [⟨tg,iter,ifs,0⟩] scope pos) (J (.Name y py)) j.line env=pure I:=by(intro env h;cases env;cases h;rfl))(u:N[i]?=J y:=by rfl)(hw:W[i]?=J y:=by rfl)(M:scope.kind=.function:=by rfl)(S:fm.map (λi=>N[i]?)=frees.map J:=by rfl)(h:HD scope sc a frees:=by decide +kernel)(nd:(a++frees).Nodup:=by decide +kernel)(B:∀x∈C,scope.names.lookup x=J .globalImplicit:=by decide +kernel)(dbg:∀x∈(a++frees)++C,(x==("__debug__":Str))=T/\(x==("__classdict__":Str))=T/\x≠"__name__":=by decide +kernel)(E:∀x,foldedSetIterable iter X.env x=pure x:=by exact λ_=>rfl):MS X (.Assign [.Name y py] (.ListComp elt [⟨tg,iter,ifs,0⟩] scope pos) j) (aV i (bI a.length fm mi gt mt me)) :=
 pA g i u hw (z X.env l) (hW l M S h) nd B dbg O (λY P L H R F _ g=>Q Y ⟨P,L,H,R,F⟩ g) E
def Qa(g:Good X N W G k)(j:X.env.scope=sc)(a frees u:QM)(fm:QP)(H:MI X tg iter mi)(M:∀Y:Cx,YE Y X->Y.env.scope=F7 scope sc->Good Y (a++frees) a u k->MG Y tg gt/\Bt Y ifs mt/\ME Y elt me)(F:scope.kind=.function:=by rfl)(P:fm.map (λi=>N[i]?)=frees.map J:=by rfl)(h:HD scope sc a frees:=by decide +kernel)(nd:(a++frees).Nodup:=by decide +kernel)(l:∀x∈u,scope.names.lookup x=J .globalImplicit:=by decide +kernel)(dbg:∀x∈(a++frees)++u,(x==("__debug__":Str))=T/\(x==("__classdict__":Str))=T/\x≠"__name__":=by decide +kernel)(y:∀x,foldedSetIterable iter X.env x=pure x:=by exact λ_=>rfl):ME X (.ListComp elt [⟨tg,iter,ifs,0⟩] scope pos) (bI a.length fm mi gt mt me) :=
 oP g (hW j F P h) nd l dbg H (λY L E C O B z g=>M Y ⟨L,E,C,O,B⟩ (z.trans (nP j)) g) y
def Qb{j py:Pos}{y:Str}(g:Good X N W G k)(l:X.env.scope=sc)(i:Nat)(a frees C:QM)(fm:QP)(P:MI X tg iter mi)(R:∀Y:Cx,YE Y X->Y.env.scope=F7 scope sc->Good Y (a++frees) a C k->MG Y tg gt/\Bt Y ifs mt/\ME Y elt me)(z:∀env:Env,env.scope=sc->swapsWith (.ListComp elt [⟨tg,iter,ifs,0⟩] scope pos) (J (.Name y py)) j.line env=pure I:=by(intro env h;cases env;cases h;rfl))(u:N[i]?=J y:=by rfl)(hw:W[i]?=J y:=by rfl)(O:scope.kind=.function:=by rfl)(U:fm.map (λi=>N[i]?)=frees.map J:=by rfl)(h:HD scope sc a frees:=by decide +kernel)(nd:(a++frees).Nodup:=by decide +kernel)(B:∀x∈C,scope.names.lookup x=J .globalImplicit:=by decide +kernel)(dbg:∀x∈(a++frees)++C,(x==("__debug__":Str))=T/\(x==("__classdict__":Str))=T/\x≠"__name__":=by decide +kernel)(E:∀x,foldedSetIterable iter X.env x=pure x:=by exact λ_=>rfl):MS X (.Assign [.Name y py] (.ListComp elt [⟨tg,iter,ifs,0⟩] scope pos) j) (aV i (bI a.length fm mi gt mt me)) :=
 pA g i u hw (z X.env l) (hW l O U h) nd B dbg P (λY Q M L S H F g=>R Y ⟨Q,M,L,S,H⟩ (F.trans (nP l)) g) E
end
end
abbrev sY:=@PyProof.Rows.Boot.«abs»
abbrev sO:=@PyProof.Rows.Boot.«min»
abbrev F8:=@PyProof.Rows.Boot.«max»
abbrev rG:=@PyProof.Rows.Boot.«int»
abbrev kN:=@PyProof.Rows.Boot.«len»
abbrev ib:=@PyProof.Rows.Boot.«list»
abbrev j4:=@PyProof.Rows.Boot.«tuple»
abbrev wU:=@PyProof.Rows.Boot.«all»
abbrev pK:=@PyProof.Rows.Boot.«sorted»
abbrev Cv:=@PyProof.Rows.Boot.«bool»
abbrev Cw:=@PyProof.Rows.Boot.«dict»
abbrev iM:=@PySem.F.slot_list_append
abbrev iY:=@PySem.F.type_list_append
abbrev xA:=@PySem.F.slot_list_insert
abbrev xF:=@PySem.F.type_list_insert
end MM
namespace PU
open MM
open L2 (vf pz fW)
noncomputable section
end
noncomputable section
end
noncomputable section
end
end PU
namespace PU
open MM L2
noncomputable section
inductive VwD(h:MH)(fz:Bool)(ks:QN)(P:QL->Prop)(v:PV):Prop
 |mk(n:Nat)(xs:QL)(e:v=.loc n)(g:h[n]?=J (.dic fz ks xs))(r:P xs):VwD h fz ks P v
def Vw.dic{q:Nat}{h:MH}{L:Nat}{O:QP}{v:PV}{fz:Bool}{a:QN}{f:QQ}(w:Vw q h L O (.dic fz a f) v):VwD h fz a (Rps q h O f) v:=by
 rcases w with⟨n,xs,e,_,g,r⟩|⟨n,j,xs,i,e,e1,_,_,g,r⟩
 .exact⟨n,xs,e,g,r⟩
 .cases j with
  |none=>cases e
  |some _=>cases e;exact⟨n,xs,e1,g,r⟩
def VwD.of{h:MH}{fz:Bool}{a:QN}{P:QL->Prop}{v:PV}(w:VwD h fz a P v):∃xs,cy h v=J (fz,a,xs)/\P xs:=by obtain⟨n,xs,rfl,g,r⟩:=w;exact⟨xs,by simp only[cy,g],r⟩
def sC{q:Nat}{h:MH}{O:QP}{f:QQ}{xs:QL}{ks:QN}(r:Rps q h O f xs)(i:Int):match s_ ks f i with
  |some d=>∃v,s_ ks xs i=J v/\Rp q h O d v
  |none=>s_ ks xs i=Y:=by
 induction ks generalizing f xs with
 |nil=>cases f<;>cases xs<;>rfl
 |cons k ks j =>
  cases f with
  |nil=>rw[show xs=[]from r];rfl
  |cons d f =>
   obtain⟨x,t,rfl,a,b⟩:=r;unfold s_;by_cases e:k=i
   .simp only[e_ e];exact⟨_,rfl,a⟩
   .simp only[hI e];exact j b
def Cy{q:Nat}{h:MH}{O:QP}{f:QQ}{xs:QL}{ks:QN}{d:D}{v:PV}(r:Rps q h O f xs)(w:Rp q h O d v)(i:Int):(il ks f i d).1=(il ks xs i v).1/\Rps q h O (il ks f i d).2 (il ks xs i v).2:=by
 induction ks generalizing f xs with
 |nil=>exact⟨by simp[il],by simpa using⟨v,[],rfl,w,rfl⟩⟩
 |cons k ks l =>
  cases f with
  |nil=>rw[show xs=[]from r];exact⟨rfl,v,[],rfl,w,rfl⟩
  |cons y f =>
   obtain⟨x,t,rfl,a,b⟩:=r;unfold il;by_cases e:k=i
   .simp only[e_ e];exact⟨trivial,v,t,rfl,w,b⟩
   .simp only[hI e];obtain⟨j,u⟩:=l b;exact⟨by rw[j],x,_,rfl,a,u⟩
def Cz(j:Bool):w_ where
 m:=qM j
 p:=λa b=>match a,b with
  |.int i,.dic _ f l=>J (.bl (if j then !(s_ f l i).isSome else(s_ f l i).isSome))
  |_,_=>Y
 fr:=I
 ok {q h L O a x b y d} bd wa wb e:=by
  cases a with
  |int i =>
   cases b with
   |dic fz f l =>
    cases e;rw[wa.int];obtain⟨xs,e1,r⟩:=wb.dic.of;have z:(s_ f l i).isSome=(s_ f xs i).isSome:=by
     have:=sC (ks:=f) r i
     cases e2:s_ f l i with
     |none=>rw[e2]at this;rw[this];rfl
     |some d=>rw[e2]at this;obtain⟨v,e3,_⟩:=this;rw[e3];rfl
    simp only[qM,e1];rw[z];exact zK
   |_=>cases e
  |_=>cases e
def lu:w_ where
 m:=lJ
 p:=λa b=>match a,b with
  |.dic _ f j,.int i=>s_ f j i
  |_,_=>Y
 fr:=T
 ok {q h L O a x b y d} bd wa wb e:=by
  cases a with
  |dic fz f j =>
   cases b with
   |int i =>
    rw[wb.int];obtain⟨xs,e1,r⟩:=wa.dic.of;have z:=sC (ks:=f) r i;rw[show s_ f j i=J d from e]at z;obtain⟨v,e3,l⟩:=z;simp only[lJ,e1,e3];exact FW l λz=>by cases z
   |_=>cases e
  |_=>cases e
def ql{q:Nat}{h:MH}{O:QP}:∀{f:List (Int×D)}{i:List (Int×PV)},Rkv q h O f i->i.map (·.1)=f.map (·.1)/\Rps q h O (f.map (·.2)) (i.map (·.2))
 |[],i,r=>by rw[show i=[]from r];exact⟨rfl,rfl⟩
 |kv::f,i,r=>by
  obtain⟨y,j,rfl,e,a,b⟩:=r;obtain⟨u,l⟩:=ql b;exact⟨by simp[u,<-e],_,_,rfl,a,l⟩
variable{ws:QP}
def AS(a:Xe ws)(j:Xs ws):Xe ws where
 m:=O6 a.m j.m
 p:=λenv s=>(a.p env s).bind λx F=>match x with
  |.dic _ f u=>(j.p env F).bind λy C=>match y with
   |[.int i,d]=>.ok ((s_ f u i).getD d) C
   |_=>.bad
  |_=>.bad
 fz:=j.fz
 fr:=T
 ok {q h L B O Z env s} c:=by
  refine(a.ok c).bind λx v h1 F X p1 ⟨w,_,_⟩=>?_
  cases x with
  |dic fz f u =>
   have c1:=c.kb X p1;obtain⟨n,xs,rfl,g,r⟩:=w.dic;have nq:n≠q:=by
    rcases w with⟨W,E,e,Q,_⟩|⟨W,kd,E,ab,_,e,_,hn,_⟩
    .cases e;exact λz=>Q (z▸c.pO)
    .cases e;have:=c.pL;lia
   have e1:cy h1 (.loc n)=J (fz,f,xs):=by simp only[cy,g]
   dsimp only;rw[e1];dsimp only;refine(j.ok c1).bind λy vs l C H P ⟨w2,U⟩=>?_;have S:l[n]?=J (.dic fz f xs):=(H.keep n (au g) nq).trans g;have e2:cy l (.loc n)=J (fz,f,xs):=by simp only[cy,S]
   have R:=r.mv (H.mv c.pO);by_cases G:∃i d,y=[.int i,d]
   .obtain⟨i,d,rfl⟩:=G;obtain⟨v1,v2,rfl,u1,u2⟩:=Jx w2;rw[u1.int,e2];dsimp only;have z:=sC (ks:=f) R i
    cases e3:s_ f u i with
    |none =>
     rw[e3]at z;dsimp only at z;rw[z];refine⟨_,l,rfl,KB.refl _ _,P,u2,λzz=>?_,λz=>by cases z⟩;obtain⟨_,_,e5,_,_,_,e6,r6,_⟩:=U zz;cases e5;cases e6;exact r6
    |some d' =>
     rw[e3]at z;obtain⟨v',e4,M⟩:=z;rw[e4];exact⟨_,l,rfl,KB.refl _ _,P,.inl M,λ_=>M,λz=>by cases z⟩
   .have:(match y with|[.int i,d]=>PR.ok ((s_ f u i).getD d) C|_=>.bad)=PR.bad:=by
     split
     .exact absurd ⟨_,_,rfl⟩ G
     .rfl
    rw[this];trivial
  |_=>trivial
@[simp]theorem nM{a:Xe ws}{as:Xs ws}{env:aw}{s:d_}:(AS a as).p env s=(a.p env s).bind λx s1=>match x with
  |.dic _ ks ds=>(as.p env s1).bind λy s2=>match y with
   |[.int i,d]=>.ok ((s_ ks ds i).getD d) s2
   |_=>.bad
  |_=>.bad:=rfl
def jK(i:Nat)(y e:aw->d_->PR D)(env:aw)(s:d_):PS:=match e env s with
 |.ok v u=>(match y env u with
  |.ok (.int j) l=>(match env[i]? with
   |some (J (.dic T a f))=>if a.length<100000 then .nx (env.set i (J (.dic T (il a f j v).1 (il a f j v).2))) l else .bad
   |_=>.bad)
  |_=>.bad)
 |_=>.bad
def zJ{i:Nat}{a e:aw->d_->PR D}{env:aw}{s s1 s2:d_}{v:D}{j:Int}{ks:QN}{ds:QQ}(e1:e env s=.ok v s1)(e2:a env s1=.ok (.int j) s2)(e3:env[i]?=J (J (.dic T ks ds)))(e4:ks.length<100000):
  jK i a e env s=.nx (env.set i (J (.dic T (il ks ds j v).1 (il ks ds j v).2))) s2:=by
 simp only[jK,e1,e2,e3];rw[e_ e4]
def ye{i:Nat}{ix e:aw->d_->PR D}{env:aw}{s:d_}:jK i ix e env s=.bad\/∃v u j l a f,e env s=.ok v u/\ix env u=.ok (.int j) l/\env[i]?=J (J (.dic T a f))/\a.length<100000/\jK i ix e env s=.nx (env.set i (J (.dic T (il a f j v).1 (il a f j v).2))) l:=by
 unfold jK;split
 .rename_i v u e1
  split
  .rename_i j l e2
   split
   .rename_i a f e3
    by_cases h:a.length<100000
    .rw[e_ h];exact .inr ⟨v,u,j,l,a,f,e1,e2,e3,h,rfl⟩
    .rw[hI h];exact .inl rfl
   .exact .inl rfl
  .exact .inl rfl
 .exact .inl rfl
def lx(i:Nat)(C e:Xe ws)(hi:ws.contains i=I:=by exact ys rfl)(hz:e.fz=I:=by exact ys rfl):Xd ws where
 m:=jU (af i) C.m e.m
 p:=jK i C.p e.p
 fr:=I
 ok {q h L B O Z env s} c d:=by
  rcases ye (i:=i) (e:=e.p) (ix:=C.p) (env:=env) (s:=s)with z|⟨v,s1,j,s2,f,X,e1,e2,e3,e4,z⟩
  .rw[z];trivial
  .rw[z];have u:i∈ws:=by simpa using hi
   have M:=e.ok c;rw[e1]at M;obtain⟨x,U,f1,l,F,_,rx,_⟩:=M;have W:=c.kb l F;have R:=C.ok W;rw[e2]at R;obtain⟨y,S,f2,a,E,w,_,_⟩:=R;have P:=W.kb a E;obtain⟨H,kd,xs,ai,e0,Q,b1,b2,g,r0⟩:=P.sr.ow i _ e3 u
   cases kd with
   |none=>cases e0
   |some ab =>
    cases e0;replace g:S[H]?=J (.dic T f xs):=g;have hy:=w.int;subst hy;have em:af i Z U=.ok (.loc H) U:=by simp[af,Q]
    obtain⟨p1,p2⟩:=Cy (ks:=f) r0 ((rx hz).mv (a.mv c.pO)) j;have nx:=sH (kd:=J (il f X j v).1) P d u e3 Q p2;refine⟨Z,S.set H (.dic T (il f X j v).1 (il f xs j x).2),?_,nx.after ((l.trans a).stp c)⟩;have G:f.length<sizeLine:=by have:=eM;lia
    unfold jU vC;rw[f1];simp only[em,f2,cy,g];rw[e_ G,p1]
def CA{i:Nat}{a e:Xe ws}{hi hz}{env:aw}{s:d_}:(lx i a e hi hz).p env s=jK i a.p e.p env s:=rfl
end
end PU
namespace MM
open PySem.Spec PyProof.Rows L2
section
variable{X:Cx}{a b:Expr}{pos:Pos}{k:Nat}
def bG:Expr->Bool
 |.Starred _ _=>T
 |_=>I
def aX(h:bG e=I):starEach (e::es) env=(T,eval e env)::starEach es env:=by cases e<;>first | rfl | cases h
def F9(i:ME X e m)(hr:MA X es ms)(f:bG e=I:=by rfl):MA X (e::es) (ae m ms):=ah i hr (aX f)
structure kr(X:Cx)(e:Expr)(m:Mx PV):Prop where
 h:ME X e m
structure Ag(X:Cx)(es:QW)(ms:Mx (QL)):Prop where
 h:MA X es ms
structure xl(X:Cx)(st:Stmt)(m:nr):Prop where
 h:MS X st m
structure n5(X:Cx)(st:QC)(m:nr):Prop where
 h:Aj X st m
section
variable{e:Expr}{es:QW}{m ma mb:Mx PV}{ms:Mx (QL)}{st:Stmt}{rest:QC}{u v:nr}{f:PV->PV->MH->QX}{N W G:QM}{x:Str}
def cF:Ag X [] b_:=⟨aD⟩
def aY(j:kr X e m)(hr:Ag X es ms)(i:bG e=I:=by rfl):Ag X (e::es) (ae m ms):=⟨F9 j.h hr.h i⟩
def qd(h:ME X e m):kr X e m:=⟨h⟩
def Np(h:Ag X es ms):kr X (.List es pos) (fV ms):=⟨wI h.h⟩
def A8(h:Ag X es ms):kr X (.Tuple es j pos) (cY ms):=⟨Fh h.h⟩
def zL(h:MS X st u):xl X st u:=⟨h⟩
def Az(g:Good X N W G k)(i:Nat){j:Pos}(z:kr X e m)(y:N[i]?=J x:=by rfl)(hw:W[i]?=J x:=by rfl)(l:swapsWith e (J (.Name x j)) pos.line X.env=pure T:=by rfl):
  xl X (.Assign [.Name x j] e pos) (aV i m):=⟨rD g i y hw z.h l⟩
def A1(i:kr X e m):xl X (.Return (J e) pos) (bO m):=⟨Fi i.h⟩
def Ah(h:xl X st u):n5 X [st] u:=⟨BY h.h⟩
def vi(i:xl X st u)(j:n5 X rest v):n5 X (st::rest) (aQ u v):=⟨ze i.h j.h⟩
end
end
end MM
namespace PU
open MM
noncomputable section
end
end PU
namespace MM
open PySem.Spec PyProof.Rows L2 SetT SortT
end MM
namespace PU
open MM SetT
noncomputable section
end
end PU
namespace MM
open PySem.Spec PyProof.Rows L2
open PU (Xe Xs Xt Xi Xg DN Xo Xd Lx w_ A5 Hy DO OpR Fn ac xC ag vu a_ aa qr ao jk bE Cj xB du AR pu iN FR nW FS nz bx cg bT i0 ts lR tx aM ln aZ lV qQ xg bn gb dG Jv DP pD bM DQ Bw Bx By JI ss sF AS lx zV)
structure Bn(X:Cx)(e:Expr)(m:Mx Bool):Prop where
 h:MT X e m
structure LI(X:Cx)(e:Expr)(m:Mx Bool):Prop where
 h:MW X e m
structure DX(X:Cx)(tg e:Expr)(m:Mx MIt):Prop where
 h:MI X tg e m
structure JN(X:Cx)(e:Expr)(m:Mg):Prop where
 h:MG X e m
structure LJ(X:Cx)(e:QW)(m:BZ):Prop where
 h:IS X e m
structure Nq(X:Cx)(e:QW)(m:Mx Bool):Prop where
 h:Bt X e m
structure LK(X:Cx)(e:Option Expr)(m:Mx (QV)):Prop where
 h:MO' X e m
structure OJ(X:Cx)(r:Value->Value->Sem Value)(o:w_):Prop where
 h:y_ X r o.m
def CC(a:Scope):QM:=(a.names.filter λy=>match y.2 with|.globalImplicit=>I|_=>T).map (·.1)
abbrev gm(sc:Scope)(x:Str):Prop:=x∈CC sc
def DY:Expr->QM
 |.Name x _=>[x]
 |.Tuple a _ _=>a.flatMap λe=>match e with
  |.Name x _=>[x]
  |.Tuple a _ _=>a.flatMap λe=>match e with
   |.Name x _=>[x]
   |_=>[]
  |_=>[]
 |_=>[]
def HH(N:QM)(fm:QP):QM:=fm.filterMap (N[·]?)
structure Wc(X:Cx)(P:Program)(w:World)(K:hH)(mg:QA)(base:Heap)(N W:QM)(k:Nat)(sc:Scope):Prop where
 g:Good X N W (CC sc) k
 e:EE X P w K mg base
 s:X.env.scope=sc
section
variable{X Y:Cx}{P:Program}{w:World}{K:hH}{mg:QA}{base:Heap}{N W:QM}{k:Nat}{sc:Scope}{ws:QP}{x y:Str}{p p' pos spos:Pos}{e a b d tg:Expr}{es:QW}{i j:Nat}{st:Stmt}{rest body:QC}{xa xb xd:Xe ws}{ta tb:Xt ws}{sa:Xs ws}{da db:Xd ws}
def Wc.gj(c:Wc X P w K mg base N W k sc)(h:gm sc x):∃j:Nat,(CC sc)[j]?=J x:=LU h
def Wc.n(c:Wc X P w K mg base N W k sc)(z:Zn K x):X.mg x=none:=c.e.n z
def JO{i:Int}:kr X (.Constant (.int i) j pos) (xC (ws:=ws) (.int i)).m:=⟨aC⟩
def Nr{i:Bool}:kr X (.Constant (.bool i) j pos) (xC (ws:=ws) (.bl i)).m:=⟨qN⟩
def JP:kr X (.Constant .none j pos) (xC (ws:=ws) .non).m:=⟨n6⟩
def JQ{f:Operator}{o:w_}(l:OJ X (binaryOp f) o)(z:kr X a xa.m)(u:kr X b xb.m):kr X (.BinOp a f b pos) (ag o xa xb).m:=⟨aN l.h z.h u.h⟩
def JR{f:CmpOp}{o:w_}(l:OJ X (compareOp f) o)(B:kr X a xa.m)(z:kr X b xb.m)(u:behindInMarks f b=T):kr X (.Compare a [f] [b] pos) (ag o xa xb).m:=⟨wR l.h B.h z.h u⟩
def Nt(u:kr X a xa.m)(l:kr X b xb.m)(f:jq b):kr X (.Subscript a b pos) (ag PU.l7 xa xb).m:=⟨DI u.h l.h f⟩
def JS(f:kr X a xa.m):kr X (.UnaryOp .USub a pos) (vu PU.mT xa).m:=⟨IN Fs f.h⟩
def F_(f:kr X a xa.m):kr X (.UnaryOp .Not a pos) (nW xa).m:=⟨Fc f.h⟩
def CD{u f:CmpOp}{o z:w_}(B:OJ X (compareOp u) o)(l:OJ X (compareOp f) z)(F:kr X a xa.m)(E:kr X b xb.m)(hd:kr X d xd.m)(C:lastMarks [u,f] [b,d]=T):kr X (.Compare a [u,f] [b,d] pos) (nz o z xa xb xd).m:=⟨yn B.h l.h F.h E.h hd.h C⟩
def JT{f:BoolOp}(l:kr X a xa.m):kr X (.BoolOp f [a] pos) xa.m:=⟨wu l.h⟩
def Ga(l:kr X a xa.m)(f:kr X (.BoolOp .And (b::es) pos) xb.m):kr X (.BoolOp .And (a::b::es) pos) (iN xa xb).m:=⟨Fb l.h f.h⟩
def JU{hz}(h:Ag X es sa.m):kr X (.Tuple es j pos) (bE sa hz).m:=A8 h
def JV{hz}(h:Ag X es sa.m):kr X (.List es pos) (jk sa hz).m:=Np h
def JW:kr X (.Dict [] [] pos) (Cj (ws:=ws)).m:=⟨B5⟩
def Nu{lo l:Option Expr}{u f:Xo ws}(B:kr X a xa.m)(hl:LK X lo u.m)(z:LK X l f.m):kr X (.Subscript a (.Slice lo l none p) pos) (By xa u f).m:=⟨DL B.h hl.h z.h⟩
def Nv:LK X none (Bw (ws:=ws)).m:=⟨t8⟩
def Nw(f:kr X a xa.m):LK X (J a) (Bx xa).m:=⟨u0 f.h⟩
def JX:Ag X [] (a_ (ws:=ws)).m:=cF
def Gb(u:kr X e xa.m)(l:Ag X es sa.m)(f:bG e=I):Ag X (e::es) (aa xa sa).m:=aY u l f
def JY:OJ X (binaryOp .Add) PU.dJ:=⟨cw⟩
def JZ:OJ X (binaryOp .Sub) PU.km:=⟨Fq⟩
def J0:OJ X (binaryOp .Mult) PU.br:=⟨fB⟩
def J1(u:kr X a xa.m)(l:kr X b xb.m)(f:jq b):kr X (.Subscript a b pos) (ag PU.lu xa xb).m:=⟨xp u.h l.h f⟩
def J2:OJ X (binaryOp .Mod) PU.oW:=⟨dP⟩
def J3:OJ X (binaryOp .Pow) PU.qU:=⟨rY⟩
def Nx:OJ X (compareOp .Lt) PU.FX:=⟨DE⟩
def Ny:OJ X (compareOp .LtE) PU.M7:=⟨IV⟩
def Nz:OJ X (compareOp .Gt) PU.Lz:=⟨DF⟩
def NA:OJ X (compareOp .GtE) PU.M8:=⟨DG⟩
def NB:OJ X (compareOp .Is) (PU.DR T):=⟨DH⟩
section
variable(c:Wc X P w K mg base N W k sc)
include c
def w_var(f:N[i]?=J x):kr X (.Name x pos) (ac (ws:=ws) i).m:=⟨xE c.g i f⟩
def NC:OJ X (binaryOp .FloorDiv) PU.Co:=⟨vK c.g.room⟩
def J4{i j:Int}(v:ng K mg x i j)(l:gm sc x):kr X (.Name x pos) (zV (ws:=ws) i j).m :=
 let⟨_,f⟩:=c.gj l
 ⟨wo c.g f (by rw[c.e.e3,c.e.e4];exact v)⟩
def ND:OJ X (compareOp .Eq) PU.Ay:=⟨ve c.g.room⟩
def NE:OJ X (compareOp .NotEq) PU.Al:=⟨qE c.g.room⟩
end
def gV{env:Env}:∀{es:QW},es.all bG=I->(backTo pos (starEach es env)).any (·.1)=T
 |[],_=>rfl
 |e::es,h=>by
  have f:bG e=I/\es.all bG=I:=by simpa using h
  have:=gV (env:=env) f.2
  rw[aX f.1];simpa [backTo]using this
section
variable(c:Wc X P w K mg base N W k sc)
include c
def Gc{F:Fn}{z:QM}{hz}(E:Ag X (e::es) sa.m)(f:FnAt P w K mg base x z F.m i)(h:i<=k)(B:gm sc x)(C:(e::es).all bG=I):kr X (.Call (.Name x p) (e::es) [] pos) (ao F sa hz).m :=
 let⟨_,u⟩:=c.gj B
 have l:bG e=I/\es.all bG=I:=by simpa using C
 ⟨uG c.g u (f.c c.e h) E.h (aX l.1) (gV l.2)⟩
end
inductive BB(X:Cx)(x:Str)(o:A5):Prop
 |fn(id:String)(f:QL->MH->QX)(h:bootBuiltins x=J (.builtin id))(c:cK X (.builtin id) f)(e:o.k=λxs h=>(f xs h).ne:=by rfl):BB X x o
 |ty(T:String)(f:QL->MH->QX)(h:bootBuiltins x=J (.type T))(c:cK X (.type T) f)(e:o.k=λxs h=>(f xs h).ne:=by rfl):BB X x o
def J5:BB X "abs" PU.oB:=.fn _ _ sY rO
def J6:BB X "int" PU.mH:=.ty _ _ rG xj
def J7:BB X "len" PU.fZ:=.fn _ _ kN kU
def Ge:BB X "list" PU.gh:=.ty _ _ ib jA
def CF:BB X "tuple" PU.cW:=.ty _ _ j4 mZ
def yE:BB X "sorted" PU.fb:=.fn _ _ pK pS
section
variable(c:Wc X P w K mg base N W k sc)
include c
def J8{o:A5}(B:BB X x o)(C:Ag X (e::es) sa.m)(z:Zn K x)(F:gm sc x)(G:(e::es).all bG=I):kr X (.Call (.Name x p) (e::es) [] pos) (qr o sa).m:=by
 obtain⟨j,u⟩:=c.gj F;have l:bG e=I/\es.all bG=I:=by simpa using G
 refine⟨?_⟩;show ME X _ (λZ h=>(sa.m Z h).bind o.k)
 cases B with
 |fn id f h d q=>rw[q];exact rV c.g j u d (c.n z) h C.h (aX l.1) (gV l.2)
 |ty E f h d q=>rw[q];exact pZ c.g j u d (c.n z) h C.h (aX l.1) (gV l.2)
def J9:BB X "all" PU.oM:=.fn _ _ wU (xM c.g)
def NF(B:Ag X [a] sa.m)(z1:Zn K "list")(f:Zn K "range")(u:gm sc "list")(l:gm sc "range")(z:bG a=I):kr X (.Call (.Name "list" p) [.Call (.Name "range" p') [a] [] spos] [] pos) (qr PU.LA sa).m :=
 let⟨_,i⟩:=c.gj u;let⟨_,j⟩:=c.gj l
 ⟨Aa c.g i (c.n z1) j (c.n f) B.h (aX z)⟩
end
structure BT(x:Str)(T:String):Prop where
 h:bootBuiltins x=J (.type T)
 o:B3 T
def J_:BT "int" "int":=⟨rG,B4⟩
def Gf:BT "bool" "bool":=⟨Cv,zx⟩
def CG:BT "tuple" "tuple":=⟨j4,xP⟩
def Gg:BT "list" "list":=⟨ib,zc⟩
section
variable(c:Wc X P w K mg base N W k sc)
include c
def Ka{f:String}(B:BT x f)(E:kr X a xa.m)(z1:Zn K "isinstance")(l:Zn K x)(z:gm sc "isinstance")(u:gm sc x)(C:bG a=I):kr X (.Call (.Name "isinstance" p) [a,.Name x p'] [] pos) (vu (PU.bQ [f]) xa).m :=
 let⟨_,i⟩:=c.gj z;let⟨_,j⟩:=c.gj u
 ⟨Fv c.g i (c.n z1) j (c.n l) B.h B.o E.h (aX C)⟩
def Gh{f u:String}{kt}{q O pt:Pos}(B:BT x f)(z:BT y u)(L:kr X a xa.m)(z1:Zn K "isinstance")(E:Zn K x)(M:Zn K y)(G:gm sc "isinstance")(F:gm sc x)(C:gm sc y)(H:bG a=I):kr X (.Call (.Name "isinstance" p) [a,.Tuple [.Name x q,.Name y O] kt pt] [] pos) (vu (PU.bQ [f,u]) xa).m :=
 let⟨_,i⟩:=c.gj G;let⟨_,j⟩:=c.gj F;let⟨_,l⟩:=c.gj C
 ⟨B_ c.g i (c.n z1) j (c.n E) B.h B.o l (c.n M) z.h z.o L.h (aX H)⟩
end
abbrev MJ(X:Cx)(name:Str)(f:Nat->QL->MH->QX):Prop:=∃id,Slot "list" name id/\typeOf (.builtin id)=pure (.type "method_descriptor")/\ID X id (Ji X f)
section
variable{name:Str}{f:Nat->QL->MH->QX}{o:DO}{m:Mx PV}
def NG{l:Mx (QL)}(M:MJ X name f)(u:kr X a m)(B:Ag X (e::es) l)(h:(((backTo pos (starEach (e::es) X.env)).all (λx=>!x.1)&&(backToKw pos (keywordEach [] X.env)).all (λx=>x.1.isSome)&&decide ((e::es).length+([]:List Keyword).length+(if([]:List Keyword).isEmpty then 0 else 1)<30))=I/\(p.endLine==pos.line)=I)/\attributeBase a name X.env (eval a X.env)=eval a X.env/\starEach (e::es) X.env=(T,eval e X.env)::starEach es X.env/\(backTo pos (starEach es X.env)).any (·.1)=T):kr X (.Call (.Attribute a name p) (e::es) [] pos) (AW f m l) :=
 let⟨_,x,y,z⟩:=M
 ⟨qK x y z u.h B.h h.2.1 h.1.1 h.1.2 h.2.2.1 h.2.2.2⟩
def NH{hi hz}(h:kr X e (AW o.m (ac (ws:=ws) i).m sa.m))(l:swapsWith e none pos.line X.env=pure T):xl X (.Expr e pos) (DP o i sa hi hz).m:=⟨hZ h.h l⟩
end
def zg:MJ X "append" PU.x5.m:=⟨_,iM,iY,iR⟩
def yv:MJ X "insert" PU.x6.m:=⟨_,xA,xF,xR⟩
def NI(f:kr X a xa.m)(l:Ag X [b,d] sa.m)(h:(((backTo pos (starEach [b,d] X.env)).all (λx=>!x.1)&&(backToKw pos (keywordEach [] X.env)).all (λx=>x.1.isSome)&&decide ([b,d].length+([]:List Keyword).length+(if([]:List Keyword).isEmpty then 0 else 1)<30))=I/\(p.endLine==pos.line)=I)/\attributeBase a "get" X.env (eval a X.env)=eval a X.env/\starEach [b,d] X.env=(T,eval b X.env)::starEach [d] X.env/\(backTo pos (starEach [d] X.env)).any (·.1)=T):kr X (.Call (.Attribute a "get" p) [b,d] [] pos) (AS xa sa).m:=⟨Jq f.h l.h h.2.1 h.1.1 h.1.2 h.2.2.1 h.2.2.2⟩
def Gi{f:CmpOp}{o:w_}(l:OJ X (compareOp f) o)(B:kr X a xa.m)(z:kr X b xb.m)(u:behindInMarks f b=T):Bn X (.Compare a [f] [b] pos) (xB (ag o xa xb)).m:=⟨yj l.h B.h z.h u⟩
def Gj(h:Bn X a ta.m):Bn X (.UnaryOp .Not a pos) (du ta).m:=⟨kQ h.h⟩
def NJ{f:BoolOp}(h:LI X (.BoolOp f es pos) ta.m):Bn X (.BoolOp f es pos) ta.m:=⟨MW.mt h.h⟩
def Kb(h:Bn X a ta.m):LI X (.BoolOp .Or [a] pos) ta.m:=⟨qS h.h⟩
def w_or(h:Bn X a ta.m)(f:LI X (.BoolOp .Or (b::es) pos) tb.m):LI X (.BoolOp .Or (a::b::es) pos) (AR ta tb).m:=⟨qH h.h f.h⟩
def Kc(h:kr X e xa.m)(l:∀f,isTrue e X.env f=(do let v <-f;standAt e.pos;holding [v] (truthy v))):Bn X e (JI xa).m:=⟨FJ h.h l⟩
def Kd(h:kr X e xa.m)(l:∀f,isTrue e X.env f=(do let v <-f;standAt e.pos;holding [v] (truthy v))):Bn X e (xB xa).m:=⟨li h.h l⟩
def Ke:Nq X [] (pu (ws:=ws)).m:=⟨dZ⟩
def Kg(h:Bn X a ta.m):Nq X [a] ta.m:=⟨uM h.h⟩
def NK:LJ X [] (ts (ws:=ws)).m:=⟨f8⟩
def NL{f:Xg ws}{l:DN ws}(B:JN X e f.m)(u:LJ X es l.m)(z:(assignEach (e::es) X.env).map (·.2)=assign e X.env::(assignEach es X.env).map (·.2)):LJ X (e::es) (lR f l).m:=⟨bD B.h u.h z⟩
def Kh(h:kr X a xa.m):DX X tg a (bT xa).m:=⟨ii h.h⟩
section
variable(c:Wc X P w K mg base N W k sc)
include c
def NM{hi}(h:N[i]?=J x)(hw:W[i]?=J x):JN X (.Name x pos) (i0 (ws:=ws) i hi).m:=⟨ue c.g i h hw⟩
def NN{l:DN ws}{n:Nat}(h:LJ X es l.m)(u:(assignEach es X.env).length=n)(f:(assignEach es X.env).findIdx? (·.1)=none):JN X (.Tuple es j pos) (tx l n).m:=⟨iz c.g h.h u f⟩
def NO{n:Nat}(h:Ag X [a] sa.m)(z:Zn K "enumerate")(l:gm sc "enumerate")(u:bG a=I):DX X (.Tuple es n p) (.Call (.Name "enumerate" p') [a] [] pos) (cg PU.iE sa).m:=let⟨_,f⟩:=c.gj l;⟨ua c.g f (c.n z) h.h (aX u)⟩
def NQ{n:Nat}(h:Ag X [a,b] sa.m)(z:Zn K "zip")(u:gm sc "zip")(l:starEach [a,b] X.env=(T,eval a X.env)::starEach [b] X.env)(B:(backTo pos (starEach [b] X.env)).any (·.1)=T):DX X (.Tuple es n p) (.Call (.Name "zip" p') [a,b] [] pos) (cg PU.iZ sa).m:=let⟨_,f⟩:=c.gj u;⟨FH c.g f (c.n z) h.h l B⟩
def Ki(h:Ag X [a] sa.m)(z:Zn K "range")(f:gm sc "range")(l:bG a=I):DX X tg (.Call (.Name "range" p) [a] [] pos) (cg PU.Cp sa).m:=⟨pH (c.g.gl _ f) (c.n z) h.h (aX l)⟩
end
structure CB(Y:Cx)(tg elt:Expr)(ifs:QW)(gt:Mg)(mt:Mx Bool)(me:Mx PV):Prop where
 g:JN Y tg gt
 t:Nq Y ifs mt
 e:kr Y elt me
section
variable{iter elt:Expr}{ifs:QW}{scope:Scope}{nv:Nat}{fm ws':QP}{xi:Xi ws}{gt:Xg ws'}{xt:Xt ws'}{xe:Xe ws'}
abbrev PD(N:QM)(tg:Expr)(nv:Nat)(fm:QP)(scope sc:Scope):Prop:=HD scope sc (DY tg) (HH N fm)/\(DY tg++HH N fm).Nodup/\(∀x∈CC (F7 scope sc),scope.names.lookup x=J .globalImplicit)/\(∀x∈(DY tg++HH N fm)++CC (F7 scope sc),(x==("__debug__":Str))=T/\(x==("__classdict__":Str))=T/\x≠"__name__")/\fm.map (λi=>N[i]?)=(HH N fm).map J/\(DY tg).length=nv
section
variable(c:Wc X P w K mg base N W k sc)
include c
def Gk{hw:PU.AY nv fm ws=ws'}{z:xe.fz=I}(G:DX X tg iter xi.m)(L:∀Y:Cx,Wc Y P w K mg base (DY tg++HH N fm) (DY tg) k (F7 scope sc)->CB Y tg elt ifs gt.m xt.m xe.m)(F:scope.kind=.function)(h:PD N tg nv fm scope sc)(f:∀x,foldedSetIterable iter X.env x=pure x):kr X (.ListComp elt [⟨tg,iter,ifs,0⟩] scope pos) (bx nv fm xi gt xt xe hw z).m:=by
 obtain⟨E,nd,hg,dbg,O,rfl⟩:=h;exact⟨oP c.g (hW c.s F O E) nd hg dbg G.h (λY H C B M u l g=>let q:=L Y ⟨g,⟨H.trans c.e.e1,C.trans c.e.e2,B.trans c.e.e3,M.trans c.e.e4,u.trans c.e.e5,c.e.b⟩,l.trans (nP c.s)⟩;⟨q.g.h,q.t.h,q.e.h⟩) f⟩
end
section
variable(c:Wc X P w K mg base N W k sc)(hsw:∀env:Env,env.scope=sc->swapsWith (.ListComp elt [⟨tg,iter,ifs,0⟩] scope pos) (some (.Name y p)) spos.line env=pure true)(hi:DX X tg iter xi.m)(hY:∀Y:Cx,Wc Y P w K mg base (DY tg++HH N fm) (DY tg) k (F7 scope sc)->CB Y tg elt ifs gt.m xt.m xe.m)(hyi:N[i]?=some y)(hyw:W[i]?=some y)(h1:scope.kind=.function)(h:PD N tg nv fm scope sc)(hs:∀x,foldedSetIterable iter X.env x=pure x)
include hsw hi hY c hyi hyw h1 h hs
def uN:xl X (.Assign [.Name y p] (.ListComp elt [⟨tg,iter,ifs,0⟩] scope pos) spos) (aV i (bI nv fm xi.m gt.m xt.m xe.m)):=by obtain⟨u,nd,hg,dbg,F,rfl⟩:=h;exact⟨pA c.g i hyi hyw (hsw X.env c.s) (hW c.s h1 F u) nd hg dbg hi.h (λY f E C B l z g=>let q:=hY Y ⟨g,⟨f.trans c.e.e1,E.trans c.e.e2,C.trans c.e.e3,B.trans c.e.e4,l.trans c.e.e5,c.e.b⟩,z.trans (nP c.s)⟩;⟨q.g.h,q.t.h,q.e.h⟩) hs⟩
def Gm{hw:PU.AY nv fm ws=ws'}{f:xe.fz=I}{hi' hz'}:xl X (.Assign [.Name y p] (.ListComp elt [⟨tg,iter,ifs,0⟩] scope pos) spos) (bn i (bx nv fm xi gt xt xe hw f) hi' hz').m:=uN c hsw hi hY hyi hyw h1 h hs
def CH{hw:PU.AY nv fm ws=ws'}{f:xe.fz=I}{hi' hz'}:xl X (.Assign [.Name y p] (.ListComp elt [⟨tg,iter,ifs,0⟩] scope pos) spos) (gb i (bx nv fm xi gt xt xe hw f) hi' hz').m:=uN c hsw hi hY hyi hyw h1 h hs
end
end
def NR:n5 X [] (ln (ws:=ws)).m:=⟨eZ⟩
def gK(h:xl X st da.m):n5 X [st] da.m:=Ah h
def d8(f:xl X st da.m)(l:n5 X rest db.m):n5 X (st::rest) (aM da db).m:=vi f l
def Gn{hi hz}(u:kr X e xa.m)(f:kr X a (ac (ws:=ws) i).m)(l:kr X b xb.m)(z:swapsWith e (J (.Subscript a b p)) pos.line X.env=pure T):xl X (.Assign [.Subscript a b p] e pos) (lx i xb xa hi hz).m:=⟨Ch f.h l.h u.h z⟩
def Kj(h:kr X e xa.m):xl X (.Return (J e) pos) (aZ xa).m:=A1 h
def Go{hi}(h:kr X e (ac (ws:=ws) i).m):xl X (.Return (J e) pos) (lV (ws:=ws) i hi).m:=A1 h
def Gp(h:kr X e xa.m)(f:swapsWith e none pos.line X.env=pure T):xl X (.Expr e pos) (qQ xa).m:=⟨hZ h.h f⟩
def NS(l:Bn X e ta.m)(u:n5 X body da.m)(f:n5 X rest db.m):xl X (.If e body rest pos) (xg ta da db).m:=⟨hR l.h u.h f.h⟩
def Kk:xl X st (sF (ws:=ws)).m:=⟨F6⟩
def w_sub{hi hz}(C:kr X e xa.m)(l:kr X a (ac (ws:=ws) i).m)(B:kr X b xb.m)(E:∀v,assign (.Subscript a b p) X.env v=(do
   let ov <-holding [v] (eval a X.env)
   let f <-holding [v,ov] (eval b X.env)
   standAt p
   holding [v,ov,f] (setItem ov f v)
   release [v,ov,f] []))(u:swapsWithSole [.Subscript a b p] e pos.line X.env=pure T)(hw:swappedStores [.Subscript a b p] e X.env=pure none)(z:(assignEach [.Subscript a b p] X.env).map (·.2)=[assign (.Subscript a b p) X.env]):xl X (.Assign [.Subscript a b p] e pos) (pD i xa xb hi hz).m:=⟨nR C.h (nT l.h B.h E) u hw z⟩
section
variable(c:Wc X P w K mg base N W k sc)
include c
def Kl{l:Xi ws}{f:Xg ws}{hz}(z:DX X tg e l.m)(hg:JN X tg f.m)(B:n5 X body da.m)(u:∀x,foldedSetIterable e X.env x=pure x):xl X (.For tg e body [] pos) (dG l f da hz).m:=⟨js c.g z.h hg.h B.h u⟩
def NT{n hm}(l:Bn X e ta.m)(f:n5 X body da.m):xl X (.While e body [] pos) (Jv n ta da hm).m:=⟨zH c.g l.h f.h⟩
def Gq{hi' hz}(f:∀env:Env,env.scope=sc->swapsWith e (J (.Name x p)) pos.line env=pure T)(u:kr X e xa.m)(l:N[i]?=J x)(hw:W[i]?=J x):xl X (.Assign [.Name x p] e pos) (bn i xa hi' hz).m:=⟨rD c.g i l hw u.h (f _ c.s)⟩
def CJ{hi' hz}(f:∀env:Env,env.scope=sc->swapsWith e (J (.Name x p)) pos.line env=pure T)(u:kr X e xa.m)(l:N[i]?=J x)(hw:W[i]?=J x):xl X (.Assign [.Name x p] e pos) (gb i xa hi' hz).m:=⟨rD c.g i l hw u.h (f _ c.s)⟩
def Km{x y:Str}{u py pt f:Pos}{kt k2}{hi' hj' hz}(hw:∀env:Env,env.scope=sc->swappedStores [.Tuple [.Name x u,.Name y py] kt pt] (.Tuple [a,b] k2 f) env=pure (J [x,y]))(G:Ag X [a,b] sa.m)(B:N[i]?=J x)(z:N[j]?=J y)(l:i≠j)(C:sc.names.lookup x=J .local)(F:sc.names.lookup y=J .local)(E:swapsWithSole [.Tuple [.Name x u,.Name y py] kt pt] (.Tuple [a,b] k2 f) pos.line X.env=pure T):xl X (.Assign [.Tuple [.Name x u,.Name y py] kt pt] (.Tuple [a,b] k2 f) pos) (ss i j sa hi' hj' hz).m:=⟨Fk c.g i j B z l G.h (by rw[c.s];exact C) (by rw[c.s];exact F) (hw _ c.s) E⟩
end
def NU{np:Nat}{F:QL->MH->QX}(N:QM)(b:Ba P w K mg base)(D:eT K x st)(f:fQ x st (N.take np):=by first | exact λ_ _ _ _ _ _=>JL λ_=>rfl | exact λ_ _ _ _ _ _=>LF λ_ _=>rfl | exact λ_ _ _ _ _ _=>LG λ_ _ _=>rfl | exact λ_ _ _ _ _ _=>LH λ_ _ _ _=>rfl | exact λ_ _ _ _ _ _=>ar5 λ_ _ _ _ _=>rfl)(S:o_ N (N.take np) (aj st):=by exact⟨rfl,rfl,rfl,by decide +kernel,rfl,by decide +kernel,by decide +kernel⟩)(hl:∀y∈N,(aj st).names.lookup y=J .local\/(aj st).names.lookup y=J .cell:=by decide +kernel)(dbg:∀x∈N++[],(x==("__debug__":Str))=T/\(x==("__classdict__":Str))=T/\x≠"__name__":=by decide +kernel)(l:F=cr N.length (N.take np).length λ_ _=>.bad:=by rfl):FnAt P w K mg base x (N.take np) F (k+1):=by
 subst l;exact nK (G:=[]) b.kin b.ns D S f hl (λ_ h=>nomatch h) dbg λX e1 e2 e3 e4 e5 z g u=>Cd
def x3{F:Fn}{f:Nat}{ws:QP}{B:Xd ws}{hw}(N:QM)(b:Ba P w K mg base)(D:eT K x st)(G:∀X:Cx,Wc X P w K mg base N N k (aj st)->h_ X->n5 X (aG st) B.m)(H:F=bM N.length f B hw:=by rfl)(z:fQ x st (N.take f):=by first | exact λ_ _ _ _ _ _=>JL λ_=>rfl | exact λ_ _ _ _ _ _=>LF λ_ _=>rfl | exact λ_ _ _ _ _ _=>LG λ_ _ _=>rfl | exact λ_ _ _ _ _ _=>LH λ_ _ _ _=>rfl | exact λ_ _ _ _ _ _=>ar5 λ_ _ _ _ _=>rfl)(S:o_ N (N.take f) (aj st):=by exact⟨rfl,rfl,rfl,by decide +kernel,rfl,by decide +kernel,by decide +kernel⟩)(hl:∀y∈N,(aj st).names.lookup y=J .local\/(aj st).names.lookup y=J .cell:=by decide +kernel)(l:∀y∈CC (aj st),(aj st).names.lookup y=J .globalImplicit:=by decide +kernel)(dbg:∀x∈N++CC (aj st),(x==("__debug__":Str))=T/\(x==("__classdict__":Str))=T/\x≠"__name__":=by decide +kernel)(C:(N.take f).length=f:=by rfl):
  FnAt P w K mg base x (N.take f) F.m (k+1):=by
 have q:=nK b.kin b.ns D S z hl l dbg λX e1 e2 e3 e4 e5 E g u=>(G X ⟨g,⟨e1,e2,e3,e4,e5,b⟩,E⟩ u).h;rw[C]at q;subst H;exact q
end
end MM
namespace MM
open PySem.Spec PyProof.Rows L2
end MM
namespace PU
open MM
end PU
namespace TupM
open PySem.Builtin
section
open PyProof.Rows
variable{prog:Program}{w:World}{A:Around}{E:QZ}{s:Shared}
end
end TupM
namespace MM
open PySem.Spec PyProof.Rows L2
end MM
namespace PU
open MM
noncomputable section
end
end PU
namespace PU
open MM
open L2 (vf pz fW)
noncomputable section
abbrev Rd:=Option (QN)×QQ
def cR(rd:List Rd):D:=.lst (rd.map λr=>dl r.1 r.2)
structure Gr(h:MH)(L a:Nat)(ms:QP)(rd:List Rd):Prop where
 top:h[a]?=J (.lst (ms.map .loc))
 len:ms.length=rd.length
 nd:(a::ms).Nodup
 ge:∀m∈a::ms,L<=m
 row:∀(i:Nat)(r:Rd),rd[i]?=J r->c_ r.2=I/\∃m xs,ms[i]?=J m/\h[m]?=J (mo r.1 xs)/\Rps 0 [] [] r.2 xs
def sX{q:Nat}{h:MH}{O:QP}:∀{f:QQ}{a:QL},a.length=f.length->(∀(i:Nat) d v,f[i]?=J d->a[i]?=J v->Rp q h O d v)->Rps q h O f a
 |[],[],_,_=>rfl
 |d::f,v::a,hl,r=>⟨v,a,rfl,r 0 d v rfl rfl,sX (by simpa using hl) λi d v e1 e2=>r (i+1) d v (by simpa using e1) (by simpa using e2)⟩
def Rp.dl{q:Nat}{h:MH}{O:QP}{k:Option (QN)}{f:QQ}{xs:QL}{m:Nat}(a:m∉O)(e:h[m]?=J (mo k xs))(r:Rps q h O f xs):Rp q h O (dl k f) (.loc m):=by
 cases k with
 |none=>exact⟨m,xs,rfl,a,e,r⟩
 |some i=>exact⟨m,xs,rfl,a,e,r⟩
mutual
def Rp.fq{p i:Nat}{h l:MH}{O a:QP}:∀{d:D}{v:PV},PU.flat d=I->Rp p h O d v->Rp i l a d v
 |.non,_,_,r=>r
 |.bl _,_,_,r=>r
 |.int _,_,_,r=>r
 |.str _,_,_,r=>r
 |.tup j,_,f,⟨xs,e,r⟩=>⟨xs,e,Rps.fq (by simpa [PU.flat]using f) r⟩
 |.lst j,_,f,_=>by simp[PU.flat]at f
 |.dic _ _ _,_,f,_=>by simp[PU.flat]at f
 |.exc _,_,f,_=>by simp[PU.flat]at f
 |.pen,_,f,_=>by simp[PU.flat]at f
def Rps.fq{p y:Nat}{h u:MH}{O l:QP}:∀{i:QQ}{j:QL},PU.c_ i=I->Rps p h O i j->Rps y u l i j
 |[],_,_,r=>r
 |_::_,_,f,⟨x,t,e,a,b⟩=>⟨x,t,e,Rp.fq (by simp[PU.c_]at f;exact f.1) a,Rps.fq (by simp[PU.c_]at f;exact f.2) b⟩
end
section
variable{h h':MH}{L a:Nat}{ms:QP}{rd:List Rd}{O:QP}{q:Nat}
def Gr.lt(g:Gr h L a ms rd):∀m∈a::ms,m<h.length:=λm f=>by
 rcases p_.mp f with rfl|f
 .exact au g.top
 .obtain⟨i,j,rfl⟩:=HR f;have hl:=g.len;obtain⟨_,m,xs,e1,e2,_⟩:=g.row i (rd[i]'⋯) (vE ⋯);rw[vE j]at e1;cases e1;exact au e2
def Gr.rp(g:Gr h L a ms rd)(f:∀m∈a::ms,m∉O):Rp q h O (cR rd) (.loc a):=by refine⟨a,ms.map .loc,rfl,f a (by simp),g.top,sX (by simp[g.len]) λi d v e1 e2=>?_⟩;rw[u_,As]at e1 e2;obtain⟨r,l,rfl⟩:=e1;obtain⟨m,em,rfl⟩:=e2;obtain⟨u,y,xs,e3,e4,j⟩:=g.row i r l;rw[em]at e3;cases e3;exact Rp.dl (f m (p5 _ (Ab em))) e4 (Rps.fq u j)
def Gr.keep(g:Gr h L a ms rd)(k:∀m∈a::ms,h'[m]?=h[m]?):Gr h' L a ms rd :=
 ⟨(k a (by simp)).trans g.top,g.len,g.nd,g.ge,λi r e=>let⟨f,m,xs,e1,e2,e3⟩:=g.row i r e;⟨f,m,xs,e1,(k m (p5 _ (Ab e1))).trans e2,e3⟩⟩
def Gr.put(g:Gr h L a ms rd){i m:Nat}{r':Rd}{l:QL}(u:ms[i]?=J m)(H:c_ r'.2=I)(e:h'[m]?=J (mo r'.1 l))(G:Rps 0 [] [] r'.2 l)(k:∀n∈a::ms,n≠m->h'[n]?=h[n]?):Gr h' L a ms (rd.set i r'):=by
 have F:=Ab u;have nd:=g.nd;rw[vL]at nd;have ne:a≠m:=λz=>nd.1 (z▸F);refine⟨(k a (by simp) ne).trans g.top,by simp[g.len],g.nd,g.ge,λj r B=>?_⟩;have E:i<rd.length:=by have:=(qi.mp u).1;rw[g.len]at this;exact this
 by_cases z:i=j
 .subst z;rw[zO E]at B;cases B;exact⟨H,m,l,u,e,G⟩
 .rw[p6 z]at B;obtain⟨f,C,xs,e1,e2,e3⟩:=g.row j r B
  have:C≠m:=λy=>z ((Hg (qi.mp u).1 nd.2).mp (by rw[u,e1,y]))
  exact⟨f,C,xs,e1,(k C (p5 _ (Ab e1)) this).trans e2,e3⟩
end
def Kp(i:Nat)(o:SOut)(Z:n8):Prop:=match o with
 |.nx a _=>a[i]?=Z[i]?
 |.bk a _=>a[i]?=Z[i]?
 |.ct a _=>a[i]?=Z[i]?
 |_=>True
def ut{n:Nat}{a:QQ}{i:Nat}{d:D}(e:(m_ n a)[i]?=J (J d)):a[i]?=J d:=by
 unfold m_ at e;by_cases z:i<a.length
 .rw[q7 (by simpa using z)]at e
  simp_all
 .rw[AA (by simp;lia),Ep]at e
  split at e<;>cases e
def kF:∀{a:QQ}{d:D},c_ a=I->d∈a->flat d=I
 |x::a,d,f,h=>by
  simp[c_]at f;rcases p_.mp h with rfl|h
  .exact f.1
  .exact kF f.2 h
def zY{q:Nat}{h:MH}{O:QP}{s W:d_}{B:Xd [0]}{n np m:Nat}{k k':Option (QN)}{F ds' as:QQ}{E xs:QL}{f:aw}(bd:∀o∈O,o<m)(hq:q∈O)(pn:aW h q s)(g:h[m]?=J (mo k xs))(fl:c_ F=I)(r:Rps 0 [] [] F xs)(fa:c_ as=I)(R:Rps 0 [] [] as E)(ab:as.length+1=np)(hn:np<=n)(kp:∀Z h,Kp 0 (B.m Z h) Z)(e:B.p (m_ n (dl k F::as)) s=.nx f W)(e0:f[0]?=J (J (dl k' ds'))):
  ∃l,cr n np B.m (.loc m::E) h=.ok .non l/\h.length<=l.length/\(∀j,j<h.length->j≠m->j≠q->l[j]?=h[j]?)/\aW l q W/\∃H a,l[m]?=J (mo k' a)/\Rps q l H ds' a:=by
 have hm:=au g;have vl:E.length=as.length:=R.length;have c:Cx q h m O (m::O) [0] (bh n (.loc m::E)) (m_ n (dl k F::as)) s:=by
  refine⟨λo y=>?_,λo y=>p5 _ y,bd,hq,⋯,pn,?_,λi d u C=>?_,λi d u C=>?_⟩
  .rcases p_.mp y with rfl|y
   .exact hm
   .have:=bd o y;lia
  .simp[bh,m_,vl]
  .have u:=ut u
   cases i with
   |zero=>simp at C
   |succ i =>
    obtain⟨v,ev,rv⟩:=R.get u;have fd:flat d=I:=by exact kF fa (Ab u)
    exact⟨v,by obtain⟨l1,l2⟩:=qi.mp ev;simp[bh,List.getElem?_append,l1,l2],Rp.fq fd rv⟩
  .have:i=0:=by simpa using C
   subst this;have u:=ut u;cases u;exact⟨m,k,xs,F,rfl,rfl,by simp,mu _,g,Rps.fq fl r⟩
 have X:=B.ok c λi j C M ne=>absurd (by simp at C M;lia) ne;rw[e]at X;obtain⟨Z',l,Q,H,st,P,_⟩:=X;have G:=kp (bh n (.loc m::E)) h;rw[Q]at G;have G:Z'[0]?=J (J (.loc m)):=G;obtain⟨n',U,a,L,e2,S,_,_,g',r'⟩:=P.sr.ow 0 _ e0 (by simp);rw[G]at S;cases S
 have:k'=U/\ds'=L:=by cases k'<;>cases U<;>cases e2<;>exact⟨rfl,rfl⟩
 obtain⟨rfl,rfl⟩:=this;refine⟨l,?_,st.len,λj M n1 n2=>?_,P.pen,H,a,g',r'⟩
 .rw[d3 (by simp[vl];lia),Q];rfl
 .by_cases z:j∈m::O
  .rcases p_.mp z with rfl|z
   .exact absurd rfl n1
   .exact st.base j (bd j z) n2
  .exact st.mv.keep j M z
end
end PU
namespace MM
open PySem.Spec PyProof.Rows L2
def NV{P:Program}{w:World}{K:hH}{mg:QA}{base:Heap}{x:Str}{st:Stmt}{k:Nat}{np:Nat}{f:QP}{B:PU.Xd f}(N:QM)(b:Ba P w K mg base)(D:eT K x st)(z:∀X:Cx,Wc X P w K mg base N N k (aj st)->h_ X->n5 X (aG st) B.m)(j:fQ x st (N.take np):=by first | exact λ_ _ _ _ _ _=>JL λ_=>rfl | exact λ_ _ _ _ _ _=>LF λ_ _=>rfl | exact λ_ _ _ _ _ _=>LG λ_ _ _=>rfl | exact λ_ _ _ _ _ _=>LH λ_ _ _ _=>rfl | exact λ_ _ _ _ _ _=>ar5 λ_ _ _ _ _=>rfl)(S:o_ N (N.take np) (aj st):=by exact⟨rfl,rfl,rfl,by decide +kernel,rfl,by decide +kernel,by decide +kernel⟩)(hl:∀y∈N,(aj st).names.lookup y=J .local\/(aj st).names.lookup y=J .cell:=by decide +kernel)(a:∀y∈CC (aj st),(aj st).names.lookup y=J .globalImplicit:=by decide +kernel)(dbg:∀x∈N++CC (aj st),(x==("__debug__":Str))=T/\(x==("__classdict__":Str))=T/\x≠"__name__":=by decide +kernel)(l:(N.take np).length=np:=by rfl):
  FnAt P w K mg base x (N.take np) (cr N.length np B.m) (k+1):=by
 have q:=nK b.kin b.ns D S j hl a dbg λX e1 e2 e3 e4 e5 u g i=>(z X ⟨g,⟨e1,e2,e3,e4,e5,b⟩,u⟩ i).h;rw[l]at q;exact q
abbrev pr(C t:Addr):Obj:={ cls:=.ref C,data:=.fields #[.ref t,.none,.none,.none,.bool T,.none]}
section
variable{prog:Program}{w:World}{A:Around}{E:QZ}{h:Heap}{gs:Array GenState}{dr:Drawn}{tk:Nat}{os:OsState}{nm qn:Str}{C N:Addr}{bs bm bmB:QS}{hd:Bool}{sn:QM}{sub:QS}{ab:Bool}{col:Option Bool}{dd:QD}{k0 k1 k2 k3 k5:QU}{B nid iid:String}{mN:QA}{rest:QS}{fI:Addr}{oI:Obj}
def CK{Q:PySem.Fin->Shared->Prop}(F:ExcBaseFacts B nid iid bmB)(a:OwnTail h bmB bm)(f:h.get? C=J (excClassObj nm qn C N bs bm hd sn sub ab col dd k0 k1 k2 k3 k5 nid))(y:h.Ns N mN)(O:mN "__init__"=J (.ref fI))(hf:h.get? fI=J oI)(i:oI.cls=.type "function")(hl:rest.length<=sizeLine)(run:∀u e,Heap.MadeExcOf h u e (.ref C) rest->wpAny (model prog w) A (call (.ref fI) (.ref e::rest)) (λr l=>r=.none/\Q (.done (.ret (.ref e))) l) E ⟨u,gs,dr,tk,os⟩):
  wpAny (model prog w) A (Builtin.«type.__call__» ⟨.ref C::rest,[]⟩) Q E ⟨h,gs,dr,tk,os⟩:=by
 repeat (first | with_reducible refine wpAny_loadPart_at f ?_ | with_reducible refine wpAny_madeBy_exc f ?_ | wp_step)
 refine codeAny_call_builtin_code (Code.quiet_builtin _ F.quiet) (wpAny_check_new_subT F a f (codeAny_exc_new_subT F a f ?_ hl));have kp:∀b o,h.get? b=J o->((h.push { cls:=.type "tuple",data:=.seq rest.toArray}).push (pr C h.objs.size)).get? b=J o:=λb o e=>n3 _ (n3 _ e);have j:=kp _ _ f;have G:=kp _ _ hf;have H:=y.keeps kp;have L:=a.keeps kp;have e1:((h.push { cls:=.type "tuple",data:=.seq rest.toArray}).push (pr C h.objs.size)).get? (h.objs.size+1)=J (pr C h.objs.size):=by heap_get
 have M:(Value.ref C::bm).contains (.ref C)=I:=by simp
 show wpAny _ _ _ _ _ _;unfold isInstance
 repeat (first | with_reducible refine wpAny_loadPart_at e1 ?_ | (with_reducible refine wpAny_isSubtype_exc j ?_;rw[M]) | wp_step)
 refine(show wpAny _ _ (typeLookup (.ref C) _) _ _ _ from wpAny_typeLookup_tail j H L F.mroIs F.init.lookup ?_);rw[O];refine wpAny_holding (g_ ?_);unfold bindSpecial;refine g_ (wpAny_typeOf (T:="function") ⟨_,G,i⟩ ?_);rw[e_ (by decide)];refine oh (g_ (wpAny_mono (run _ (h.objs.size+1) ⟨kp,KS (Ey _),h.objs.size,e1,KS (mu _),n3 _ (Heap.get?_push_at rfl rfl)⟩) (λr l ⟨P,q⟩=>?_) λ_ _ z=>z));subst P
 wp_walk
 exact q
def xm{Q:QZ}(F:ExcBaseFacts B nid iid bmB)(f:OwnTail h bmB bm)(a:h.get? C=J (excClassObj nm qn C N bs bm hd sn sub ab col dd k0 k1 k2 k3 k5 nid))(u:h.Ns N mN)(y:mN "__init__"=J (.ref fI))(hf:h.get? fI=J oI)(i:oI.cls=.type "function")(hl:rest.length<=sizeLine)(run:∀j e,Heap.MadeExcOf h j e (.ref C) rest->wpAny (model prog w) (A.under (.builtin "type.__call__" ⟨.ref C::rest,[]⟩)) (call (.ref fI) (.ref e::rest)) (λr l=>r=.none/\Q (.ref e) l) E ⟨j,gs,dr,tk,os⟩):
  wpAny (model prog w) A (call (.ref C) rest) Q E ⟨h,gs,dr,tk,os⟩:=by
 have z:=tc_lookup;have G:=tc_bind (.ref C);have ty:(⟨h,gs,dr,tk,os⟩:Shared).TypeIs (.ref C) "type":=⟨_,a,rfl⟩;refine wpAny_call (codeAny_of_tree (show wpAny _ _ (callAny (.ref C) _) _ _ _ from ?_))
 repeat (any_goals (first | assumption | with_reducible refine wpAny_loadPart_at a ?_ | wp_step))
 exact⟨rfl,codeAny_call_builtin_at (Code.quiet_builtin _ (by decide +kernel)) entry_typeCall (wpAny_check_type_call_sub a (CK F f a u y hf i hl run))⟩
end
@[inline]abbrev Qc(C F:Addr):QS:=.ref C::.ref F::[.type "ValueError",.type "Exception",.type "BaseException",.type "object"]
section
open Builtin.ObjectAttr
variable{prog:Program}{w:World}{A:Around}{E:QZ}{s:Shared}{K:hH}{x C F:Addr}{o:Obj}{name:Str}{v:Value}{cd:ClassData}
def CL{Q:Unit->Shared->Prop}(X:K.In s.heap)(H:s.heap.get? x=J o)(hc:o.cls=.ref C)(z:o.dict=Y){vs:Array Value}(l:o.data=.fields vs)(hs:PySem.W.findIn K (.ref C) "__setattr__"=J (J (.builtin "object.__setattr__")))(L:PySem.W.clsIn K C=J cd)(i:cd.mro=Qc C F)(hd:cd.hasDict=I)(ht:PySem.W.takerIn K C name=J Y)(q:∀u ab S,(∀b O,b≠x->s.heap.get? b=J O->u.get? b=J O)->u.get? x=J { o with dict:=J S}->s.heap.get? S=Y->u.Ns1 S (λy=>if y=name then J v else Y)->Q () { s with heap:=u,toks:=ab}):
  wpAny (model prog w) A (setAttr (.ref x) name v) Q E s:=by
 have f:PySem.W.InstAt s.heap x o C Y:=⟨H,hc,by unfold PySem.W.notCls;rw[l],by rw[z];trivial⟩;refine PySem.W.set_plain X f hs ?_;have B:=PySem.F.store_object;have R:PySem.W.Looks (model prog w) s.heap (mroOf (.ref C)) cd.mro:=(PySem.W.looks_clsIn X L).andThen .now;have sub:PySem.W.Looks (model prog w) s.heap (isInstance (.ref x) (.type "object")) I:=f.type.andThen (PySem.W.looks_mroIn X (by unfold PySem.W.mroIn;rw[L,Hh,i];rfl));refine codeAny_call_builtin B.slot.plain B.entry (@PySem.W.check_slot (model prog w) _ _ { s with toks:=s.toks+1} "object.__setattr__" "object" "__setattr__" (.ref x) [.str name s.toks,v] [] _ B.kind B.split sub (B.args (.ref x) (.str name s.toks) v) ?_);obtain⟨j,ha,hr⟩:=HL.mp ht;have L3:PySem.W.Looks (model prog w) s.heap (storeTaker? j) Y:=by
  cases j with
  |none=>exact .now
  |some a =>
   obtain⟨b,hb,e⟩:=As.mp hr;refine(PySem.W.looks_takesIn X hb).andThen ?_;cases b
   .exact .now
   .cases e
 rw[PySem.W.osa_eq,refuse_eq];refine g_ (g_ (PySem.W.Looks.here (s:={ s with toks:=s.toks+1}) f.type (g_ (PySem.W.Looks.here (s:={ s with toks:=s.toks+1}) R ?_))));rw[i,refuseLoop_ref,refuseLoop_ref,PySem.F.store_ValueError.passes];refine oh (g_ (PySem.W.Looks.here (s:={ s with toks:=s.toks+1}) f.type (g_ (PySem.W.Looks.here (s:={ s with toks:=s.toks+1}) (PySem.W.looks_findIn X ha) (g_ (PySem.W.Looks.here (s:={ s with toks:=s.toks+1}) L3 ?_))))));have Z:({ s with toks:=s.toks+1}:Shared).heap.get? x=J o:=H;refine g_ (oh (g_ (g_ (wpAny_loadPart Z ?_))));rw[hc];refine g_ (PySem.W.Looks.here (s:={ s with toks:=s.toks+1}) (PySem.W.looks_clsIn X L) ?_);rw[hd,hI (by decide)];dsimp only;rw[z];dsimp only;rw[hI (by simp[typeHasDict]),l];dsimp only;have xs:x≠s.heap.objs.size:=vR (pj H);have x1:(s.heap.push { cls:=.type "dict",data:=.dict #[]}).get? x=J o:=n3 _ H;refine g_ (wpAny_alloc' (g_ (wpAny_update' x1 (oh ?_))));have gd:((s.heap.push { cls:=.type "dict",data:=.dict #[]}).update x λo=>{ o with dict:=J s.heap.objs.size}).get? s.heap.objs.size=J { cls:=.type "dict",data:=.dict #[]} :=
  (HQ _ _ _ _ xs.symm).trans (Heap.get?_push_at rfl rfl)
 have nd:((s.heap.push { cls:=.type "dict",data:=.dict #[]}).update x λo=>{ o with dict:=J s.heap.objs.size}).Ns s.heap.objs.size (λ_=>Y):=⟨_,#[],_,gd,rfl,λe he=>absurd he (by simp),λ_=>rfl⟩;refine(show wpAny _ _ (storeInDict s.heap.objs.size (.str name s.toks) name v) _ _ _ from g_ (oh (g_ (wpAny_nsSet1 (Heap.Ns1.of_empty nd) λu n' G=>?_))));obtain⟨oD,es,ep,W,M,U⟩:=n'.count (Within.cons name v Within.nil);refine g_ (wpAny_lookBehind W (by rw[M];exact pastItsLine_dict (qs U (by rw[Aw,List.length_nil,sizeLine_eq];lia))) (oh ?_));refine q u _ s.heap.objs.size (λb O nb e=>(G.2 b (vR (pj e))).trans ((HQ _ _ _ _ nb).trans (n3 _ e))) ((G.2 x xs).trans (KR _ x1 ?_)) (KS (mu _)) n';obtain⟨oc,od,P,ai⟩:=o;cases P<;>first | rfl | cases l
end
section
variable{prog:Program}{w:World}{A:Around}{E:QZ}{h:Heap}{gs:Array GenState}{dr:Drawn}{tk:Nat}{os:OsState}{nm qn:Str}{C N e t0:Addr}{bs bm bmB:QS}{hd:Bool}{sn:QM}{sub:QS}{ab:Bool}{col:Option Bool}{dd:QD}{k0 k1 k2 k3 k5:QU}{B nid iid:String}{rest:QS}
def zv{Q:QZ}(F:ExcBaseFacts B nid iid bmB)(a:OwnTail h bmB bm)(u:h.get? C=J (excClassObj nm qn C N bs bm hd sn sub ab col dd k0 k1 k2 k3 k5 nid))(j:h.get? e=J (pr C t0))(hl:rest.length<=sizeLine)(q:∀f t,(∀b i,b≠e->h.get? b=J i->f.get? b=J i)->f.get? e=J (pr C t)->Q .none ⟨f,gs,dr,tk,os⟩):
  wpAny (model prog w) A (call (.builtin iid) (.ref e::rest)) Q E ⟨h,gs,dr,tk,os⟩:=by
 refine wpAny_call (codeAny_call_builtin F.init.plain F.initEntry (wpAny_check_init_subT F a u j rfl ?_))
 wp_walk
 refine q _ h.objs.size (λb i l e=>?_) ?_
 .rw[LR _ _ (Ne.symm l)];exact n3 _ e
 .rw[KR _ (n3 _ j) rfl];rfl
end
structure Aq(K:hH)(mg:QA)(x:Str)(C F fI:Addr)(fld:Str):Prop where
 bd:mg x=J (.ref C)
 lk:∃(nm qn:Str) (N:Addr) (bs:QS) (sn:QM) (sub:QS) (ab:Bool) (col:Option Bool) (dd:QD) (k0 k1 k2 k3 k5:QU),K.lookup C=J (excClassObj nm qn C N bs (.ref F::ig) I sn sub ab col dd k0 k1 k2 k3 k5 "ValueError.__new__")/\PySem.W.nsOkIn K N=I/\PySem.W.nsIn K N "__init__"=J (J (.ref fI))
 tl:PySem.W.tailIn K ig (.ref F::ig)=I
 sa:PySem.W.findIn K (.ref C) "__setattr__"=J (J (.builtin "object.__setattr__"))
 tk:PySem.W.takerIn K C fld=J Y
structure Gs(K:hH)(mg:QA)(x:Str)(F:Addr):Prop where
 bd:mg x=J (.ref F)
 hg:PySem.W.specialIn K (.ref F) "__getattribute__"=J (J (.builtin "type.__getattribute__"))
 hr:PySem.W.readsIn K F (.type "type")=I
 fc:PySem.W.findCls K (.ref F) (.type "type") "__init__"=J (.val (.builtin "ValueError.__init__"))
def eP(e C:Addr)(h:Heap):Prop:=∃t,h.get? e=J (pr C t)
def uC{P:Program}{w:World}{H:Hp}{h:Heap}{e C:Addr}(x:eP e C h):ObjOk P w H h e (.ext (eP e C)):=by obtain⟨t,a⟩:=x;exact⟨⟨t,a⟩,⟨_,a⟩,λi f ⟨t,z⟩ k=>⟨t,k _ z⟩⟩
abbrev CM(C t:Addr)(dx:QD):Obj:={ cls:=.ref C,dict:=dx,data:=.fields #[.ref t,.none,.none,.none,.bool T,.none]}
def jS(e C:Addr)(h:Heap):Prop:=∃t a,h.get? e=J (CM C t a)
def CN{P:Program}{w:World}{H:Hp}{h:Heap}{e C t:Addr}{a:QD}(f:h.get? e=J (CM C t a)):ObjOk P w H h e (.ext (jS e C)) :=
 ⟨⟨t,a,f⟩,⟨_,f⟩,λj i ⟨t,a,z⟩ k=>⟨t,a,k _ z⟩⟩
section
variable{X:Cx}{x fx fld:Str}{C F fI:Addr}{a b:Expr}{t:QW->TE}{p apos cpos:Pos}
def yI{ta:TA}{pl:Sem Bool}(B:Gl X fx)(u:Gs X.K X.mg fx F)(M:Aq X.K X.mg x C F fI fld)(ha:PA X [a,b] ta)(dbg:(fx==("__debug__":Str))=T)(he:eval (.Call (.Attribute (.Name fx p) "__init__" apos) [a,b] [] cpos) X.env=(do
   let ov <-eval (.Name fx p) X.env
   standAt apos.atName
   let(f,fs1) <-holding [ov] (getMethod ov "__init__" pl)
   callWith cpos f fs1 (backTo cpos (starEach [a,b] X.env)) (backToKw cpos (keywordEach [] X.env))))(hs:starEach [a,b] X.env=(T,eval a X.env)::starEach [b] X.env)(E:(backTo cpos (starEach [b] X.env)).any (·.1)=T):
  PE X (.Call (.Attribute (.Name fx p) "__init__" apos) [a,b] [] cpos) (λZ H Q=>ta Z H λU W=>∃e z,U=[.ref e,.str z]/\W e=J (.ext (eP e C))/\Q .non W):=by
 intro JB s Z H Q i h;refine PySem.W.methodCall_KW (pl:=pl) (lP i B u.bd (PySem.W.method_cls i.kIn u.hg (PySem.W.cls_value i.kIn u.hr u.fc rfl ?_)) dbg) he;have R:=ha cpos JB _ Z H _ (i.tok (s.toks+1)) h;rw[hs]at R ⊢;refine Calls.callWith_builtin (by show(T||(backTo cpos (starEach [b] X.env)).any (·.1))=T;rw[E];rfl) (Calls.evalArgs_plain ?_);refine j_ R λus O ⟨U,l,j,r2,e,z,ev,G,q2⟩=>?_;subst ev;obtain⟨u1,u2,rfl,e1,_⟩:=r2.two;obtain rfl:u1=Value.ref e:=e1;obtain⟨⟨t0,L⟩,_,_⟩:=(show ObjOk X.prog X.w l O.heap e (.ext (eP e C))from j.hok e _ G);obtain⟨nm,qn,N,bs,sn,sub,ab,ai,dd,k0,k1,k2,k3,k5,lC,_,_⟩:=M.lk;obtain⟨hp,gs,dr,tk,os⟩:=O;refine zv PySem.F.excBase_ValueError (PySem.W.tail_of_in j.kIn M.tl) (j.kIn _ _ lC) L (by rw[sizeLine_eq];show 1<=_;decide) λh' t kp e'=>?_;have P:=j.write (t':=tk) (x:=e) (e:=e) (o:=.ext (eP e C)) (by rw[G];trivial) (.inl rfl) kp ⟨_,e'⟩ (uC ⟨t,e'⟩);have eu:l_ l e (.ext (eP e C))=l:=by
  funext y;by_cases S:y=e
  .subst S;rw[aR,G]
  .rw[aI S]
 rw[eu]at P;exact⟨.non,l,P,rfl,q2⟩
end
section
variable{X:Cx}{x fx fld:Str}{C F fI:Addr}{o value e:Expr}{ta tv te:TE}{p pos pos' p1 p2 p3:Pos}{c1 c2:Str}{j1 j2:Nat}
def yF(f:Aq X.K X.mg x C F fI fld)(S:PE X o ta)(hv:PE X value tv)(O:swapsWith value (J (.Attribute o fld pos')) pos.line X.env=pure T):
  PS X (.Assign [.Attribute o fld pos'] value pos) (λD Z H=>tv Z H λy j=>ta Z j λx i=>∃e,x=.ref e/\i e=J (.ext (eP e C))/\D.nx Z (l_ i e (.ext (jS e C)))):=by
 intro E s Z H D l h;refine plainObj_wpAny_Assign_Attribute (j_ (hv E s Z H _ l h) λu P ⟨y,j,U,ry,q⟩=>j_ (S E P Z j _ U q) λov s2 ⟨x,i,a,M,e,ex,G,R⟩=>?_) O;subst ex;obtain rfl:=M;obtain⟨⟨t0,z⟩,_,_⟩:=(a.hok e _ G);obtain⟨nm,qn,N,bs,sn,sub,ab,W,dd,k0,k1,k2,k3,k5,Q,_,_⟩:=f.lk;refine CL a.kIn z rfl rfl rfl f.sa (by unfold PySem.W.clsIn;rw[Q]) rfl rfl f.tk λh' B dx kp L _ _=>?_;exact⟨Z,_,a.write (t':=B) (by rw[G];trivial) (.inl rfl) kp ⟨_,L⟩ (CN L),R⟩
def fX(c1 c2:Str)(i:Int):Prop:=i.natAbs.log2<1920/\(Str.empty++c1).length<=sizeLine/\(Str.empty++c1++(toString i:Str)).length<=sizeLine/\(Str.empty++c1++(toString i:Str)++c2).length<=sizeLine
def Gu(z0:(Str.empty++c1).length<=sizeLine)(y:PE X e te):PE X (.JoinedStr [.Constant (.str c1) j1 p1,.FormattedValue e (-1) Y p2,.Constant (.str c2) j2 p3] pos) (λZ H Q=>te Z H λx a=>∃i,x=.int i/\fX c1 c2 i/\Q (.str (Str.empty++c1++(toString i:Str)++c2)) a):=by intro j s Z H Q f h;refine wpAny_JoinedStr ?_;refine Calls.Constant_str ⟨_,_,rfl,z0,?_⟩;refine wpAny_FormattedValue_plain ?_;refine j_ (y j _ Z H _ (f.tok _) h) λv E ⟨x,a,B,u,i,e1,z,l⟩=>?_;subst e1;obtain⟨t,rfl⟩:=u;refine wpAny_formatField_int z.1 ⟨_,_,rfl,z.2.2.1,?_⟩;exact Calls.Constant_str ⟨_,_,rfl,z.2.2.2,z.2.2.2,.str _,a,((B.tok _).tok _).tok _,⟨_,rfl⟩,l⟩
end
def tI(C:Addr)(f j:Str):TS:=Ie (Dz λZ H Q=>vt (sD 0) (vt (λZ H Q=>sD 1 Z H λx a=>∃i,x=.int i/\fX f j i/\Q (.str (Str.empty++f++(toString i:Str)++j)) a) IA) Z H λu a=>∃e z,u=[.ref e,.str z]/\a e=J (.ext (eP e C))/\Q .non a)
 (λD Z H=>sD 1 Z H λy a=>sD 0 Z a λx l=>∃e,x=.ref e/\l e=J (.ext (eP e C))/\D.nx Z (l_ l e (.ext (jS e C))))
def LL(C:Addr)(a j:Str):Sp:=λf H Q E=>∃e i,f=[.ref e,.int i]/\H e=J (.ext (eP e C))/\fX a j i/\Q .non (l_ H e (.ext (jS e C)))
def Gw{C e:Addr}{a j l z:Str}{i:Int}{H:Hp}{Q:VK}(f:H e=J (.ext (eP e C)))(u:fX a j i)(q:Q .non (l_ H e (.ext (jS e C)))):tI C a j { nx:=λ_ y=>Q .non y,rt:=Q} (start [l,z] [.ref e,.int i]) H :=
 ⟨.ref e,rfl,.int i,rfl,i,rfl,u,e,_,rfl,f,.int i,rfl,.ref e,rfl,e,rfl,f,q⟩
def CO{P:Program}{w:World}{K:hH}{mg:QA}{base:Heap}{a:Str}{st:Stmt}{f:Addr}{fd:FuncData}{k:Nat}{C:Addr}{y u j l:Str}(M:Fun K "__init__" a st f fd)(S:o_ [j,l] [j,l] (aj st))(G:∀X:Cx,X.K=K->X.mg=mg->X.env.scope=aj st->X.N=[j,l]->PSs X (aG st) (tI C y u)):FnOk P w K mg base Hs (k+1) f fd [j,l] (LL C y u):=by
 refine M.ok S (λF H Q E ⟨e,i,h,_⟩=>by rw[h];rfl) λB A outer s H F Q E hr ⟨e,i,h,L,z,q⟩=>?_;subst h;exact⟨_,G _ rfl rfl rfl rfl,Gw L z q⟩
section
variable{prog:Program}{w:World}{A:Around}{E:QZ}{s:Shared}{env:Env}{nm qn:Str}{C N:Addr}{bs bm:QS}{hd:Bool}{sn:QM}{sub:QS}{ab:Bool}{col:Option Bool}{dd:QD}{k0 k1 k2 k3 k5:QU}{nid:String}
def tH{M:Model}{x:Sem Value}{Q:Flow->Shared->Prop}(j:bm.contains (.type "BaseException")=I)(l:A.handled=Y)(h:wpAny M A x (λv a=>∃e t f,v=.ref e/\a.heap.get? C=J (excClassObj nm qn C N bs bm hd sn sub ab col dd k0 k1 k2 k3 k5 nid)/\a.heap.get? e=J (CM C t f)/\E (.ref e) a) E s):wpAny M A (raiseStmt env (J x) Y) Q E s:=by
 have u:(Value.ref C::bm).contains (.type "BaseException")=I:=by rw[List.contains_cons,j,Bool.or_true]
 refine g_ (wpAny_mono h (λv a ⟨e,t,f,y,i,B,F⟩=>?_) λ_ _ z=>z);subst y
 repeat (first | with_reducible refine wpAny_loadPart_at B ?_ | with_reducible refine wpAny_loadPart_at i ?_ | (with_reducible refine wpAny_isSubtype_exc i ?_;rw[u]) | wp_step)
 exact wpAny_raiseNew_none l F
def tK{x:Str}{G i B:Pos}{j:QW}{Q:Flow->Shared->Prop}(P:bm.contains (.type "BaseException")=I)(L:A.handled=Y)(y:(backTo i (starEach j env)).any (·.1)=T)(h:wpAny (model prog w) A (eval (.Name x G) env) (λf F=>f=.ref C/\wpAny (model prog w) A (evalArgs (.ref C) I (backTo i (starEach j env)) [])
   (λa u=>a.kw=[]/\u.heap.get? C=J (excClassObj nm qn C N bs bm hd sn sub ab col dd k0 k1 k2 k3 k5 nid)/\wpAny (model prog w) A (call (.ref C) a.pos) (λv l=>∃e t O,v=.ref e/\l.heap.get? C=J (excClassObj nm qn C N bs bm hd sn sub ab col dd k0 k1 k2 k3 k5 nid)/\l.heap.get? e=J (CM C t O)/\E (.ref e) l) E u) E F) E s):
  wpAny (model prog w) A (exec (.Raise (J (.Call (.Name x G) j [] i)) Y B) env) Q E s:=by
 rw[arm_exec_Raise];simp only[evalOpt,Option.map];refine g_ (wpAny_standAt (tH (C:=C) (nm:=nm) (qn:=qn) (N:=N) (bs:=bs) (hd:=hd) (sn:=sn) (sub:=sub) (ab:=ab) (col:=col) (dd:=dd) (k0:=k0) (k1:=k1) (k2:=k2) (k3:=k3) (k5:=k5) (nid:=nid) P L ?_));refine g_ (wpAny_mono (wpAny_Call_ofName (wpAny_mono h (λf F ⟨U,S⟩=>?_) λ_ _ z=>z)) (λv l H=>g_ (wpAny_standAt (oh H))) λ_ _ z=>z);subst U;refine g_ (wpAny_holding (wpAny_mono S (λa u R=>g_ (wpAny_standAt ?_)) λ_ _ z=>z));obtain⟨X,Z⟩:=a;obtain⟨M,W,run⟩:=R;obtain rfl:=M;simp only[y];refine g_ (wpAny_keeperOf_exc W ?_);exact g_ (wpAny_mono run (λv l z=>g_ (wpAny_holding (wpAny_point (oh z)))) λ_ _ z=>z)
end
def Gx{K:hH}{h:Heap}{N:Addr}{a:QA}{n:Str}{v:Value}(X:K.In h)(G:h.Ns N a)(e:PySem.W.nsIn K N n=J (J v)):a n=J v:=by
 obtain⟨o,i,j,f,hd,_,hf⟩:=G;unfold PySem.W.nsIn at e
 split at e
 .rename_i q
  have z:=X _ _ q;rw[f]at z
  split at e
  .rw[<-hf];unfold nsFind findBy
   grind
  .split at e<;>cases e
 .cases e
section
variable{X:Cx}{JB:List (Addr × Obj)}{Z:L2.St}{H:Hp}{s:Shared}{e:Addr}{φ:Heap->Prop}
def Inv.hide(a:Inv X JB Z (l_ H e (.ext φ)) s)(he:H e=Y)(h0:X.s₀.heap.get? e=Y)(hL:e≠X.env.locals)(G:∀x c,X.env.cells.lookup x=J c->c≠e)(O:∀p∈X.pn++JB,p.1≠e):
  Inv X JB Z H { s with heap:=PySem.W.hideAll s.heap [e]}:=by
 have kp:∀b o,b≠e->s.heap.get? b=J o->(PySem.W.hideAll s.heap [e]).get? b=J o:=λb o nb z=>PySem.W.hideAll_get _ z (by simpa using nb);have E:∀b o,X.s₀.heap.get? b=J o->b≠e:=λb o z q=>by rw[q,h0]at z;cases z
 have ne:∀b u,H b=J u->b≠e:=λb u z q=>by rw[q,he]at z;cases z
 have U:∀b u,H b=J u->l_ H e (.ext φ) b=J u:=λb u z=>by rw[aI (ne b u z)];exact z
 obtain⟨m,S,hl⟩:=a.loc;refine⟨a.ok,a.os,a.bare,⟨λb o z n hf l=>kp b o (E b o z) (a.base.keep b o z n hf l),λb o z n hf l=>?_,λb o z n l=>?_,λb o z l=>?_,λb xs z=>?_,λb o u z=>?_,λb ps z=>?_⟩,⟨m,?_,λi x v e1 e2 e3=>?_⟩,λx c z=>?_,?_,λx c z=>?_,λp y=>?_,λb u z=>?_,a.len⟩
 .obtain⟨sl,e1⟩:=a.base.slot b o z n hf l;exact⟨sl,kp b _ (E b o z) e1⟩
 .have:=a.base.free b o z n l
  rwa [aI (E b o z)]at this
 .obtain⟨P,e1⟩:=a.base.there b o z l;exact⟨P,kp b P (E b o z) e1⟩
 .have q:=a.base.tups b xs z;by_cases f:b=e
  .subst f;rw[aR]at q;cases q
  .rwa [aI f]at q
 .have q:=a.base.frzs b o u z;by_cases f:b=e
  .subst f;rw[aR]at q;cases q
  .rwa [aI f]at q
 .obtain⟨C,q⟩:=a.base.tbls b ps z;by_cases f:b=e
  .subst f;rw[aR]at q;cases q
  .rw[aI f]at q;exact⟨C,q⟩
 .obtain⟨o,es,ep,R,r⟩:=S;exact⟨o,es,ep,kp _ o (Ne.symm hL) R,r⟩
 .obtain⟨u,ru,B⟩:=hl i x v e1 e2 e3;refine⟨u,ru,?_⟩;rcases B with z|⟨z1,c,M,z3⟩
  .exact .inl z
  .obtain⟨o,F,L⟩:=z3;exact .inr ⟨z1,c,M,o,kp c o (G x c M) F,L⟩
 .obtain⟨v,o,F,L⟩:=a.cell x c z;exact⟨v,o,kp c o (G x c z) F,L⟩
 .have:=a.free
  rwa [aI (Ne.symm hL)]at this
 .have:=a.freeC x c z
  rwa [aI (G x c z)]at this
 .obtain⟨W,Q,a3⟩:=a.pin p y;rw[aI (O p y)]at Q;exact⟨kp _ _ (O p y) W,Q,a3⟩
 .refine (a.hok b u (U b u z)).stay (λc v j q=>kp c v ?_ q) (λc q=>?_) λc xs q=>?_
  .rcases j with rfl|j
   .exact ne _ _ z
   .intro ec;subst ec;rw[aR]at j;cases j
  .by_cases f:c=e
   .subst f;rw[aR]at q;cases q
   .rwa [aI f]at q
  .by_cases f:c=e
   .subst f;rw[aR]at q;cases q
   .rwa [aI f]at q
end
def uo(x a f:Str)(m:Mx (QL)):nr:=vC m λj Z h=>match j with
 |[.int i]=>if fX a f i then .rse ⟨x,[]⟩ Z h else .bad
 |_=>.bad
section
variable{X:Cx}{N W G:QM}{k:Nat}{x fld sf pl c1 c2:Str}{C F fI:Addr}{fd:FuncData}
def wL(g:Good X N W G (k+1)){j:Nat}(hj:G[j]?=J x)(EI:Aq X.K X.mg x C F fI fld)(FO:FnOk X.prog X.w X.K X.mg X.base Hs k fI fd [sf,pl] (LL C c1 c2))(hb:j0 X.K fd [sf,pl] []){oI:Obj}(hf:X.K.lookup fI=J oI)(ap:oI.cls=.type "function")(dc:h_ X){e:Expr}{m:Mx (QL)}{np L a9:Pos}(ha:MA X [e] m)(he:starEach [e] X.env=[(T,eval e X.env)]):MS X (.Raise (J (.Call (.Name x np) [e] [] L)) Y a9) (uo x c1 c2 m):=by
 intro JB s Z H D O ⟨U,ai,h,rs,rh,q⟩;have d:=g.dbg x (vn _ (aL hj));obtain⟨nm,qn,N',bs,sn,sub,ab,aF,dd,k0,k1,k2,k3,k5,lC,ar,a7⟩:=EI.lk;refine tK (C:=C) (nm:=nm) (qn:=qn) (N:=N') (bs:=bs) (bm:=.ref F::ig) (hd:=I) (sn:=sn) (sub:=sub) (ab:=ab) (col:=aF) (dd:=dd) (k0:=k0) (k1:=k1) (k2:=k2) (k3:=k3) (k5:=k5) (nid:="ValueError.__new__") rfl (O.ok.hd g.calm) (by rw[he];rfl) (lP O (g.gl x (aL hj)) EI.bd ⟨rfl,?_⟩ d.1)
 have A:=ha L JB s Z H (λvs f=>∃M xs h1,Le U H M f/\RH X.K X.mg M f h1/\RPs X.K M f xs vs/\bg X M f (match xs with
   |[.int i]=>if fX c1 c2 i then .rse ⟨x,[]⟩ ai h1 else .bad
   |_=>.bad) D) O ⟨U,ai,h,rs,rh,bg.ex q λM f v v' h1 l r z w=>⟨M,v,h1,l,r,z,w⟩⟩
 rw[he]at A ⊢;refine Calls.evalArgs_plain (wpAny_mono A (λus s2 ⟨vs,f,B,rv,M,xs,h1,l1,al,rx,w⟩=>?_) λ_ _ y=>y);refine⟨rfl,B.kIn _ _ lC,?_⟩
 cases rx with
 |nil=>exact w.elim
 |cons r1 t1 =>
  cases r1 with
  |int i =>
   cases t1 with
   |cons _ _=>exact w.elim
   |nil =>
    dsimp only at w;by_cases hz:fX c1 c2 i
    .rw[e_ hz]at w;obtain⟨u,rfl,tu,rfl⟩:=rv.one;have n2:=Heap.Ns.of_isNs (PySem.W.isNs_of_in B.kIn ar);have b0:=B.kIn;have T2:=PySem.W.tail_of_in B.kIn EI.tl;have a0:=B.kIn _ _ lC;have an:=B.kIn _ _ hf;have a6:=Gx B.kIn n2 a7;obtain⟨hp,gs,dr,tk,os⟩:=s2;refine xm PySem.F.excBase_ValueError T2 a0 n2 a6 an ap (by rw[sizeLine_eq];show 1<=_;decide) λh' a E=>?_;have S:hp.get? a=Y:=E.new;have I2:Inv X JB Z f ⟨h',gs,dr,tk,os⟩:=B.kept (t':=tk) E.keeps;have a1:f a=Y:=by
      cases z:f a with
      |none=>rfl
      |some o=>obtain⟨u,eu⟩:=(B.hok a o z).has;rw[S]at eu;cases eu
     have a2:X.s₀.heap.get? a=Y:=by
      cases z:X.s₀.heap.get? a with
      |none=>rfl
      |some o=>obtain⟨o',e'⟩:=B.base.there a o z (by rw[dc.ex];simp);rw[S]at e';cases e'
     have a3:a≠X.env.locals:=λz=>by
      obtain⟨m',⟨o,_,_,Q,_⟩,_⟩:=B.loc;rw[<-z,S]at Q;cases Q
     have a4:∀z c,X.env.cells.lookup z=J c->c≠a:=λz c e1 e2=>by
      obtain⟨v,o,Q,_⟩:=B.cell z c e1;rw[e2,S]at Q;cases Q
     have a5:∀p∈X.pn++JB,p.1≠a:=λp a8 e2=>by
      have:=(B.pin p a8).1
      rw[e2,S]at this;cases this
     obtain⟨t0,as,_,_⟩:=E.there;have I3:=Inv.track (φ:=eP a C) I2 a1 a2 a3 a4 a5 (uC ⟨t0,as⟩);have R:=hb ⟨h',gs,dr,tk,os⟩ [.ref a,.int i tu] I3.kIn rfl;rw[Hi]at R;refine wpAny_call (codeAny_mono (FO.run _ X.stack ⟨h',gs,dr,tk,os⟩ (l_ f a (.ext (eP a C))) ⟨[.ref a,.int i tu],[]⟩ [.ref a,.int i tu] [.ref a,.int i] (λv H'=>v=.non/\H'=l_ (l_ f a (.ext (eP a C))) a (.ext (jS a C))) (λ_ _ _=>False) (g.room.make _ _ _) (I3.env0.make _ _ _) R (.cons rfl (.cons ⟨_,rfl⟩ .nil)) ⟨a,i,rfl,aR,hz,rfl,rfl⟩) λr s' hq=>?_)
     cases r with
     |error _=>exact False.elim hq
     |ok fl =>
      cases fl with
      |ret u =>
       obtain⟨v,H',I4,ak,ev,eH⟩:=I3.after hq;subst ev eH;obtain rfl:u=Value.none:=ak;refine⟨rfl,?_⟩;have eu:l_ (l_ f a (.ext (eP a C))) a (.ext (jS a C))=l_ f a (.ext (jS a C)):=by
        funext y;by_cases hy:y=a
        .subst hy;rw[aR,aR]
        .rw[aI hy,aI hy,aI hy]
       rw[eu]at I4;obtain⟨⟨t,dx,P⟩,_,_⟩:=(show ObjOk X.prog X.w _ s'.heap a (.ext (jS a C))from I4.hok a _ aR);refine⟨a,t,dx,rfl,I4.kIn _ _ lC,P,?_⟩;have I5:=Inv.unpinned (JB:=[]) (Inv.hide I4 a1 a2 a3 a4 a5);exact w a C M f Z s' (PySem.W.hideAll s'.heap [a]) rfl EI.bd (Le.refl _ _) al (rs.le l1) I5 ⟨λb o z=>PySem.W.of_hideAll _ z,PySem.W.hideAll_none _ (by simp),t,dx,P⟩
      |next=>exact False.elim hq
      |brk=>exact False.elim hq
      |cont=>exact False.elim hq
    .rw[hI hz]at w;exact w.elim
  |_=>exact w.elim
end
section
variable{X:Cx}{N W G:QM}{k:Nat}{Z:L2.St}{H:Hp}{s:Shared}
def vm(c:Str)(a:Nat)(j:nr):nr:=λZ h=>match j Z h with
 |.exc x i f=>if x.fs=[]/\x.cls=c then .nx (i.set a (J .non)) f else .bad
 |.rse _ _ _=>.bad
 |o=>o
def CP(g:Good X N W G k)(dc:h_ X){c fld:Str}{j:Nat}{C F fI:Addr}(hj:G[j]?=J c)(EI:Aq X.K X.mg c C F fI fld)(iy:Nat){y:Str}(a3:N[iy]?=J y)(cc:W[iy]?=J y){an:QC}{mb:nr}{cp yp np sp hp cd:Pos}{kc:Nat}(hb:∀O:Cx,O.prog=X.prog->O.w=X.w->O.K=X.K->O.mg=X.mg->O.base=X.base->O.env=X.env->Good O N W G k->h_ O->Aj O an mb)(b3:swapsWith (.Constant .none kc np) (J (.Name y yp)) sp.line X.env=pure T:=by rfl):
  MS X (.Try an [.ExceptHandler (J (.Name c cp)) Y [.Assign [.Name y yp] (.Constant .none kc np) sp] hp] [] [] cd) (vm c iy mb):=by
 intro JB s Z H Dd b8 ⟨U,a7,h,rs,rh,q⟩;refine wpAny_Try_except ?_;have gY:∀E,PassesOwn (model X.prog X.w) X.A X.env E->Good (oO X JB E) N W G k:=λE po=>⟨g.hN,g.nd,g.loc,g.fn,g.gl,g.dbg,g.calm,g.room,po⟩;have run:=hb (oO X JB _) rfl rfl rfl rfl rfl rfl (gY _ (PassesOwn.looking (M:=model X.prog X.w) (A:=X.A) (env:=X.env) (K:=λe a8=>wpAny (model X.prog X.w) X.A (setFlight e Y) (λ_ a0=>wpAny (model X.prog X.w) X.A (handleBy e X.env [.ExceptHandler (J (.Name c cp)) Y [.Assign [.Name y yp] (.Constant .none kc np) sp] hp]) (SP X JB Dd) X.xe a0) X.xe a8) (E₁:=X.xe))) ⟨dc.stk,dc.fr,dc.ex⟩;refine wpAny_mono (run [] s Z H Dd (Inv.toPin b8) ⟨U,a7,h,rs,rh,?_⟩) (λf ck z=>?_) λ_ _ z=>z
 .unfold vm at q
  cases em:mb a7 h with
  |nx Z1 h1=>rw[em]at q;exact q
  |rt v h1=>rw[em]at q;exact q
  |bk Z1 h1=>rw[em]at q;exact q
  |ct Z1 h1=>rw[em]at q;exact q
  |bad=>rw[em]at q;exact q.elim
  |rse x Z1 h1=>rw[em]at q;exact q.elim
  |exc x Z1 h1 =>
   rw[em]at q;dsimp only at q;by_cases hx:x.fs=[]/\x.cls=c
   .rw[e_ hx]at q;intro ea C' U' Q R s' cn cv b2 l b6 ca I' a2 b1;have eC:C'=C:=by
     have:=EI.bd
     rw[<-hx.2,show X.mg x.cls=J (.ref C')from b2]at this;cases this;rfl
    subst eC;obtain⟨B,t,ak,a6,al,cs⟩:=b1;have bm:X.stack=X.env::X.outer:=dc.stk;have ak:Heap.FlyingW B (X.env::X.outer) ea (.ref C') (.ref t) s'.heap:=by rw[<-bm];exact ak
    have a1:X.A.frames=J (X.env::X.outer):=by rw[<-bm];exact I'.ok.frames
    refine wpAny_looks_onW (base:=B) a1 dc.fr ak λci S ap=>?_;refine wpAny_landsW S λch P ar=>?_;have a4:=ap.trans ar;have I5:=Inv.flown I' ak.1 P.1 a4 a2 al a6;have ai:=Inv.ofPin I5;refine wpAny_handleBy_cons (codeAny_handlers_test (Calls.Name_function_global ai.ok.kind (g.gl c (aL hj)) (Calls.loadGlobal_global (by rw[ai.ok.glob];exact ai.mod.glob.keeps ai.bk) EI.bd ?_) (g.dbg c (vn _ (aL hj))).1)) (by intro z;cases z);obtain⟨nm,qn,N',bs,sn,sub,ab,cB,dd,k0,k1,k2,k3,k5,lC,_,_⟩:=EI.lk;have a9:=ai.kIn _ _ lC;obtain⟨ob,b4,a5⟩:=P.there;obtain⟨c1,g5,d5,t5,cx⟩:=s';refine oV a9 a9 b4 a5 rfl (by simp) ?_;refine codeAny_handlers_suite ?_;refine lands_againW P λcm aF as=>?_;have I6:=Inv.flown I5 P.1 aF.1 as a2 al a6;have a:=Inv.ofPin I6;have b7:X.N.Nodup:=by rw[g.hN];exact g.nd
    let X':Cx:={ X with A:=X.A.mark (J (.ref ea)),calm:=T,xe:=λ_ _=>False}
    have b9:X'.Ok:=⟨a.ok.mod,a.ok.kind,a.ok.glob,a.ok.blt,a.ok.above,a.ok.inj,a.ok.has,a.ok.cab,(λz=>nomatch z),a.ok.frames,a.ok.stk,a.ok.exf,a.ok.bs,a.ok.bsz,a.ok.noex,a.ok.exfs,a.ok.funs,a.ok.frf,a.ok.tree,a.ok.top⟩;have b0:Inv X' JB R Q _:=⟨b9,a.os,a.bare,a.base,a.loc,a.cell,a.free,a.freeC,a.pin,a.hok,a.len⟩;have st:=pd (w6 (X:=X') (i:=iy) (pos:=sp) (pos':=yp) b7 (g.x a3) (g.loc y (aL a3)) (wZ (X:=X') (j:=kc) (pos:=np)) b3 (g.fn y (aL cc))) JB _ R Q
     { nx:=λZ9 H9=>Z9=R.set iy (J .non)/\H9=Q,rt:=λ_ _=>False} b0 ⟨rfl,rfl⟩
    refine wpAny_mono st (λfl s9 z9=>?_) λ_ _ z=>z.elim
    cases fl with
    |ret u=>obtain⟨_,_,_,_,_,z⟩:=z9;exact z.elim
    |brk=>obtain⟨_,_,_,z⟩:=z9;exact z.elim
    |cont=>obtain⟨_,_,_,z⟩:=z9;exact z.elim
    |next =>
     obtain⟨Z9,H9,L,e9,b5⟩:=z9;rw[e9,b5]at L;have I9:Inv X JB (R.set iy (J .non)) Q s9:=⟨a.ok,L.os,L.bare,L.base,L.loc,L.cell,L.free,L.freeC,L.pin,L.hok,L.len⟩;exact⟨_,_,I9,q U' Q _ l b6 (ca.set iy .non)⟩
   .rw[hI hx]at q;exact q.elim
 .cases f with
  |next =>
   obtain⟨R,Q,I',z⟩:=z;exact wpAny_execs_nil ⟨R,Q,Inv.ofPin I',z⟩
  |brk=>obtain⟨R,Q,I',z⟩:=z;exact⟨R,Q,Inv.ofPin I',z⟩
  |cont=>obtain⟨R,Q,I',z⟩:=z;exact⟨R,Q,Inv.ofPin I',z⟩
  |ret u=>obtain⟨v,R,Q,I',r,z⟩:=z;exact⟨v,R,Q,Inv.ofPin I',r,z⟩
end
end MM
namespace PU
open MM
section
variable{ws:QP}
def lI(x u l:Str)(a:Xs ws):Xd ws where
 m:=uo x u l a.m
 p:=λenv s=>(a.p env s).go env λj env s=>match j with
  |[.int i]=>if fX u l i then .rse x env s else .bad
  |_=>.bad
 fr:=I
 ok {q h L B O Z env s} c d:=by
  refine SOk.ex (f:=λ(C:QL) Z h=>match C with
   |[.int i]=>if fX u l i then .rse ⟨x,[]⟩ Z h else .bad
   |_=>.bad) (g:=λ(j:QQ) env s=>match j with
   |[.int i]=>if fX u l i then .rse x env s else .bad
   |_=>.bad) c d (a.ok c) λj C G P kb H ⟨w,_⟩=>?_
  match j,w with
  |[.int i],w =>
   obtain⟨v,r,e,y,E⟩:=w;have M:r=[]:=E;subst M;have F:v=.int i:=by
    rcases y with y|y
    .exact y
    .obtain⟨n,k,xs,j,e,_⟩:=y;cases k<;>cases e
   subst e;rw[F];dsimp only;by_cases z:fX u l i
   .rw[e_ z,e_ z];exact⟨Z,G,rfl,O,Stp.refl _ _ _ _,H,d⟩
   .rw[hI z,hI z];trivial
  |[],w=>trivial
  |.int i::_::_,w=>trivial
  |.non::_,w=>trivial
  |.bl _::_,w=>trivial
  |.str _::_,w=>trivial
  |.tup _::_,w=>trivial
  |.lst _::_,w=>trivial
  |.dic _ _ _::_,w=>trivial
  |.exc _::_,w=>trivial
  |.pen::_,w=>trivial
def qL(c:Str)(y:Nat)(b:Xd ws)(E:ws.contains y=T:=by exact ys rfl):Xd ws where
 m:=vm c y b.m
 p:=λenv s=>match b.p env s with
  |.exc x e s=>if x=c then .nx (e.set y (J .non)) s else .bad
  |.rse _ _ _=>.bad
  |r=>r
 fr:=b.fr
 ok {q h L B O Z env s} c' d:=by
  have k:=b.ok c' d
  show SOk q L h B O ws _ (match b.m Z h with
   |.exc x Q E=>if x.fs=[]/\x.cls=c then .nx (Q.set y (J .non)) E else .bad
   |.rse _ _ _=>.bad
   |o=>o) (match b.p env s with
   |.exc x e s=>if x=c then PS.nx (e.set y (J .non)) s else .bad
   |.rse _ _ _=>.bad
   |r=>r)
  cases e:b.p env s with
  |nx f C=>rw[e]at k;obtain⟨u,j,e1,r⟩:=k;rw[e1];exact⟨u,j,rfl,r⟩
  |rt x C=>rw[e]at k;obtain⟨v,j,e1,P,H,R,G,S⟩:=k;rw[e1];exact⟨v,j,rfl,P,H,R,G,S⟩
  |bk f C=>rw[e]at k;obtain⟨u,j,e1,r⟩:=k;rw[e1];exact⟨u,j,rfl,r⟩
  |ct f C=>rw[e]at k;obtain⟨u,j,e1,r⟩:=k;rw[e1];exact⟨u,j,rfl,r⟩
  |rse x f C=>trivial
  |bad=>trivial
  |exc x f C =>
   rw[e]at k;obtain⟨u,j,e1,F,st,l,M⟩:=k;rw[e1];dsimp only;by_cases z:x=c
   .rw[e_ z,e_ ⟨rfl,z⟩];obtain⟨a,b⟩:=l.sr.set (i:=y) (d:=.non) (v:=.non) (λz=>by simp[z]at E) rfl;exact⟨_,j,rfl,F,st,⟨l.bd,l.sub,l.bb,l.pb,l.hL,l.pen,a⟩,M.keep b⟩
   .rw[hI z];trivial
end
end PU
namespace MM
open PySem.Spec PyProof.Rows L2
def Qd(K:hH)(a:Addr)(n:Nat):It :=
 ⟨λi H=>i<n/\∃xs x,SqL K H a xs/\xs[n-1-i]?=J x,λi H x f=>f=H/\∀xs,SqL K H a xs->xs[n-1-i]?=J x,λi _=>n<=i⟩
def yA{P:Program}{w:World}{K:hH}{tg:Expr}(a l:Addr)(n:Nat):AE P w K tg (Qd K a n) [l] l (λi h=>i<=n/\h.IsRevIter l a ((n:Int)-1-i)) where
 mem:=by simp
 obj:=λi h st b B=>by
  have e:b=l:=by simpa using B
  subst e;obtain⟨_,o,e,c,d⟩:=st;exact⟨o,e,λv z=>by rw[d]at z;cases z⟩
 keep:=λi h C st k=>⟨st.1,st.2.at λo e=>k l (by simp) o e⟩
 item:=by intro X R hw S W i Q s Z H E f hf st hg;subst R hw S;obtain⟨hi,xs,x,hq,U⟩:=hg;obtain⟨ab,rv,p,hz⟩:=f.list hq;obtain⟨u,hu,ru⟩:=rv.get U;obtain⟨O,G,f2,M,L,F⟩:=hf l (by simp);have j:=st.2;rw[show(n:Int)-1-i=((n-1-i:Nat):Int) by ext]at j;refine wpAny_pyNext_rev_item j p.isList (x:=u) (by simpa using hu) λC y sb=>?_;have I1:Inv X Q Z H { s with heap:=C}:=f.turned (t':=s.toks) (λb o B e=>(sb.2 b B).trans e) O G M L F;rw[show((n-1-i:Nat):Int)-1=(n:Int)-1-((i+1:Nat):Int) by ext]at y;obtain⟨o,e,c,d⟩:=id y;exact⟨u,rfl,qO (s:={ s with heap:=C}) e c d (by decide) ⟨x,H,I1,ru,⟨rfl,λys hy=>by rw[f.list_inj hy hq];exact U⟩,⟨hi,y⟩,λb B=>(hf b B).1⟩⟩
 done:=by intro X R hw S W i Q s Z H E f hf st hg;obtain⟨O,G,f2,M,L,F⟩:=hf l (by simp);have j:=st.2;rw[show(n:Int)-1-i = -1 by have:n<=i:=hg;ext]at j;exact wpAny_pyNext_rev_end (f.ok.hd W) j λC eb=>⟨rfl,f.turned (t':=s.toks) (λb o B e=>eb b o B e) O G M L F⟩
 self:=λ_ _ _ _ _ st h=>wpAny_pyIter_revIter st.2 h
def yy{x:PV}{h:MH}{b:Bool}{xs:QL}{gd:List (Nat×QL)}(e:bi x h=J (b,xs,gd)):∀p∈gd,h[p.1]?=J (.lst p.2):=by
 unfold bi at e
 split at e
 .split at e
  .cases e
   simp_all
  .cases e
 .cases e;intro p a;cases a
 .cases e;intro p a;cases a
 .cases e
def NW(m:Mx (QL)):Mx MIt:=λZ h=>(m Z h).bind λf a=>match f with
 |[x]=>(match bi x a with
  |some (T,xs,gd)=>.ok ⟨xs.reverse,gd⟩ a
  |_=>.bad)
 |_=>.bad
def Gy(g:Good X N W G k){tg a:Expr}{m:Mx (QL)}{p a1:Pos}{j:Nat}(hj:G[j]?=J "reversed")(hm:X.mg "reversed"=Y)(ha:MA X [a] m)(hs:starEach [a] X.env=[(T,eval a X.env)]:=by rfl):MI X tg (.Call (.Name "reversed" p) [a] [] a1) (NW m):=by
 have d:=g.dbg _ (vn _ (aL hj));intro JB s Z H R a0 ⟨U,aF,h,rs,rh,q⟩;refine wpAny_Call_Name_kw (gy a0 (g.gl _ (aL hj)) hm PyProof.Rows.Boot.«reversed» ?_ d.2.2 d.1)
 refine PyProof.Rows.callWith_type1 (j_ (ha a1 JB s Z H (λvs E=>∃M S xs,Le U H M E/\RH X.K X.mg M E S/\RPs X.K M E xs vs/\Ful X (mG X) aF M E ((match xs with
   |[x]=>(match bi x S with|some (T,xs,gd)=>.ok ⟨xs.reverse,gd⟩ S|_=>.bad)
   |_=>.bad:Out MIt)) R) a0 ⟨U,aF,h,rs,rh,Ful.bind q λM E v v' S _ l1 C rv L=>⟨M,S,v,l1,C,rv,L⟩⟩) λus F ⟨vs,E,I1,r1,M,S,xs,l1,C,rv,L⟩=>?_) hs rfl
 cases rv with
 |nil=>exact L.elim
 |@cons y y' ys a3 ry t1 =>
  cases t1 with
  |cons _ _=>exact L.elim
  |nil =>
   dsimp only at L
   cases O:bi y S with
   |none=>rw[O]at L;exact L.elim
   |some z =>
    obtain⟨b,zs,gd⟩:=z;rw[O]at L
    cases b with
    |true=>exact L.elim
    |false =>
     obtain⟨ad,rfl,⟨ws,al⟩,ar⟩:=nt C ry O;obtain⟨u,rfl,rx⟩:=gN r1;cases rx;obtain⟨f,a2,pl,hz⟩:=I1.list al;refine call_reversed_list pl.isList ?_;have an:=I1.hok.fresh (mu F.heap.objs.size);have At:(F.heap.push (revObj ad ((f.toArray.size:Int)-1))).IsRevIter F.heap.objs.size ad ((f.toArray.size:Int)-1):=⟨_,wr _ rfl,rfl,rfl⟩;refine wpAny_pyIter_revIter (s:={ F with heap:=F.heap.push (revObj ad ((f.toArray.size:Int)-1))}) At ?_;have I2:Inv X JB Z E { F with heap:=F.heap.push (revObj ad ((f.toArray.size:Int)-1)),toks:=F.toks}:=I1.kept λb o q=>n3 _ q;refine⟨F.heap.objs.size,_,_,_,E,rfl,I2,yA ad _ f.length,⟨Hn _,?_⟩,λc hc=>?_,?_⟩
     .rw[show((f.length:Int)-1-((0:Nat):Int))=((f.toArray.size:Int)-1) by simp];exact At
     .have:c=F.heap.objs.size:=by simpa using hc
      subst this;exact Inv.fpOk I1 (H':=E) (mu _) an
     .refine L M E _ (Le.refl _ _) C ?_;have ez:zs.length=f.length:=by
       obtain⟨ab,B,P⟩:=ar M E S (Le.refl _ _) C (yy O)
       have:=I1.list_inj B al
       subst this;rw[P.length,a2.length]
      intro U' H' h2 i l ap ok;obtain⟨ab,B,P⟩:=ar U' H' h2 l ap ok;have ew:=P.length;refine⟨λQ=>?_,λQ=>by rw[LX]at Q;show f.length<=i;ext⟩;rw[LX]at Q;have as:f.length-1-i<zs.length:=by ext
      have hx:zs[f.length-1-i]?=J (zs[f.length-1-i]'as):=vE as;obtain⟨w',ai,rw'⟩:=P.get hx;refine⟨⟨by ext,ab,w',B,ai⟩,λx' H3 ⟨e,ak⟩=>?_⟩;subst e
      have:=ak ab B
      rw[ai]at this;cases this;refine⟨U',_,Le.refl _ _,ap,?_,rw'⟩;show zs.reverse[i]?=_;rw[OL Q,ez];exact hx
end MM
namespace PU
open MM
noncomputable section
def t9:∀{f:QQ}{xs:QL},Rps q h O f xs->Rps q h O f.reverse xs.reverse
 |[],_,r=>by rw[show _=[]from r];rfl
 |d::f,_,⟨x,t,e,a,b⟩=>by
  subst e;rw[List.reverse_cons,List.reverse_cons];exact(t9 b).app ⟨x,[],rfl,a,rfl⟩
def NX:Hy where
 k:=λB j=>match B with
  |[x]=>(match bi x j with
   |some (T,xs,gd)=>.ok ⟨xs.reverse,gd⟩ j
   |_=>.bad)
  |_=>.bad
 p:=λi=>match i with
  |[.lst f]=>J f.reverse
  |_=>Y
 ok {q h L O i xs d} hq hO bd w e:=by
  match i,e with
  |[.lst f],e =>
   obtain⟨x,rfl,wx⟩:=eN w;cases e;obtain⟨ys,gd,e2,r,y,u⟩:=wx.seq hq hO (show(D.lst f).items=J f from rfl);obtain⟨n,C,rfl,g,l⟩:=wx.lst;simp only[r_,g]at e2;cases e2;refine⟨⟨ys.reverse,[(n,ys)]⟩,by simp[MM.bi,g],t9 r,y,λz=>u ?_⟩;obtain⟨E,l,e3,a,_⟩:=z;cases e3;exact a
@[simp]theorem Kn:NX.p [.lst x]=J x.reverse:=rfl
end
end PU
namespace MM
open PySem.Spec PyProof.Rows L2
open PU (Xe Xs Xt Xi Xg Xd lI qL)
def Qe:Stmt->Nat->Stmt
 |.ClassDef _ _ _ a _ _ _ _ _ _ _,i=>a.getD i (.Pass ⟨0,0,0,0⟩)
 |s,_=>s
structure NY(P:Program)(w:World)(K:hH)(mg:QA)(base:Heap)(x c1 c2:Str):Prop where
 ex:∃(C F fI:Addr) (fld sf pl:Str) (fd:FuncData) (oI:Obj),Aq K mg x C F fI fld/\FnOk P w K mg base Hs 1 fI fd [sf,pl] (LL C c1 c2)/\j0 K fd [sf,pl] []/\K.lookup fI=J oI/\oI.cls=.type "function"
structure NZ(K:hH)(mg:QA)(x:Str):Prop where
 ex:∃(C F fI:Addr)(fld:Str),Aq K mg x C F fI fld
section
variable{X:Cx}{P:Program}{w:World}{K:hH}{mg:QA}{base:Heap}{N W:QM}{k:Nat}{sc:Scope}{ws:QP}{x y c1 c2:Str}{p cp yp np sp hp pos cpos:Pos}{e:Expr}{sa:Xs ws}{i kc:Nat}{body:QC}{da:Xd ws}
def yt(c:Wc X P w K mg base N W (k+2) sc)(d:h_ X)(R:NY P w K mg base x c1 c2)(E:Ag X [e] sa.m)(z:gm sc x)(hp:bG e=I):xl X (.Raise (J (.Call (.Name x p) [e] [] cpos)) Y pos) (lI x c1 c2 sa).m:=by obtain⟨C,F,L,fld,O,Q,fd,M,u,G,B,l,f⟩:=R.ex;obtain⟨j,H⟩:=c.gj z;have e3:=c.e.e3;have e4:=c.e.e4;have a:=G.mono (show 1<=k+1 by ext);rw[<-c.e.e1,<-c.e.e2,<-e3,<-e4,<-c.e.e5]at a;rw[<-e3,<-e4]at u;rw[<-e3]at B l;exact⟨wL c.g H u a B l f d E.h (aX hp)⟩
def Gz{h1}(c:Wc X P w K mg base N W k sc)(d:h_ X)(f:NZ K mg x)(L:gm sc x)(l:N[i]?=J y)(z:W[i]?=J y)(Q:∀a:Cx,Wc a P w K mg base N W k sc->h_ a->n5 a body da.m)(u:swapsWith (.Constant .none kc np) (J (.Name y yp)) sp.line X.env=pure T):
  xl X (.Try body [.ExceptHandler (J (.Name x cp)) Y [.Assign [.Name y yp] (.Constant .none kc np) sp] hp] [] [] pos) (qL x i da h1).m:=by
 obtain⟨C,F,Z,fld,B⟩:=f.ex;obtain⟨j,S⟩:=c.gj L;rw[<-c.e.e3,<-c.e.e4]at B;exact⟨CP c.g d S B i l z (λa R M H U G E g O=>(Q a ⟨g,⟨R.trans c.e.e1,M.trans c.e.e2,H.trans c.e.e3,U.trans c.e.e4,G.trans c.e.e5,c.e.b⟩,(congrArg Env.scope E).trans c.s⟩ O).h) u⟩
def Ko(c:Wc X P w K mg base N W k sc){l a:Expr}(h:Ag X [a] sa.m)(z:Zn K "reversed")(j:gm sc "reversed")(hp:bG a=I):DX X l (.Call (.Name "reversed" p) [a] [] pos) (PU.cg PU.NX sa).m:=let⟨_,f⟩:=c.gj j;⟨Gy c.g f (c.n z) h.h (aX hp)⟩
end
end MM
namespace Law
open PySem.Spec PyProof.Rows L2 MM
set_option maxHeartbeats 4000000
noncomputable section
def x_:nr:=(aQ (aV 2 (ay jj (ay ki (mC (.int 7919)) (af 1)) (mC (.int 11))))
 (aQ (Ax (mB (ay Bg (af 1) (qo zb (ae (qo q_ (ae (af 0) b_)) (ae (mC (.int 63)) b_))))) (aV 2 (ay bc (af 0) (af 1))) (Ax (mB (ay Bh (qo q_ (ae (af 0) b_)) (mC (.int 0)))) (aV 2 (ay jj (ay n4 (ay bc (af 0) (ay n4 (af 1) (qo zb (ae (qo q_ (ae (af 0) b_)) (ae (mC (.int 63)) b_))))) (ay rk (mC (.int 10)) (mC (.int 15)))) (ay ki (mC (.int 48271)) (af 1)))) n7))
 (aQ (Ax (mB (ay AV (qo Ao (ae (af 2) b_)) (ay rk (mC (.int 10)) (mC (.int 18))))) (bO (fV (ae (mC (.int 1)) (ae (qo Ao (ae (af 2) b_)) (ae (mC (.int 0)) b_))))) n7)
 (bO (fV (ae (mC (.int 0)) (ae (ay jj (ay n4 (af 2) (mC (.int 2147483587))) (ay ki (mC (.int 40009)) (af 1))) (ae (mC (.int 0)) b_))))))))
def jD:QL->MH->QX:=cr 3 2 x_
def vv:nr:=(aQ (kZ (ay jj (ay bc (af 0) (mC (.int 2))) (mC (.int 1))) (Bs (af 0) (mC (.int 2))))
 (aQ (Ax (mB (ay Am (ay bc (af 0) (mC (.int 0))) (mC (.int 1)))) (aQ (aV 3 (ay n4 (ay bc (af 0) (mC (.int 1))) (af 1)))
 (aQ (kZ (ay AH (ay bc (af 0) (mC (.int 1))) (af 1)) (Bs (af 0) (mC (.int 1))))
 (bO (af 3)))) n7)
 (aQ (aV 2 (ay n4 (ay ki (ay jj (ay jj (ay bc (af 0) (mC (.int 1))) (ay ki (mC (.int 40503)) (ay bc (af 0) (mC (.int 2))))) (mC (.int 1))) (mC (.int 48271))) (mC (.int 2147483647))))
 (aQ (aV 2 (ay n4 (ay ki (af 2) (ay jj (ay jj (ay n4 (af 2) (mC (.int 65521))) (ay bc (af 0) (mC (.int 2)))) (mC (.int 3)))) (mC (.int 2147483629))))
 (bO (ay n4 (ay AH (ay n4 (ay ki (af 2) (ay jj (ay n4 (af 2) (mC (.int 8191))) (mC (.int 7)))) (mC (.int 2147483563))) (mC (.int 64))) (af 1)))))))
def cM:QL->MH->QX:=cr 4 2 vv
end
end Law
namespace Law
open MM PU
open L2 (vf pz fW)
set_option maxHeartbeats 4000000
noncomputable section
def jN:Xd []:=(aZ (iN (vu (bQ ["int"]) (ac 0)) (nW (vu (bQ ["bool"]) (ac 0)))))
def dg:Fn:=bM 1 1 jN
abbrev Kq:Xt []:=xB (ag Al (ac 1) (xC (.int 0)))
abbrev Kr:Xd []:=(aM (bn 2 (ag oW (ac 0) (ac 1))) (aM (bn 0 (ac 1)) (bn 1 (ac 2))))
def bV:Xd []:=(aM (Jv 2000000 Kq Kr rR)
 (aZ (ac 0)))
def bW:Fn:=bM 3 2 bV
def ld{a:QQ}{s:d_}(h:a.length=2):bW.p a s=(bV.p (m_ 3 a) s).fin:=bj h
def eB:Xd []:=(aM (xg (AR (du (xB (ao dg (aa (ac 0) a_)))) (du (xB (ao dg (aa (ac 1) a_))))) sF ln)
 (aM (xg (xB (ag Ay (ac 1) (xC (.int 0)))) sF ln)
 (aM (bn 2 (ao bW (aa (qr oB (aa (ac 0) a_)) (aa (qr oB (aa (ac 1) a_)) a_))))
 (aM (xg (xB (ag FX (ac 1) (xC (.int 0)))) (bn 2 (vu mT (ac 2))) ln)
 (aZ (bE (aa (ag Co (ac 0) (ac 2)) (aa (ag Co (ac 1) (ac 2)) a_))))))))
def bB:Fn:=bM 3 2 eB
def sZ{a:QQ}{s:d_}(h:a.length=2):bB.p a s=(eB.p (m_ 3 a) s).fin:=bj h
def kO:Xd []:=(aZ (ao bB (aa (ag dJ (ag br (ag l7 (ac 0) (xC (.int 0))) (ag l7 (ac 1) (xC (.int 1)))) (ag br (ag l7 (ac 1) (xC (.int 0))) (ag l7 (ac 0) (xC (.int 1))))) (aa (ag br (ag l7 (ac 0) (xC (.int 1))) (ag l7 (ac 1) (xC (.int 1)))) a_))))
def fu:Fn:=bM 2 2 kO
def CQ{a:QQ}{s:d_}(h:a.length=2):fu.p a s=(kO.p (m_ 2 a) s).fin:=bj h
def ju:Xd []:=(aZ (ao bB (aa (ag km (ag br (ag l7 (ac 0) (xC (.int 0))) (ag l7 (ac 1) (xC (.int 1)))) (ag br (ag l7 (ac 1) (xC (.int 0))) (ag l7 (ac 0) (xC (.int 1))))) (aa (ag br (ag l7 (ac 0) (xC (.int 1))) (ag l7 (ac 1) (xC (.int 1)))) a_))))
def eV:Fn:=bM 2 2 ju
def zt{a:QQ}{s:d_}(h:a.length=2):eV.p a s=(ju.p (m_ 2 a) s).fin:=bj h
def jm:Xd []:=(aZ (ao bB (aa (ag br (ag l7 (ac 0) (xC (.int 0))) (ag l7 (ac 1) (xC (.int 0)))) (aa (ag br (ag l7 (ac 0) (xC (.int 1))) (ag l7 (ac 1) (xC (.int 1)))) a_))))
def cC:Fn:=bM 2 2 jm
def yM{a:QQ}{s:d_}(h:a.length=2):cC.p a s=(jm.p (m_ 2 a) s).fin:=bj h
def kL:Xd []:=(aZ (ao bB (aa (ag br (ag l7 (ac 0) (xC (.int 0))) (ag l7 (ac 1) (xC (.int 1)))) (aa (ag br (ag l7 (ac 0) (xC (.int 1))) (ag l7 (ac 1) (xC (.int 0)))) a_))))
def fG:Fn:=bM 2 2 kL
def CT{a:QQ}{s:d_}(h:a.length=2):fG.p a s=(kL.p (m_ 2 a) s).fin:=bj h
def fH:Xd []:=(aZ (iN (ao dg (aa (ac 1) a_)) (nz M7 FX (xC (.int 0)) (ac 1) (ac 0))))
def dU:Fn:=bM 2 2 fH
def tR{a:QQ}{s:d_}(h:a.length=2):dU.p a s=(fH.p (m_ 2 a) s).fin:=bj h
def fO:Xd []:=(aM (xg (du (xB (vu (bQ ["list"]) (ac 1)))) (aZ (xC (.bl T))) ln)
 (aM (xg (du (xB (qr oM (aa (bx 1 [0] (bT (ac 1)) (ws':=[]) (i0 0) pu (ao dU (aa (ag l7 (ac 1) (xC (.int 0))) (aa (ac 0) a_)))) a_)))) (aZ (xC (.bl T))) ln)
 (aZ (ag Ay (qr fb (aa (ac 1) a_)) (qr LA (aa (ag l7 (ac 0) (xC (.int 0))) a_))))))
def fK:Fn:=bM 2 2 fO
def tJ{a:QQ}{s:d_}(h:a.length=2):fK.p a s=(fO.p (m_ 2 a) s).fin:=bj h
def dA:Xd []:=(xg (du (xB (ao fK (aa (ac 0) (aa (ac 1) a_))))) sF ln)
def dz:Fn:=bM 2 2 dA
def pF{a:QQ}{s:d_}(h:a.length=2):dz.p a s=(dA.p (m_ 2 a) s).fin:=bj h
abbrev N0:Xd [0]:=(lx 0 (ac 3) (ao fu (aa (AS (ac 0) (aa (ac 3) (aa (zV 0 1) a_))) (aa (ao cC (aa (ac 1) (aa (ac 4) a_))) a_))))
def cb:Xd [0]:=(dG (bT (ac 2)) (tx (lR (i0 3) (lR (i0 4) ts)) 2) N0)
def i8:QL->MH->QX:=cr 5 3 cb.m
def fL:Xd []:=(aZ (qr cW (aa (bx 1 [0] (bT (ac 1)) (ws':=[]) (i0 0) (xB (ag Al (AS (ac 1) (aa (ac 0) (aa (zV 0 1) a_))) (zV 0 1))) (bE (aa (ac 0) (aa (ag lu (ac 1) (ac 0)) a_)))) a_)))
def fy:Fn:=bM 2 2 fL
def tL{a:QQ}{s:d_}(h:a.length=2):fy.p a s=(fL.p (m_ 2 a) s).fin:=bj h
def ff:Xd []:=(aM (bn 3 (AS (ag l7 (ac 0) (ac 1)) (aa (ac 1) (aa (zV 0 1) a_))))
 (aM (xg (xB (ag Ay (ac 3) (zV 0 1))) (lI "NoPivot" "the pivot of the place " " is nought" (aa (ac 1) a_)) ln)
 (aM (bn 4 (bx 1 [3,1,0] (bT (ac 2)) (ws':=[]) (i0 0) (xB (ag Al (AS (ag l7 (ac 3) (ac 0)) (aa (ac 2) (aa (zV 0 1) a_))) (zV 0 1))) (bE (aa (ac 0) (aa (ao fG (aa (ag lu (ag l7 (ac 3) (ac 0)) (ac 2)) (aa (ac 1) a_))) a_)))))
 (aZ (bE (aa (ac 1) (aa (ac 3) (aa (ao fy (aa (ag l7 (ac 0) (ac 1)) (aa (ac 2) a_))) (aa (qr cW (aa (ac 4) a_)) a_)))))))))
def eW:Fn:=bM 5 3 ff
def nQ{a:QQ}{s:d_}(h:a.length=3):eW.p a s=(ff.p (m_ 5 a) s).fin:=bj h
def gU:Xe []:=(FS (xB (ag (Cz T) (ac 6) (ac 2))) (ag lu (ac 2) (ac 6)) (ao eW (aa (ac 3) (aa (ac 6) (aa (qr fb (aa (By (ac 1) (Bx (ag dJ (ac 5) (xC (.int 1)))) Bw) a_)) a_)))) I)
def qP:Xt []:=(xB (ag (Cz I) (ac 8) (ac 2)))
def lU:Xe []:=(ao eV (aa (zV 0 1) (aa (ac 9) a_)))
def HI:nr:=Ax qP.m (fM (ba i8 (ae (ay bc (af 3) (af 8)) (ae lU.m (ae (ay bc (af 7) (mC (.int 2))) b_))))) n7
def CU:nr:=aQ (aV 7 gU.m) (aQ (je (c9 (ay bc (af 7) (mC (.int 3)))) (wy (qb (mA 8) (qb (mA 9) wv)) 2) HI) (fM (AW cV (af 4) (ae (af 7) b_))))
def pf:nr:=aQ (aV 3 (bI 1 [] (c9 (ay bc (af 0) (mC (.int 1)))) (mA 0) nw (qo v_ (ae (af 0) b_))))
 (aQ (aV 4 (fV b_))
 (aQ (je (my (ae (af 1) b_)) (wy (qb (mA 5) (qb (mA 6) wv)) 2) CU)
 (bO (af 4))))
def cz:QL->MH->QX:=cr 10 3 pf
def gI(rd:List Rd)(sh a j:D)(k v st i f:QB):aw:=[J sh,J a,J j,J (cR rd),Y,k,v,st,i,f]
def lM(rd:List Rd)(n:Nat)(g f:D)(s:d_):Option (List Rd×d_):=match rd[n]? with
 |some r=>(match cb.p (m_ 5 [dl r.1 r.2,g,f]) s with
  |.nx a l=>(match a[0]? with
   |some (J (D.dic T j i))=>if c_ i=I/\flat g=I/\flat f=I then J (rd.set n (J j,i),l)else Y
   |_=>Y)
  |_=>Y)
 |none=>Y
def jb(sh a l:D)(k v:QB)(st B:D):QQ->List Rd->QB->QB->d_->Option (List Rd×QB×QB×d_)
 |[],rd,i,f,s=>J (rd,i,f,s)
 |.tup [.int j,u]::r,rd,_,_,s=>(match qP.p (gI rd sh a l k v (J st) (J (.int j)) (J u)) s with
  |.ok I y=>(match lU.p (gI rd sh a l k v (J st) (J (.int j)) (J u)) y,vf rd.length j with
   |.ok g C,J n=>(match lM rd n g B C with
    |some (z,E)=>jb sh a l k v st B r z (J (.int j)) (J u) E
    |none=>Y)
   |_,_=>Y)
  |.ok T y=>jb sh a l k v st B r rd (J (.int j)) (J u) y
  |_=>Y)
 |_,_,_,_,_=>Y
def fD(sh u C:D):QQ->List Rd->QQ->QB->QB->QB->d_->PR (QQ)
 |[],_,l,_,_,_,s=>.ok l s
 |.tup [F,B]::r,rd,l,st,i,f,s=>(match gU.p (gI rd sh u C (J F) (J B) st i f) s with
  |.ok (.tup [x,y,j,.tup a]) z=>if flat (.tup [x,y,j,.tup a])=I/\l.length<1000/\flat F=I/\flat B=I then (match jb sh u C (J F) (J B) (.tup [x,y,j,.tup a]) j a rd i f z with
   |some (E,L,H,G)=>fD sh u C r E (l++[.tup [x,y,j,.tup a]]) (J (.tup [x,y,j,.tup a])) L H G
   |none=>.bad)else .bad
  |.exc c z=>.exc c z
  |_=>.bad)
 |_,_,_,_,_,_,_=>.bad
def iI:QQ->Option (List Rd)
 |[]=>J []
 |d::r=>(match JJ d,iI r with
  |some a,J t=>if c_ (a.map (·.2))=I then J ((J (a.map (·.1)),a.map (·.2))::t)else Y
  |_,_=>Y)
def LM(l:QQ)(s:d_):PR D:=match l with
 |[.tup [n,.tup rows],.lst f,i]=>(match iI rows with
  |some rd=>if rows.length<900 then (match fD (.tup [n,.tup rows]) (.lst f) i (bz f) rd [] Y Y Y s with
   |.ok j a=>.ok (.lst j) a
   |.exc c a=>.exc c a
   |.bad=>.bad)else .bad
  |none=>.bad)
 |_=>.bad
structure SwI(q:Nat)(h0 h:MH)(s:d_)(a:Nat)(ms:QP)(rd:List Rd)(w:Nat)(wk:QQ):Prop where
 len:h0.length<=h.length
 mv:∀n:Nat,n<h0.length->n≠q->h[n]?=h0[n]?
 pen:aW h q s
 gr:Gr h h0.length a ms rd
 wx:∃xs,h[w]?=J (.lst xs)/\Rps 0 [] [] wk xs
 wf:c_ wk=I
 wge:h0.length<=w
 wno:w∉a::ms
def OR(d:QB)(v:QE):Prop:=∀x,d=J x->flat x=I/\∃y,v=J y/\Rp 0 [] [] x y
section
variable{q:Nat}{h0 h h':MH}{s s':d_}{a:Nat}{ms:QP}{rd:List Rd}{w:Nat}{wk:QQ}{O:QP}{sh od kn:D}{v0 v1 v2:PV}{dk dv dst di df:QB}{ck cv cst ci cf:QE}
def SwI.kb(f:SwI q h0 h s a ms rd w wk)(y:q<h0.length)(k:KB q h h')(pn:aW h' q s'):SwI q h0 h' s' a ms rd w wk:=by obtain⟨xs,e,r⟩:=f.wx;have l:=f.len;refine⟨qs f.len k.len,λn u j=>(k.keep n (by ext) j).trans (f.mv n u j),pn,f.gr.keep λm i=>k.keep m (f.gr.lt m i) (by have:=f.gr.ge m i;ext),⟨xs,(k.keep w (au e) (by have:=f.wge;ext)).trans e,r⟩,f.wf,f.wge,f.wno⟩
def qI(j:SwI q h0 h s a ms rd w wk)(bd:∀o∈O,o<h0.length)(E:q∈O)(r:Rps q h0 O [sh,od,kn] [v0,v1,v2])(L:OR dk ck)(R:OR dv cv)(P:OR dst cst)(M:OR di ci)(H:OR df cf):
  PU.Cx q h h.length O O [] [J v0,J v1,J v2,J (.loc a),J (.loc w),ck,cv,cst,ci,cf] (gI rd sh od kn dk dv dst di df) s:=by
 have l:=j.len;have mv:Mv O h0 O h:=⟨λn F C=>j.mv n F λz=>C (z▸E),λo u=>.inl u⟩;have B:=r.mv mv;have one:∀{x:QB}{y:QE}{d:D},OR x y->x=J d->∃v,J y=J (J v)/\Rp q h O d v:=λ{x y d} o e=>by
  obtain⟨f,v,e2,r⟩:=o d e;exact⟨v,by rw[e2],Rp.fq f r⟩
 refine⟨λo u=>by have:=bd o u;ext,λo u=>u,λo u=>by have:=bd o u;ext,E,mu _,j.pen,rfl,λi d e _=>?_,λi d e Q=>by cases Q⟩
 match i,e with
 |0,e=>cases e;obtain⟨v,e,q⟩:=B.get (i:=0) rfl;cases e;exact⟨_,rfl,q⟩
 |1,e=>cases e;obtain⟨v,e,q⟩:=B.get (i:=1) rfl;cases e;exact⟨_,rfl,q⟩
 |2,e=>cases e;obtain⟨v,e,q⟩:=B.get (i:=2) rfl;cases e;exact⟨_,rfl,q⟩
 |3,e=>cases e;exact⟨_,rfl,j.gr.rp λm G C=>by have:=j.gr.ge m G;have:=bd m C;ext⟩
 |5,e=>exact one L (by injection e)
 |6,e=>exact one R (by injection e)
 |7,e=>exact one P (by injection e)
 |8,e=>exact one M (by injection e)
 |9,e=>exact one H (by injection e)
def GA:∀Z h,Kp 0 (cb.m Z h) Z:=by
 have L:∀v Z h,Kp 0 (wy (qb (mA 3) (qb (mA 4) wv)) 2 v Z h) Z:=λv Z h=>by
  unfold wy;split
  .rename_i xs
   split
   .match xs with
    |x::y::r =>
     show Kp 0 (wv r ((Z.set 3 (J x)).set 4 (J y)) h) Z;unfold wv;split
     .show _=_;rw[p6 (by decide),p6 (by decide)]
     .trivial
   .trivial
  .trivial
 have P:∀{mo E mv:Mx PV} Z h,Kp 0 (jU mo E mv Z h) Z:=λ{mo E mv} Z h=>by
  simp only[jU,vC]
  repeat' split
  all_goals first | trivial | rfl
 intro Z h;show Kp 0 (je _ _ _ Z h) Z;unfold je vC;split
 .rename_i F f _
  have:∀(xs:QL) i f,i[0]?=Z[0]?->Kp 0 (vr F (wy (qb (mA 3) (qb (mA 4) wv)) 2) (lx (ws:=[0]) 0 (ac 3) (ao fu (aa (AS (ac 0) (aa (ac 3) (aa (zV 0 1) a_))) (aa (ao cC (aa (ac 1) (aa (ac 4) a_))) a_)))).m xs i f) Z:=λxs=>by
   induction xs with
   |nil =>
    intro i f e;unfold vr;split
    .exact e
    .trivial
   |cons x r G =>
    intro i f e;unfold vr;split
    .have k:=L x i f
     cases M:wy (qb (mA 3) (qb (mA 4) wv)) 2 x i f with
     |nx u C =>
      rw[M]at k;have z:=@P (af 0) (af 3) ((ao fu (aa (AS (ac 0) (aa (ac 3) (aa (zV 0 1) a_))) (aa (ao cC (aa (ac 1) (aa (ac 4) a_))) a_)):Xe [0]).m) u C;dsimp only;generalize H:(lx (ws:=[0]) 0 (ac 3) (ao fu (aa (AS (ac 0) (aa (ac 3) (aa (zV 0 1) a_))) (aa (ao cC (aa (ac 1) (aa (ac 4) a_))) a_)))).m u C=o;have B:jU (af 0) (af 3) (ao fu (aa (AS (ac 0) (aa (ac 3) (aa (zV 0 1) a_))) (aa (ao cC (aa (ac 1) (aa (ac 4) a_))) a_)):Xe [0]).m u C=o:=H;rw[B]at z;have k:u[0]?=i[0]?:=k
      cases o with
      |nx l j=>exact G l j (z.trans (k.trans e))
      |ct l j=>exact G l j (z.trans (k.trans e))
      |bk l j=>exact z.trans (k.trans e)
      |_=>trivial
     |_=>trivial
    .trivial
  exact this F.xs Z f rfl
 all_goals trivial
def zR{n m:Nat}{g C:D}{M pv:PV}{l:List Rd}(f:SwI q h0 h s a ms rd w wk)(bd:∀o∈O,o<h0.length)(L:q∈O)(em:ms[n]?=J m)(X:Rp 0 [] [] g M)(rp:Rp 0 [] [] C pv)(e:lM rd n g C s=J (l,s')):
  ∃h',i8 [.loc m,M,pv] h=.ok .non h'/\SwI q h0 h' s' a ms l w wk:=by
 unfold lM at e
 split at e
 .rename_i r er
  split at e
  .rename_i G s1 Z
   split at e
   .rename_i S ds e0
    split at e
    .rename_i fl
     obtain⟨fd,U,fp⟩:=fl;cases e;obtain⟨fr,m',xs,i,R,Q⟩:=f.gr.row n r er;rw[em]at i;cases i;have E:=p5 a (Ab em);have ak:=f.gr.ge m E;obtain⟨h',e1,l1,kp,pn,O',ab,y,B⟩:=zY (np:=3) (k':=J S) (ds':=ds) (as:=[g,C]) (λo P=>by have:=bd o P;ext) L f.pen R fr Q (by simp[c_,U,fp]) ⟨_,_,rfl,X,_,_,rfl,rp,rfl⟩ rfl (by decide) GA Z e0;have ai:=bd q L;refine⟨h',e1,qs f.len l1,λj u H=>(kp j (by have:=f.len;ext) (by ext) H).trans (f.mv j u H),pn,f.gr.put em fd y (Rps.fq fd B) λj u ne=>kp j (f.gr.lt j u) ne (by have:=f.gr.ge j u;ext),?_,f.wf,f.wge,f.wno⟩;obtain⟨W,F,rw'⟩:=f.wx;exact⟨W,(kp w (au F) (λz=>f.wno (z▸E)) (by have:=f.wge;ext)).trans F,rw'⟩
    .cases e
   .cases e
  .cases e
 .cases e
def zr{st l c:D}{i:QQ}{z:List Rd×QB×QB×d_}(e:jb sh od kn dk dv st l (c::i) rd di df s=J z):∃j x,c=.tup [.int j,x]:=by
 unfold jb at e
 split at e
 .rename_i f;cases f
 .rename_i f;cases f;exact⟨_,_,rfl⟩
 .cases e
def lA{st ps:D}{i:QL}{pv:PV}{X:List Rd}{U R:QB}{it:MIt}(C:∀h,it.ok h)(bd:∀o∈O,o<h0.length)(M:q∈O)(r:Rps q h0 O [sh,od,kn] [v0,v1,v2])(Z:OR dk ck)(k2:OR dv cv)(F:flat st=I)(G:Rp 0 [] [] st (.tup i))(u2:pz i 2=J pv)(rp:Rp 0 [] [] ps pv):
  ∀(P:QQ)(xs:QL)(rd:List Rd)(di df:QB)(ci cf:QE)(h:MH)(s:d_),c_ P=I->Rps 0 [] [] P xs->OR di ci->OR df cf->SwI q h0 h s a ms rd w wk->jb sh od kn dk dv st ps P rd di df s=J (X,U,R,s') ->
  ∃h' u l,vr it (wy (qb (mA 8) (qb (mA 9) wv)) 2) HI xs [J v0,J v1,J v2,J (.loc a),J (.loc w),ck,cv,J (.tup i),ci,cf] h=.nx [J v0,J v1,J v2,J (.loc a),J (.loc w),ck,cv,J (.tup i),u,l] h'/\SwI q h0 h' s' a ms X w wk/\OR U u/\OR R l
 |[],xs,rd,di,df,ci,cf,h,s,fc,rx,k4,k5,f,e=>by
  cases e;rw[show xs=[]from rx];exact⟨h,ci,cf,jv (C h),f,k4,k5⟩
 |c::P,xs,rd,di,df,ci,cf,h,s,fc,rx,k4,k5,f,e=>by
  have H:=bd q M;simp only[c_,Av]at fc;obtain⟨j,x,rfl⟩:=zr e;unfold jb at e
  .obtain⟨vx,xr,rfl,aF,rr⟩:=rx;obtain⟨ys,rfl,ry⟩:=aF;obtain⟨y1,yr,rfl,al,y,ab,rfl,ak,W⟩:=ry;rw[show ab=[]from W];rw[show y1=PV.int j from al];have fx:flat x=I:=by simpa [flat,c_]using fc.1
   have o4:OR (J (.int j)) (J (.int j)):=λz S=>by cases S;exact⟨rfl,_,rfl,rfl⟩
   have o5:OR (J x) (J y):=λz S=>by cases S;exact⟨fx,_,rfl,ak⟩
   have o3:OR (J st) (J (.tup i)):=λz S=>by cases S;exact⟨F,_,rfl,G⟩
   have c1:=qI f bd M r Z k2 o3 o4 o5;have kc:=qP.ok c1;rw[fR (C h) (show wy (qb (mA 8) (qb (mA 9) wv)) 2 (.tup [.int j,y]) [J v0,J v1,J v2,J (.loc a),J (.loc w),ck,cv,J (.tup i),ci,cf] h=.nx [J v0,J v1,J v2,J (.loc a),J (.loc w),ck,cv,J (.tup i),J (.int j),J y] h from rfl)]
   split at e
   .rename_i s1 ec
    rw[ec]at kc;obtain⟨b,L,em,kb,pn,rfl⟩:=kc;have Q:=f.kb H kb pn
    split at e
    .rename_i gg s2 n eg en
     split at e
     .rename_i ap s3 B
      have c2:=qI Q bd M r Z k2 o3 o4 o5;have kg:=lU.ok c2;rw[eg]at kg;obtain⟨gv,h2,an,a0,as,_,rz,_⟩:=kg;have I2:=Q.kb H a0 as;have fg:flat gg=I:=by
       unfold lM at B
       split at B
       .split at B
        .split at B
         .split at B
          .rename_i z;exact z.2.1
          .cases B
         .cases B
        .cases B
       .cases B
      have nl:n<rd.length:=by exact(L2.oQ en).2.1
      obtain⟨m,hm⟩:∃m,ms[n]?=J m:=⟨ms[n]'(by rw[f.gr.len];exact nl),vE _⟩;obtain⟨h3,e3,I3⟩:=zR I2 bd M hm (Rp.fq fg (rz rfl)) rp B;obtain⟨h4,u,l,e4,I4,q4,q5⟩:=lA C bd M r Z k2 F G u2 rp P xr ap _ _ _ _ h3 s3 fc.2 rr o4 o5 I3 e;refine⟨h4,u,l,?_,I4,q4,q5⟩;have ai:pz (ms.map PV.loc) j=J (.loc m):=by unfold pz;rw[v4,f.gr.len,en,Hh,u_,hm];rfl
      have E:HI [J v0,J v1,J v2,J (.loc a),J (.loc w),ck,cv,J (.tup i),J (.int j),J y] h=.nx [J v0,J v1,J v2,J (.loc a),J (.loc w),ck,cv,J (.tup i),J (.int j),J y] h3:=by
       have ar:ae (ay bc (af 3) (af 8)) (ae lU.m (ae (ay bc (af 7) (mC (.int 2))) b_)) [J v0,J v1,J v2,J (.loc a),J (.loc w),ck,cv,J (.tup i),J (.int j),J y] L=.ok [.loc m,gv,pv] h2:=by
        have b1:ay bc (af 3) (af 8) [J v0,J v1,J v2,J (.loc a),J (.loc w),ck,cv,J (.tup i),J (.int j),J y] L=.ok (.loc m) L:=by simp[f6 Q.gr.top,ai]
        have b2:ay bc (af 7) (mC (.int 2)) [J v0,J v1,J v2,J (.loc a),J (.loc w),ck,cv,J (.tup i),J (.int j),J y] h2=.ok pv h2:=by simp[u2]
        rw[cO,b1,Out.bind_ok,cO,an,Out.bind_ok,cO,b2];rfl
       unfold HI;rw[wN,em,aB,e_ rfl,iu,zw,ar,Out.bind_ok,e3];rfl
      rw[E];exact e4
     .cases e
    .cases e
   .rename_i s1 ec
    rw[ec]at kc;obtain⟨b,L,em,kb,pn,rfl⟩:=kc;have Q:=f.kb H kb pn;obtain⟨h4,u,l,e4,I4,q4,q5⟩:=lA C bd M r Z k2 F G u2 rp P xr rd _ _ _ _ L s1 fc.2 rr o4 o5 Q e;refine⟨h4,u,l,?_,I4,q4,q5⟩;have E:HI [J v0,J v1,J v2,J (.loc a),J (.loc w),ck,cv,J (.tup i),J (.int j),J y] h=.nx [J v0,J v1,J v2,J (.loc a),J (.loc w),ck,cv,J (.tup i),J (.int j),J y] L:=by unfold HI;rw[wN,em,aB];rfl
    rw[E];exact e4
   .cases e
def jH:∀{wk:QQ}{d:D},c_ wk=I->flat d=I->c_ (wk++[d])=I
 |[],d,_,f=>by simp[c_,f]
 |x::wk,d,g,f=>by
  simp only[c_,Av,L9]at g ⊢;exact⟨g.1,jH g.2 f⟩
def td{c:D}{i wk:QQ}(e:fD sh od kn (c::i) rd wk dst di df s≠.bad):∃x y,c=.tup [x,y]:=by
 unfold fD at e
 split at e
 .rename_i f;cases f
 .rename_i f;cases f;exact⟨_,_,rfl⟩
 .exact absurd rfl e
def tS{it:MIt}{wk':QQ}(F:∀h s rd wk,SwI q h0 h s a ms rd w wk->it.ok h)(bd:∀o∈O,o<h0.length)(hq:q∈O)(r:Rps q h0 O [sh,od,kn] [v0,v1,v2]):
  ∀(ds:QQ)(xs:QL)(rd:List Rd)(wk:QQ)(dst di df:QB)(ck cv cst ci cf:QE)(h:MH)(s:d_),c_ ds=I->Rps 0 [] [] ds xs->OR dst cst->OR di ci->OR df cf->SwI q h0 h s a ms rd w wk->fD sh od kn ds rd wk dst di df s=.ok wk' s' ->
  ∃h' a7 ar aF Z L E,vr it (wy (qb (mA 5) (qb (mA 6) wv)) 2) CU xs [J v0,J v1,J v2,J (.loc a),J (.loc w),ck,cv,cst,ci,cf] h=.nx [J v0,J v1,J v2,J (.loc a),J (.loc w),ar,aF,Z,L,E] h'/\SwI q h0 h' s' a ms a7 w wk'
 |[],xs,rd,wk,dst,di,df,ck,cv,cst,ci,cf,h,s,fd,rx,k3,k4,k5,i,e=>by
  cases e;rw[show xs=[]from rx];exact⟨h,rd,ck,cv,cst,ci,cf,jv (F h _ _ _ i),i⟩
 |c::cs,xs,rd,wk,dst,di,df,ck,cv,cst,ci,cf,h,s,fd,rx,k3,k4,k5,i,e=>by
  have a3:=bd q hq;simp only[c_,Av]at fd;obtain⟨dk,dv,rfl⟩:=td (by rw[e];exact λz=>nomatch z);unfold fD at e;obtain⟨vx,xr,rfl,a6,rr⟩:=rx;obtain⟨ys,rfl,ry⟩:=a6;obtain⟨G,yr,rfl,an,H,ab,rfl,ak,X⟩:=ry;rw[show ab=[]from X];have fk:flat dk=I/\flat dv=I:=by simpa [flat,c_]using fd.1
  have o1:OR (J dk) (J G):=λz W=>by cases W;exact⟨fk.1,_,rfl,an⟩
  have o2:OR (J dv) (J H):=λz W=>by cases W;exact⟨fk.2,_,rfl,ak⟩
  have c1:=qI i bd hq r o1 o2 k3 k4 k5;have ke:=gU.ok c1;rw[fR (F h _ _ _ i) (show wy (qb (mA 5) (qb (mA 6) wv)) 2 (.tup [G,H]) [J v0,J v1,J v2,J (.loc a),J (.loc w),ck,cv,cst,ci,cf] h=.nx [J v0,J v1,J v2,J (.loc a),J (.loc w),J G,J H,cst,ci,cf] h from rfl)]
  split at e
  .rename_i x y ps l s1 ee
   rw[ee]at ke;obtain⟨v,h1,em,kb,pn,_,rz,_⟩:=ke;have I1:=i.kb a3 kb pn
   split at e
   .rename_i a4
    obtain⟨S,wl,_,_⟩:=a4
    split at e
    .rename_i U i2 f2 s2 ei
     have rv:Rp 0 [] [] (.tup [x,y,ps,.tup l]) v:=Rp.fq S (rz rfl);have ai:flat x=I/\flat y=I/\flat ps=I/\c_ l=I:=by simpa [flat,c_]using S
     have C:=rv;obtain⟨us,rfl,ru⟩:=rv;obtain⟨P,t1,rfl,b1,R,t2,rfl,bm,M,t3,rfl,a2,u4,t4,rfl,ap,as⟩:=ru;rw[show t4=[]from as]at C em;obtain⟨f,rfl,r4⟩:=ap;obtain⟨h2,L,E,e2,B,q4,q5⟩:=lA (it:=⟨f,[]⟩) (λ_=>d7.mpr trivial) bd hq r o1 o2 S C (pv:=M) rfl a2 l f rd _ _ _ _ h1 s1 ai.2.2.2 r4 k4 k5 I1 ei;obtain⟨u,ew,rw'⟩:=B.wx;have b0:u.length=wk.length:=rw'.length;have a9:=au ew;have I3:SwI q h0 (h2.set w (.lst (u++[.tup [P,R,M,.tup f]]))) s2 a ms U w (wk++[.tup [x,y,ps,.tup l]]):=by
      have wge:=B.wge;refine⟨by rw[K3];exact B.len,λj hj nq=>(p6 (by ext)).trans (B.mv j hj nq),?_,B.gr.keep λj hj=>p6 λz=>B.wno (by rw[z];exact hj),⟨_,zO a9,rw'.app ⟨_,_,rfl,C,rfl⟩⟩,?_,wge,B.wno⟩
      .have:=B.pen
       unfold aW at this ⊢;rw[p6 (by ext)];exact this
      .exact jH B.wf S
     have o3:OR (J (.tup [x,y,ps,.tup l])) (J (.tup [P,R,M,.tup f])):=λz W=>by cases W;exact⟨S,_,rfl,C⟩
     obtain⟨h4,al,a8,a0,Q,a1,a5,e4,I4⟩:=tS F bd hq r cs xr U _ _ _ _ (J G) (J H) _ _ _ _ s2 fd.2 rr o3 q4 q5 I3 e;refine⟨h4,al,a8,a0,Q,a1,a5,?_,I4⟩;have b:CU [J v0,J v1,J v2,J (.loc a),J (.loc w),J G,J H,cst,ci,cf] h=.nx [J v0,J v1,J v2,J (.loc a),J (.loc w),J G,J H,J (.tup [P,R,M,.tup f]),L,E] (h2.set w (.lst (u++[.tup [P,R,M,.tup f]]))):=by unfold CU;rw[aS,fi,em,aB,MM.ax,aS,fP];have i3:c9 (ay bc (af 7) (mC (.int 3))) ([J v0,J v1,J v2,J (.loc a),J (.loc w),J G,J H,cst,ci,cf].set 7 (J (.tup [P,R,M,.tup f]))) h1=.ok ⟨f,[]⟩ h1:=rfl;rw[i3,aB];refine(congrArg (λz:SOut=>z.then _) e2).trans ?_;rw[MM.ax,iu,wD];simp only[om,nX,Out.bind_ok,cO,dW,ew,gS ew (show u.length<1000 by ext)];rfl
     rw[b];exact e4
    .cases e
   .cases e
  .cases e
  .cases e
def uy{it:MIt}{cx:Str}(M:∀h s rd wk,SwI q h0 h s a ms rd w wk->it.ok h)(bd:∀o∈O,o<h0.length)(Z:q∈O)(r:Rps q h0 O [sh,od,kn] [v0,v1,v2]):
  ∀(ds:QQ)(xs:QL)(rd:List Rd)(wk:QQ)(dst di df:QB)(ck cv cst ci cf:QE)(h:MH)(s:d_),c_ ds=I->Rps 0 [] [] ds xs->OR dst cst->OR di ci->OR df cf->SwI q h0 h s a ms rd w wk->fD sh od kn ds rd wk dst di df s=.exc cx s' ->
  ∃h' a5 a3 Z',vr it (wy (qb (mA 5) (qb (mA 6) wv)) 2) CU xs [J v0,J v1,J v2,J (.loc a),J (.loc w),ck,cv,cst,ci,cf] h=.exc ⟨cx,[]⟩ Z' h'/\SwI q h0 h' s' a ms a5 w a3
 |[],xs,rd,wk,dst,di,df,ck,cv,cst,ci,cf,h,s,fd,rx,k3,k4,k5,l,e=>by
  cases e
 |c::cs,xs,rd,wk,dst,di,df,ck,cv,cst,ci,cf,h,s,fd,rx,k3,k4,k5,l,e=>by
  have U:=bd q Z;simp only[c_,Av]at fd;obtain⟨dk,dv,rfl⟩:=td (by rw[e];exact λz=>nomatch z);unfold fD at e;obtain⟨vx,xr,rfl,a4,rr⟩:=rx;obtain⟨ys,rfl,ry⟩:=a4;obtain⟨B,yr,rfl,ar,C,ak,rfl,an,W⟩:=ry;rw[show ak=[]from W];have fk:flat dk=I/\flat dv=I:=by simpa [flat,c_]using fd.1
  have o1:OR (J dk) (J B):=λz S=>by cases S;exact⟨fk.1,_,rfl,ar⟩
  have o2:OR (J dv) (J C):=λz S=>by cases S;exact⟨fk.2,_,rfl,an⟩
  have c1:=qI l bd Z r o1 o2 k3 k4 k5;have X:=gU.ok c1;rw[fR (M h _ _ _ l) (show wy (qb (mA 5) (qb (mA 6) wv)) 2 (.tup [B,C]) [J v0,J v1,J v2,J (.loc a),J (.loc w),ck,cv,cst,ci,cf] h=.nx [J v0,J v1,J v2,J (.loc a),J (.loc w),J B,J C,cst,ci,cf] h from rfl)]
  split at e
  .rename_i x y ps i s1 ee
   rw[ee]at X;obtain⟨v,G,em,kb,pn,_,rz,_⟩:=X;have I1:=l.kb U kb pn
   split at e
   .rename_i a1
    obtain⟨Q,wl,_,_⟩:=a1
    split at e
    .rename_i R i2 f2 s2 ei
     have rv:Rp 0 [] [] (.tup [x,y,ps,.tup i]) v:=Rp.fq Q (rz rfl);have al:flat x=I/\flat y=I/\flat ps=I/\c_ i=I:=by simpa [flat,c_]using Q
     have F:=rv;obtain⟨us,rfl,ru⟩:=rv;obtain⟨L,t1,rfl,a9,P,t2,rfl,a7,H,t3,rfl,a0,u4,t4,rfl,as,aF⟩:=ru;rw[show t4=[]from aF]at F em;obtain⟨f,rfl,r4⟩:=as;obtain⟨h2,a2,ab,e2,E,q4,q5⟩:=lA (it:=⟨f,[]⟩) (λ_=>d7.mpr trivial) bd Z r o1 o2 Q F (pv:=H) rfl a0 i f rd _ _ _ _ G s1 al.2.2.2 r4 k4 k5 I1 ei;obtain⟨u,ew,rw'⟩:=E.wx;have a8:u.length=wk.length:=rw'.length;have a6:=au ew;have I3:SwI q h0 (h2.set w (.lst (u++[.tup [L,P,H,.tup f]]))) s2 a ms R w (wk++[.tup [x,y,ps,.tup i]]):=by
      have wge:=E.wge;refine⟨by rw[K3];exact E.len,λj hj nq=>(p6 (by ext)).trans (E.mv j hj nq),?_,E.gr.keep λj hj=>p6 λz=>E.wno (by rw[z];exact hj),⟨_,zO a6,rw'.app ⟨_,_,rfl,F,rfl⟩⟩,?_,wge,E.wno⟩
      .have:=E.pen
       unfold aW at this ⊢;rw[p6 (by ext)];exact this
      .exact jH E.wf Q
     have o3:OR (J (.tup [x,y,ps,.tup i])) (J (.tup [L,P,H,.tup f])):=λz S=>by cases S;exact⟨Q,_,rfl,F⟩
     obtain⟨h4,ap,ai,Z4,e4,I4⟩:=uy M bd Z r cs xr R _ _ _ _ (J B) (J C) _ _ _ _ s2 fd.2 rr o3 q4 q5 I3 e;refine⟨h4,ap,ai,Z4,?_,I4⟩;have b:CU [J v0,J v1,J v2,J (.loc a),J (.loc w),J B,J C,cst,ci,cf] h=.nx [J v0,J v1,J v2,J (.loc a),J (.loc w),J B,J C,J (.tup [L,P,H,.tup f]),a2,ab] (h2.set w (.lst (u++[.tup [L,P,H,.tup f]]))):=by unfold CU;rw[aS,fi,em,aB,MM.ax,aS,fP];have i3:c9 (ay bc (af 7) (mC (.int 3))) ([J v0,J v1,J v2,J (.loc a),J (.loc w),J B,J C,cst,ci,cf].set 7 (J (.tup [L,P,H,.tup f]))) G=.ok ⟨f,[]⟩ G:=rfl;rw[i3,aB];refine(congrArg (λz:SOut=>z.then _) e2).trans ?_;rw[MM.ax,iu,wD];simp only[om,nX,Out.bind_ok,cO,dW,ew,gS ew (show u.length<1000 by ext)];rfl
     rw[b];exact e4
    .cases e
   .cases e
  .rename_i c s1 ee
   cases e;rw[ee]at X;obtain⟨G,em,kb,pn⟩:=X;have b:CU [J v0,J v1,J v2,J (.loc a),J (.loc w),J B,J C,cst,ci,cf] h=.exc ⟨cx,[]⟩ [J v0,J v1,J v2,J (.loc a),J (.loc w),J B,J C,cst,ci,cf] G:=by unfold CU;rw[aS,fi,em];rfl
   rw[b];exact⟨G,rd,wk,_,rfl,l.kb U kb pn⟩
  .cases e
def uA{L:Nat}{r:Rd}{xs:QL}(g:Gr h L a ms rd)(hL:L<=h.length)(E:c_ r.2=I)(B:Rps 0 [] [] r.2 xs):Gr ((h++[mo r.1 xs]).set a (.lst (ms.map .loc++[.loc h.length]))) L a (ms++[h.length]) (rd++[r]):=by
 have F:=au g.top;have nd:=g.nd;have lt:=g.lt;rw[vL]at nd;refine⟨by rw[zO (by simp;ext),Ma];rfl,by simp[g.len],?_,λm j=>?_,λi x ex=>?_⟩
 .rw[<-L9,L0];refine⟨g.nd,by simp,λx u y C=>?_⟩
  have:=lt x u
  have:y=h.length:=by simpa using C
  ext
 .rw[<-L9]at j;rcases Dx.mp j with z|z
  .exact g.ge m z
  .have:m=h.length:=by simpa using z
   ext
 .have gl:=g.len;by_cases z:i<rd.length
  .rw[q7 z]at ex;obtain⟨f,m,ys,e1,e2,e3⟩:=g.row i x ex;have ne:a≠m:=λy=>nd.1 (y▸Ab e1);exact⟨f,m,ys,by rw[q7 (by ext)];exact e1,by rw[p6 ne,q7 (au e2)];exact e2,e3⟩
  .rw[AA (by ext)]at ex;have l:i-rd.length=0:=by
    have:=(qi.mp ex).1
    simp at this;ext
   rw[l]at ex;cases ex;refine⟨E,h.length,xs,?_,?_,B⟩
   .rw[AA (by ext),show i-ms.length=0 by ext];rfl
   .rw[p6 (by ext)];simp
def o8{it:MIt}(l:∀h,it.ok h):∀(rows:QQ)(f:QL)(rd i:List Rd)(ms:QP)(z:QE)(h:MH),iI rows=J rd->Rps q h0 O rows f->Gr h h0.length a ms i->h0.length<=h.length->(∀n:Nat,n<h0.length->h[n]?=h0[n]?)->ms.length+rows.length<1000 ->
  ∃h' u,zo it a (mA 0) nw (qo v_ (ae (af 0) b_)) f [z] h=.ok () h'/\Gr h' h0.length a u (i++rd)/\h0.length<=h'.length/\∀n:Nat,n<h0.length->h'[n]?=h0[n]?
 |[],f,rd,i,ms,z,h,e,r,g,hl,kp,B=>by
  cases e;rw[show f=[]from r,Hi];exact⟨h,ms,lT (l h),g,hl,kp⟩
 |d::rows,f,rd,i,ms,z,h,e,r,g,hl,kp,B=>by
  unfold iI at e
  split at e
  .rename_i j t ed P
   split at e
   .rename_i E
    cases e;obtain⟨v,S,rfl,Q,W⟩:=r;obtain⟨y,Z,X⟩:=F5 Q ed;obtain⟨L,H⟩:=ql X;have M:=uA g (r:=(J (j.map (·.1)),j.map (·.2))) (xs:=y.map (·.2)) hl E (Rps.fq E H);have U:=g.ge a (by simp);obtain⟨h',u,e',C,G,R⟩:=o8 l rows S t _ _ (J v) _ P W M (by simp;ext) (λn F=>by rw[p6 (by ext),q7 (by ext)];exact kp n F) (by simp at B ⊢;ext);refine⟨h',u,?_,by rw[KZ]at C;exact C,G,R⟩;have ef:v_ [v] h=.ok (.loc h.length) (h++[mo (J (j.map (·.1))) (y.map (·.2))]):=by simp only[v_,Z,L];rfl
    rw[lz (Z1:=[J v]) (h1:=h) (h2:=h) (v:=.loc h.length) (h3:=h++[mo (J (j.map (·.1))) (y.map (·.2))]) (ys:=ms.map .loc) (l h) rfl rfl (by simp[ef]) (by rw[q7 (au g.top)];exact g.top) (by simp at B ⊢;ext)];exact e'
   .cases e
  .cases e
end
def rL{q:Nat}{h:MH}{O:QP}{f:QQ}{xs:QL}(r:Rps q h O f xs):Rps q h O (bz f) (cH xs):=by
 refine sX (by simp[bz,cH,r.length]) λi d v e1 e2=>?_;unfold bz at e1;unfold cH at e2;rw[u_,KU]at e1 e2
 cases a:f[i]? with
 |none=>rw[a]at e1;cases e1
 |some x =>
  obtain⟨y,j,l⟩:=r.get a;rw[a]at e1;rw[j]at e2;simp at e1 e2;subst e1 e2;exact⟨_,rfl,_,_,rfl,rfl,_,_,rfl,l,rfl⟩
def gM{i:QQ}(f:c_ i=I):c_ (bz i)=I:=by
 have:∀(a:QQ),(∀d∈a,flat d=I)->c_ a=I:=λa=>by
  induction a with
  |nil=>intro;rfl
  |cons z a j=>intro h;simp only[c_,Av];exact⟨h z (by simp),j λd hd=>h d (p5 _ hd)⟩
 refine this _ λd hd=>?_;obtain⟨p,l,rfl⟩:=tf.mp hd
 have:=kF f (List.fst_mem_of_mem_zipIdx l)
 simp[flat,c_,this]
def kC:Fn where
 m:=cz
 p:=λds s=>match ds with
  |[sh,.lst od,kn]=>if c_ od=I then LM [sh,.lst od,kn] s else .bad
  |_=>.bad
 fr:=I
 ok {q h O vs ds s} bd hq pn r:=by
  split
  .rename_i sh od kn
   split
   .rename_i fo
    unfold LM;split
    .rename_i n rows a4 a1 al
     cases al;split
     .rename_i rd er
      split
      .rename_i lr
       split
       .rename_i wk s' eg
        have S:=r;obtain⟨v0,t0,rfl,Z,v1,t1,rfl,X,B,t2,rfl,an,M⟩:=r;rw[show t2=[]from M]at S ⊢;obtain⟨ys,rfl,ry⟩:=Z;obtain⟨C,u1,rfl,ai,y2,u2,rfl,H,W⟩:=ry;rw[show u2=[]from W]at S ⊢;obtain⟨f,rfl,rr⟩:=H;obtain⟨y,u,rfl,nO,F,ro⟩:=X;have P:q<h.length:=bd q hq;obtain⟨l,G,e1,R,l1,k1⟩:=o8 (q:=q) (h0:=h) (O:=O) (a:=h.length) (it:=⟨f,[]⟩) (λ_=>d7.mpr trivial) rows f rd [] [] Y (h++[.lst []]) er rr ⟨by simp,rfl,by simp,λm U=>by simp at U;ext,λi r e=>by simp at e⟩ (by simp) (λn M=>q7 M) (by simp;ext);have c3:aV 3 (bI 1 [] (c9 (ay bc (af 0) (mC (.int 1)))) (mA 0) nw (qo v_ (ae (af 0) b_))) [J (.tup [C,.tup f]),J (.loc y),J B,Y,Y,Y,Y,Y,Y,Y] h=.nx [J (.tup [C,.tup f]),J (.loc y),J B,J (.loc h.length),Y,Y,Y,Y,Y,Y] l:=by rw[fi,iF];have i1:c9 (ay bc (af 0) (mC (.int 1))) [J (.tup [C,.tup f]),J (.loc y),J B,Y,Y,Y,Y,Y,Y,Y] h=.ok ⟨f,[]⟩ h:=rfl;rw[i1,Out.bind_ok];refine(congrArg (λz:Out Unit=>(z.bind _).go _ _) e1).trans ?_;rfl
        have I0:SwI q h (l++[.lst []]) s h.length G rd l.length []:=by
         have l0:h.length<=l.length:=l1;refine⟨by simp;ext,λj Q nq=>by rw[q7 (by ext)];exact k1 j Q,?_,(by simpa using R:Gr l h.length h.length G rd).keep λm U=>q7 ((by simpa using R:Gr l h.length h.length G rd).lt m U),⟨[],by simp,rfl⟩,rfl,l0,λz=>?_⟩
         .unfold aW;rw[q7 (by ext),k1 q P];exact pn
         .have:=(by simpa using R:Gr l h.length h.length G rd).lt _ z
          ext
        obtain⟨h2,ap,a7,a0,aF,a2,a6,e2,E⟩:=tS (it:=⟨cH u,[(y,u)]⟩) (wk':=wk) (s':=s') (λh' s' as ar L=>by
         intro p hp
         have:p=(y,u):=by simpa using hp
         subst this
         exact(L.mv y (au F) λz=>nO (z▸hq)).trans F) bd hq S (bz od) (cH u) rd [] Y Y Y Y Y Y Y Y (l++[.lst []]) s (gM fo) (Rps.fq (gM fo) (rL ro)) (λ_ z=>by cases z) (λ_ z=>by cases z) (λ_ z=>by cases z) I0 eg
        obtain⟨ab,ew,rw'⟩:=E.wx;have wge:=E.wge;have run:cz [.tup [C,.tup f],.loc y,B] h=.ok (.loc l.length) h2:=by
         unfold cz;rw[d3 (by rfl)]
         unfold pf;rw[show bh 10 [.tup [C,.tup f],.loc y,B]=[J (.tup [C,.tup f]),J (.loc y),J B,Y,Y,Y,Y,Y,Y,Y]from rfl];rw[aS,c3,MM.ax,aS];have c4:aV 4 (fV b_) [J (.tup [C,.tup f]),J (.loc y),J B,J (.loc h.length),Y,Y,Y,Y,Y,Y] l=.nx [J (.tup [C,.tup f]),J (.loc y),J B,J (.loc h.length),J (.loc l.length),Y,Y,Y,Y,Y] (l++[.lst []]):=by rw[fi,uY,dW,Out.bind_ok,gR (by simp)];rfl
         rw[c4,MM.ax,aS,fP];have c5:my (ae (af 1) b_) [J (.tup [C,.tup f]),J (.loc y),J B,J (.loc h.length),J (.loc l.length),Y,Y,Y,Y,Y] (l++[.lst []])=.ok ⟨cH u,[(y,u)]⟩ (l++[.lst []]):=by have e9:(l++[MO.lst []])[y]?=J (.lst u):=(I0.mv y (au F) λz=>nO (z▸hq)).trans F;unfold my;simp only[cO,om,nX,Out.bind_ok,dW,bi,e9]
         rw[c5,aB];refine(congrArg (λz:SOut=>(z.then _).fin) e2).trans ?_;rfl
        have ak:Rps q h2 O wk ab:=Rps.fq E.wf rw';refine⟨.loc l.length,h2,run,⟨E.len,λj Q nq=>E.mv j Q nq⟩,E.pen,⟨l.length,ab,rfl,λz=>by have:=bd _ z;ext,ew,ak⟩,λ_ k a3 e=>?_⟩
        cases k with
        |none=>cases e;exact⟨_,_,rfl,wge,ew,Rps.fq E.wf rw'⟩
        |some _=>cases e
       .rename_i cx s' eg
        have S:=r;obtain⟨v0,t0,rfl,Z,v1,t1,rfl,X,B,t2,rfl,an,M⟩:=r;rw[show t2=[]from M]at S ⊢;obtain⟨ys,rfl,ry⟩:=Z;obtain⟨C,u1,rfl,ai,y2,u2,rfl,H,W⟩:=ry;rw[show u2=[]from W]at S ⊢;obtain⟨f,rfl,rr⟩:=H;obtain⟨y,u,rfl,nO,F,ro⟩:=X;have P:q<h.length:=bd q hq;obtain⟨l,G,e1,R,l1,k1⟩:=o8 (q:=q) (h0:=h) (O:=O) (a:=h.length) (it:=⟨f,[]⟩) (λ_=>d7.mpr trivial) rows f rd [] [] Y (h++[.lst []]) er rr ⟨by simp,rfl,by simp,λm U=>by simp at U;ext,λi r e=>by simp at e⟩ (by simp) (λn M=>q7 M) (by simp;ext);have c3:aV 3 (bI 1 [] (c9 (ay bc (af 0) (mC (.int 1)))) (mA 0) nw (qo v_ (ae (af 0) b_))) [J (.tup [C,.tup f]),J (.loc y),J B,Y,Y,Y,Y,Y,Y,Y] h=.nx [J (.tup [C,.tup f]),J (.loc y),J B,J (.loc h.length),Y,Y,Y,Y,Y,Y] l:=by rw[fi,iF];have i1:c9 (ay bc (af 0) (mC (.int 1))) [J (.tup [C,.tup f]),J (.loc y),J B,Y,Y,Y,Y,Y,Y,Y] h=.ok ⟨f,[]⟩ h:=rfl;rw[i1,Out.bind_ok];refine(congrArg (λz:Out Unit=>(z.bind _).go _ _) e1).trans ?_;rfl
        have I0:SwI q h (l++[.lst []]) s h.length G rd l.length []:=by
         have l0:h.length<=l.length:=l1;refine⟨by simp;ext,λj Q nq=>by rw[q7 (by ext)];exact k1 j Q,?_,(by simpa using R:Gr l h.length h.length G rd).keep λm U=>q7 ((by simpa using R:Gr l h.length h.length G rd).lt m U),⟨[],by simp,rfl⟩,rfl,l0,λz=>?_⟩
         .unfold aW;rw[q7 (by ext),k1 q P];exact pn
         .have:=(by simpa using R:Gr l h.length h.length G rd).lt _ z
          ext
        obtain⟨h2,ap,a5,Z2,e2,E⟩:=uy (it:=⟨cH u,[(y,u)]⟩) (cx:=cx) (s':=s') (λh' s' as ar L=>by
         intro p hp
         have:p=(y,u):=by simpa using hp
         subst this
         exact(L.mv y (au F) λz=>nO (z▸hq)).trans F) bd hq S (bz od) (cH u) rd [] Y Y Y Y Y Y Y Y (l++[.lst []]) s (gM fo) (Rps.fq (gM fo) (rL ro)) (λ_ z=>by cases z) (λ_ z=>by cases z) (λ_ z=>by cases z) I0 eg
        have run:cz [.tup [C,.tup f],.loc y,B] h=.exc ⟨cx,[]⟩ h2:=by
         unfold cz;rw[d3 (by rfl)]
         unfold pf;rw[show bh 10 [.tup [C,.tup f],.loc y,B]=[J (.tup [C,.tup f]),J (.loc y),J B,Y,Y,Y,Y,Y,Y,Y]from rfl];rw[aS,c3,MM.ax,aS];have c4:aV 4 (fV b_) [J (.tup [C,.tup f]),J (.loc y),J B,J (.loc h.length),Y,Y,Y,Y,Y,Y] l=.nx [J (.tup [C,.tup f]),J (.loc y),J B,J (.loc h.length),J (.loc l.length),Y,Y,Y,Y,Y] (l++[.lst []]):=by rw[fi,uY,dW,Out.bind_ok,gR (by simp)];rfl
         rw[c4,MM.ax,aS,fP];have c5:my (ae (af 1) b_) [J (.tup [C,.tup f]),J (.loc y),J B,J (.loc h.length),J (.loc l.length),Y,Y,Y,Y,Y] (l++[.lst []])=.ok ⟨cH u,[(y,u)]⟩ (l++[.lst []]):=by have e9:(l++[MO.lst []])[y]?=J (.lst u):=(I0.mv y (au F) λz=>nO (z▸hq)).trans F;unfold my;simp only[cO,om,nX,Out.bind_ok,dW,bi,e9]
         rw[c5,aB];refine(congrArg (λz:SOut=>(z.then _).fin) e2).trans ?_;rfl
        exact⟨h2,run,⟨E.len,λj Q nq=>E.mv j Q nq⟩,E.pen⟩
       .trivial
      .trivial
     .trivial
    .trivial
   .trivial
  .trivial
def iA:Xd []:=(aM (qQ (ao dz (aa (bE (aa (ag l7 (ac 0) (xC (.int 0))) (aa (bE a_) a_))) (aa (ac 1) a_))))
 (aZ (ao kC (aa (ac 0) (aa (ac 1) (aa Cj a_))))))
def bv:Fn:=bM 2 2 iA
def wG{a:QQ}{s:d_}(h:a.length=2):bv.p a s=(iA.p (m_ 2 a) s).fin:=bj h
abbrev Ks:Xd [3]:=pD 3 (ao eV (aa (ag l7 (ac 3) (ac 8)) (aa (ao cC (aa (ac 9) (aa (ag l7 (ac 3) (ac 4)) a_))) a_))) (ac 8)
abbrev Kt:Xd [3]:=pD 3 (ao eV (aa (ag l7 (ac 3) (ac 4)) (aa (ao cC (aa (ac 11) (aa (ag l7 (ac 3) (ac 10)) a_))) a_))) (ac 4)
abbrev N3:Xd [3]:=pD 3 (ao fG (aa (ag l7 (ac 3) (ac 4)) (aa (ac 5) a_))) (ac 4)
def iC:Xd [3]:=(aM (gb 3 (bx 1 [2] (cg Cp (aa (ac 0) a_)) (ws':=[]) (i0 0) pu (ag l7 (ac 1) (ac 0))))
 (aM (dG (bT (ac 1)) (tx (lR (i0 4) (lR (i0 5) (lR (i0 6) (lR (i0 7) ts)))) 4) (dG (bT (ac 7)) (tx (lR (i0 8) (lR (i0 9) ts)) 2) Ks))
 (aM (dG (cg NX (aa (ac 1) a_)) (tx (lR (i0 4) (lR (i0 5) (lR (i0 6) (lR (i0 7) ts)))) 4) (aM (dG (bT (ac 6)) (tx (lR (i0 10) (lR (i0 11) ts)) 2) Kt)
 N3))
 (lV 3))))
def bp:Fn:=bM 12 3 iC
def wO{a:QQ}{s:d_}(h:a.length=3):bp.p a s=(iC.p (m_ 12 a) s).fin:=bj h
def oH{h:MH}{p:Nat}{o:MO}(a:p<h.length):(h.set p o)[p]?=J o:=zO a
def PF:vf 3 2=J 2:=ie (n:=3) (m:=2) (by decide)
def Qf:vf 3 1=J 1:=ie (n:=3) (m:=1) (by decide)
def jz(s:d_)(a:Int)(B:0<a)(hl:a.natAbs.log2<9000):∃x:Int×Int,(0<=x.1/\x.1<a)/\∀(h:MH)(p:Nat),aW h p s->cM [.loc p,.int a] h=.ok (.int x.1) (h.set p (.lst [.int s.1,.int x.2,.int (s.2.2+1)])):=by
 obtain⟨m,c,t⟩:=s;have f:a≠0:=by ext
 have st:∀n:Int,0<=n.fmod a/\n.fmod a<a:=λn=>by
  rw[KN n (by ext)];exact⟨HW n f,HV n B⟩
 by_cases u:m=1
 .subst u;refine⟨(c.fmod a,c.fdiv a),st c,λh p e=>?_⟩;have l:p<h.length:=(qi.mp e).1;have e2:(h.set p (.lst [.int 1,.int c,.int (t+1)]))[p]?=J (.lst [.int 1,.int c,.int (t+1)]):=oH l;refine(d3 (by rfl)).trans ?_;unfold vv;simp[bh,List.replicate,f6 e,ko e,PF,f6 e2,fU f,tT f,ko e2,Qf]
 .have j:∀n k:Int,0<k->0<=n.fmod k/\n.fmod k<k:=λn k H=>by
   rw[KN n (by ext)];exact⟨HW n (by ext),HV n H⟩
  generalize z:((c+40503*(t+1)+1)*48271).fmod 2147483647=A;have O:=j ((c+40503*(t+1)+1)*48271) 2147483647 (by decide);generalize y:(A*(A.fmod 65521+(t+1)+3)).fmod 2147483629=C;have G:=j (A*(A.fmod 65521+(t+1)+3)) 2147483629 (by decide);rw[y]at G;refine⟨((((C*(C.fmod 8191+7)).fmod 2147483563).fdiv 64).fmod a,c),st _,λh p e=>?_⟩;have e:h[p]?=J (.lst [.int m,.int c,.int t]):=e;have l:p<h.length:=(qi.mp e).1;have e2:(h.set p (.lst [.int m,.int c,.int (t+1)]))[p]?=J (.lst [.int m,.int c,.int (t+1)]):=oH l;have M:-(2^64)<A/\A<2^64:=by ext
  have E:-(2^64)<C/\C<2^64:=by ext
  have F:∀{i:Int}{h:MH},ki (.int 40503) (.int i) h=.ok (.int (40503*i)) h:=ic (by decide);have L:∀{i:Int}{h:MH},ki (.int i) (.int 48271) h=.ok (.int (i*48271)) h:=B8 (by decide);unfold cM;refine(d3 (by rfl)).trans ?_;unfold vv;simp[bh,List.replicate,f6 e,ko e,PF,f6 e2,u,F,L,fU,z,ic M,y,ic E,tT (show(64:Int)≠0 by decide),fU f]
open Classical in
def lS(s:d_)(a:Int):Int×Int:=if z:0<a/\a.natAbs.log2<9000 then(jz s a z.1 z.2).choose else(0,0)
def nF(a:QQ):QV:=match a with
 |[.pen,.int i]=>J i
 |_=>Y
def vg{a:QQ}{i:Int}(e:nF a=J i):a=[.pen,.int i]:=by
 unfold nF at e
 split at e
 .cases e;rfl
 .cases e
open Classical in
def bf:Fn where
 m:=cM
 p:=λf s=>match nF f with
  |some a=>if 0<a/\a.natAbs.log2<9000 then .ok (.int (lS s a).1) (s.1,(lS s a).2,s.2.2+1)else .bad
  |none=>.bad
 fr:=I
 ok {q h O vs f s} bd hq pn r:=by
  cases e:nF f with
  |none=>trivial
  |some a =>
   have:=vg e
   subst this;dsimp only;by_cases z:0<a/\a.natAbs.log2<9000
   .rw[e_ z];obtain⟨x,t,rfl,j,y,i,rfl,l,B⟩:=r;rw[show x=PV.loc q from j,show y=PV.int a from l,show i=[]from B];have k:=(jz s a z.1 z.2).choose_spec.2 h q pn;have C:lS s a=(jz s a z.1 z.2).choose:=by unfold lS;rw[dif_pos z]
    rw[<-C]at k;refine⟨_,_,k,⟨by simp,λn E u=>p6 (Ne.symm u)⟩,oH (au pn),rfl,λ_ k f e=>by cases k<;>cases e⟩
   .rw[hI z];trivial
open Classical in
theorem cu{s:d_}{size:Int}(i:0<size)(hl:size<=2000000000):∃d f,0<=d/\d<size/\bf.p [.pen,.int size] s=.ok (.int d) f:=by
 have a:size.natAbs.log2<9000:=by have l:size.natAbs.log2<31:=(Nat.log2_lt (by ext)).mpr (by ext);ext
 have z:0<size/\size.natAbs.log2<9000:=⟨i,a⟩;have j:lS s size=(jz s size z.1 z.2).choose:=by unfold lS;rw[dif_pos z]
 have k:=(jz s size z.1 z.2).choose_spec.1;rw[<-j]at k;exact⟨_,_,k.1,k.2,by show(if 0<size/\size.natAbs.log2<9000 then _ else _)=_;rw[e_ z]⟩
abbrev rM:Xt []:=xB (ag Lz (ac 3) (xC (.int 0)))
abbrev rj:Xd []:=ss 2 3 (aa (ac 3) (aa (ag oW (ac 2) (ac 3)) a_))
def fJ:Xd []:=(aM (ss 2 3 (aa (qr oB (aa (ac 0) a_)) (aa (qr oB (aa (ac 1) a_)) a_)))
 (aM (Jv 2000000 rM rj rR)
 (aM (xg (xB (ag FX (ac 1) (xC (.int 0)))) (bn 2 (vu mT (ac 2))) ln)
 (aZ (bE (aa (ag Co (ac 0) (ac 2)) (aa (ag Co (ac 1) (ac 2)) a_)))))))
def be:Fn:=bM 4 2 fJ
def tN{a:QQ}{s:d_}(h:a.length=2):be.p a s=(fJ.p (m_ 4 a) s).fin:=bj h
def eK(F:Fn):Xd []:=(aM (xg (xB (ag (DR T) (ac 1) (xC .non))) (aZ (ag (DR T) (ac 0) (xC .non))) ln)
 (aM (xg (xB (vu (bQ ["list","tuple"]) (ac 1))) (aM (xg (AR (du (xB (vu (bQ ["list","tuple"]) (ac 0)))) (xB (ag Al (vu (bQ ["list"]) (ac 0)) (vu (bQ ["list"]) (ac 1))))) (aZ (xC (.bl T))) ln)
 (aZ (iN (ag Ay (qr fZ (aa (ac 0) a_)) (qr fZ (aa (ac 1) a_))) (qr oM (aa (bx 2 [] (cg iZ (aa (ac 0) (aa (ac 1) a_))) (ws':=[]) (tx (lR (i0 0) (lR (i0 1) ts)) 2) pu (ao F (aa (ac 0) (aa (ac 1) a_)))) a_))))) ln)
 (aZ (iN (vu (bQ ["int"]) (ac 0)) (iN (nW (vu (bQ ["bool"]) (ac 0))) (ag Ay (ac 0) (ac 1)))))))
def cN:Nat->Fn
 |0=>DQ (cr 2 2 λ_ _=>.bad)
 |n+1=>bM 2 2 (eK (cN n))
def kK{n:Nat}{a:QQ}{s:d_}(h:a.length=2):(cN (n+1)).p a s=((eK (cN n)).p (m_ 2 a) s).fin:=bj h
def bL:Fn:=cN 8
def fE:Xd []:=(aM (bn 1 (ao bf (aa (ac 0) (aa (xC (.int 8)) a_))))
 (aM (xg (xB (ag Ay (ac 1) (xC (.int 7)))) (aZ (ao be (aa (ag dJ (ag km (ao bf (aa (ac 0) (aa (ag km (ag br (xC (.int 2)) (ag qU (xC (.int 10)) (xC (.int 6)))) (xC (.int 1))) a_))) (ag qU (xC (.int 10)) (xC (.int 6)))) (xC (.int 1))) (aa (ag dJ (xC (.int 1)) (ao bf (aa (ac 0) (aa (ag km (ag qU (xC (.int 10)) (xC (.int 6))) (xC (.int 1))) a_)))) a_)))) ln)
 (aZ (ao be (aa (ag km (ao bf (aa (ac 0) (aa (xC (.int 13)) a_))) (xC (.int 6))) (aa (ag dJ (xC (.int 1)) (ao bf (aa (ac 0) (aa (ag l7 (jk (aa (xC (.int 1)) (aa (xC (.int 1)) (aa (xC (.int 5)) a_)))) (ag oW (ac 1) (xC (.int 3)))) a_)))) a_))))))
def dm:Fn:=bM 2 1 fE
def tF{a:QQ}{s:d_}(h:a.length=1):dm.p a s=(fE.p (m_ 2 a) s).fin:=bj h
def iH:Xd []:=(aM (xg (xB (ag Ay (ao bf (aa (ac 0) (aa (xC (.int 16)) a_))) (xC (.int 15)))) (aZ (xC (.int 12))) ln)
 (aZ (ag l7 (jk (aa (xC (.int 4)) (aa (xC (.int 3)) (aa (xC (.int 5)) (aa (xC (.int 2)) (aa (xC (.int 6)) (aa (xC (.int 1)) (aa (xC (.int 0)) (aa (xC (.int 3)) a_))))))))) (ao bf (aa (ac 0) (aa (xC (.int 8)) a_))))))
def fS:Fn:=bM 1 1 iH
def wF{a:QQ}{s:d_}(h:a.length=1):fS.p a s=(iH.p (m_ 1 a) s).fin:=bj h
def gD:Xd [2]:=(aM (gb 2 (jk a_))
 (aM (dG (cg Cp (aa (ac 1) a_)) (i0 3) (DP x6 2 (aa (ao bf (aa (ac 0) (aa (ag dJ (ac 3) (xC (.int 1))) a_))) (aa (ac 3) a_))))
 (lV 2)))
def cZ:Fn:=bM 4 2 gD
def we{a:QQ}{s:d_}(h:a.length=2):cZ.p a s=(gD.p (m_ 4 a) s).fin:=bj h
def ik:Xd []:=(aZ (ao be (aa (ag dJ (ag br (ag l7 (ac 0) (xC (.int 0))) (ag l7 (ac 1) (xC (.int 1)))) (ag br (ag l7 (ac 1) (xC (.int 0))) (ag l7 (ac 0) (xC (.int 1))))) (aa (ag br (ag l7 (ac 0) (xC (.int 1))) (ag l7 (ac 1) (xC (.int 1)))) a_))))
def eQ:Fn:=bM 2 2 ik
def xJ{a:QQ}{s:d_}(h:a.length=2):eQ.p a s=(ik.p (m_ 2 a) s).fin:=bj h
def gz:Xd []:=(aZ (ao be (aa (ag br (ag l7 (ac 0) (xC (.int 0))) (ag l7 (ac 1) (xC (.int 0)))) (aa (ag br (ag l7 (ac 0) (xC (.int 1))) (ag l7 (ac 1) (xC (.int 1)))) a_))))
def dM:Fn:=bM 2 2 gz
def vX{a:QQ}{s:d_}(h:a.length=2):dM.p a s=(gz.p (m_ 2 a) s).fin:=bj h
def gC:Xd []:=(aM (xg (JI (ac 1)) (aZ (bE (aa (ag br (ag dJ (xC (.int 1)) (ao bf (aa (ac 0) (aa (xC (.int 255)) a_)))) (ag km (xC (.int 1)) (ag br (xC (.int 2)) (ao bf (aa (ac 0) (aa (xC (.int 2)) a_)))))) (aa (xC (.int 1)) a_)))) ln)
 (aM (bn 2 (ag km (ao bf (aa (ac 0) (aa (xC (.int 12)) a_))) (xC (.int 6))))
 (aZ (ao be (aa (ag dJ (ac 2) (qr mH (aa (ag M8 (ac 2) (xC (.int 0))) a_))) (aa (ag dJ (xC (.int 1)) (ao bf (aa (ac 0) (aa (xC (.int 4)) a_)))) a_))))))
def cG:Fn:=bM 3 2 gC
def vG{a:QQ}{s:d_}(h:a.length=2):cG.p a s=(gC.p (m_ 3 a) s).fin:=bj h
abbrev LN:Xe [6]:=(bx 1 [0,4,3] (bT (ac 9)) (ws':=[]) (i0 0) (xB (ag Ay (ao bf (aa (ac 1) (aa (ac 3) a_))) (xC (.int 0)))) (bE (aa (ac 0) (aa (ao cG (aa (ac 1) (aa (ac 2) a_))) a_))))
def gB:Xd [6]:=(aM (bn 4 (ag Ay (ao bf (aa (ac 0) (aa (xC (.int 8)) a_))) (xC (.int 7))))
 (aM (bn 5 (ag l7 (jk (aa (ac 1) (aa (xC (.int 3)) a_))) (qr mH (aa (ag Lz (ac 1) (xC (.int 6))) a_))))
 (aM (gb 6 (jk a_))
 (aM (dG (cg iE (aa (ac 2) a_)) (tx (lR (i0 7) (lR (i0 8) ts)) 2) (aM (bn 9 (qr fb (aa (By (ac 2) (Bx (ag dJ (ac 7) (xC (.int 1)))) Bw) a_)))
 (aM (bn 10 LN)
 (aM (bn 11 (bx 1 [0,4,3] (bT (ac 9)) (ws':=[]) (i0 0) (xB (ag Ay (ao bf (aa (ac 1) (aa (ac 3) a_))) (xC (.int 0)))) (bE (aa (ac 0) (aa (ao cG (aa (ac 1) (aa (ac 2) a_))) a_)))))
 (DP x5 6 (aa (bE (aa (ac 8) (aa (ao cG (aa (ac 0) (aa (ac 4) a_))) (aa (qr cW (aa (By (ac 10) (Bx (vu mT (ac 5))) Bw) a_)) (aa (qr cW (aa (By (ac 11) Bw (Bx (ac 5))) a_)) a_))))) a_))))))
 (lV 6)))))
def fe:Fn:=bM 12 4 gB
def vj{a:QQ}{s:d_}(h:a.length=4):fe.p a s=(gB.p (m_ 12 a) s).fin:=bj h
def sK:Xe []:=(ao eQ (aa (ag l7 (ag l7 (ac 2) (ac 7)) (ac 9)) (aa (ao dM (aa (ac 8) (aa (ac 10) a_))) a_)))
def rQ:Xe []:=(bE (aa (ac 0) (aa (qr cW (aa (bx 1 [] (bT (ac 2)) (ws':=[]) (i0 0) pu (qr cW (aa (bx 2 [] (cg iE (aa (ac 0) a_)) (ws':=[]) (tx (lR (i0 0) (lR (i0 1) ts)) 2) (xB (ag Al (ac 1) (bE (aa (xC (.int 0)) (aa (xC (.int 1)) a_))))) (bE (aa (ac 0) (aa (ac 1) a_)))) a_))) a_)) a_)))
def CV:nr:=kZ sK.m (Bs (ay bc (af 2) (af 7)) (af 9))
def CW:nr:=je (c9 (ay jj (cY (ae (cY (ae (af 3) (ae (af 4) b_))) b_)) (af 5))) (wy (qb (mA 9) (qb (mA 10) wv)) 2) CV
def CY:nr:=je (c9 (ay jj (cY (ae (cY (ae (af 3) (ae (cY (ae (mC (.int 1)) (ae (mC (.int 1)) b_))) b_))) b_)) (af 6))) (wy (qb (mA 7) (qb (mA 8) wv)) 2) CW
def GB:Mx PV:=cY (ae (mC (.int 0)) (ae (mC (.int 1)) b_))
def qp:nr:=aQ (aV 2 (bI 1 [0] (cQ (ae (af 0) b_)) (mA 0) nw (bI 1 [] (cQ (ae (af 1) b_)) (mA 0) nw GB)))
 (aQ (je (c9 (af 1)) (wy (qb (mA 3) (qb (mA 4) (qb (mA 5) (qb (mA 6) wv)))) 4) CY)
 (bO rQ.m))
def cX:QL->MH->QX:=cr 11 2 qp
structure C8 where
 (c0 c1 c2 c3 c4 c5 c6 c7:QB)
def mE(rd:List Rd)(n a:D)(c:C8):aw:=[J n,J a,J (cR rd),c.c0,c.c1,c.c2,c.c3,c.c4,c.c5,c.c6,c.c7]
def nH(n l:D)(rd:List Rd)(c:C8)(s:d_):Option (List Rd×d_):=match sK.p (mE rd n l c) s,c.c4,c.c6 with
 |.ok d f,J (.int i),J (.int j)=>(match vf rd.length i with
  |some x=>(match rd[x]? with
   |some (Y,a)=>(match vf a.length j with
    |some y=>if flat d=I then J (rd.set x (Y,a.set y d),f)else Y
    |none=>Y)
   |_=>Y)
  |none=>Y)
 |_,_,_=>Y
def CZ(n j:D):QQ->List Rd->C8->d_->Option (List Rd×C8×d_)
 |[],rd,c,s=>J (rd,c,s)
 |.tup [f,i]::r,rd,c,s=>(match nH n j rd { c with c6:=J f,c7:=J i} s with
  |some (a,l)=>CZ n j r a { c with c6:=J f,c7:=J i} l
  |none=>Y)
 |_,_,_,_=>Y
def Bz(n f v p:D)(i:QQ):QQ->List Rd->C8->d_->Option (List Rd×C8×d_)
 |[],rd,c,s=>J (rd,c,s)
 |.tup [y,j]::r,rd,c,s=>(match CZ n f (.tup [v,p]::i) rd { c with c4:=J y,c5:=J j} s with
  |some (a,l,u)=>Bz n f v p i r a l u
  |none=>Y)
 |_,_,_,_=>Y
def C0(n j:D):QQ->List Rd->C8->d_->Option (List Rd×C8×d_)
 |[],rd,c,s=>J (rd,c,s)
 |.tup [v,p,.tup i,.tup a]::r,rd,c,s=>if i.length<900/\a.length<900 then (match Bz n j v p i (.tup [v,.tup [.int 1,.int 1]]::a) rd { c with c0:=J v,c1:=J p,c2:=J (.tup i),c3:=J (.tup a)} s with
  |some (f,l,u)=>C0 n j r f l u
  |none=>Y)else Y
 |_,_,_,_=>Y
def LO(j:QQ)(s:d_):PR D:=match j with
 |[.int n,.lst a]=>if c_ a=I/\0<=n/\n<900 then (match C0 (.int n) (.lst a) a (List.replicate n.toNat (Y,List.replicate n.toNat (.tup [.int 0,.int 1]))) ⟨Y,Y,Y,Y,Y,Y,Y,Y⟩ s with
  |some (rd,c,i)=>(match rQ.p (mE rd (.int n) (.lst a) c) i with
   |.ok d f=>if flat d=I then .ok d f else .bad
   |_=>.bad)
  |none=>.bad)else .bad
 |_=>.bad
structure MuI(q:Nat)(h0 h:MH)(s:d_)(a:Nat)(ms:QP)(rd:List Rd):Prop where
 len:h0.length<=h.length
 mv:∀n:Nat,n<h0.length->n≠q->h[n]?=h0[n]?
 pen:aW h q s
 gr:Gr h h0.length a ms rd
structure E8 where
 (e0 e1 e2 e3 e4 e5 e6 e7:QE)
def sE(f i:PV)(a:Nat)(e:E8):n8:=[J f,J i,J (.loc a),e.e0,e.e1,e.e2,e.e3,e.e4,e.e5,e.e6,e.e7]
structure O8(c:C8)(e:E8):Prop where
 (o0:OR c.c0 e.e0) (o1:OR c.c1 e.e1) (o2:OR c.c2 e.e2) (o3:OR c.c3 e.e3) (o4:OR c.c4 e.e4) (o5:OR c.c5 e.e5) (o6:OR c.c6 e.e6) (o7:OR c.c7 e.e7)
def pG:∀{a:QQ}{d:D}{i:Nat},c_ a=I->flat d=I->c_ (a.set i d)=I
 |[],_,_,f,_=>f
 |x::a,d,0,f,g=>by
  simp only[c_,Av,yH]at f ⊢;exact⟨g,f.2⟩
 |x::a,d,i+1,f,g=>by
  simp only[c_,Av,Ae]at f ⊢;exact⟨f.1,pG f.2 g⟩
def OR.of{d:D}{v:PV}(f:flat d=I)(r:Rp 0 [] [] d v):OR (J d) (J v):=λz a=>by cases a;exact⟨f,_,rfl,r⟩
section
variable{q:Nat}{h0 h h':MH}{s s':d_}{a:Nat}{ms:QP}{rd rd':List Rd}{O:QP}{n wk:D}{v0 v1:PV}{c c':C8}{e e':E8}
def MuI.kb(f:MuI q h0 h s a ms rd)(y:q<h0.length)(k:KB q h h')(pn:aW h' q s'):MuI q h0 h' s' a ms rd:=by have l:=f.len;exact⟨qs f.len k.len,λn u j=>(k.keep n (by ext) j).trans (f.mv n u j),pn,f.gr.keep λm i=>k.keep m (f.gr.lt m i) (by have:=f.gr.ge m i;ext)⟩
def DZ(j:MuI q h0 h s a ms rd)(bd:∀o∈O,o<h0.length)(E:q∈O)(r:Rps q h0 O [n,wk] [v0,v1])(o:O8 c e):PU.Cx q h h.length O O [] (sE v0 v1 a e) (mE rd n wk c) s:=by
 have l:=j.len;have mv:Mv O h0 O h:=⟨λn F B=>j.mv n F λz=>B (z▸E),λo u=>.inl u⟩;have C:=r.mv mv;have one:∀{x:QB}{y:QE}{d:D},OR x y->x=J d->∃v,J y=J (J v)/\Rp q h O d v:=λ{x y d} o e=>by
  obtain⟨f,v,e2,r⟩:=o d e;exact⟨v,by rw[e2],Rp.fq f r⟩
 refine⟨λo u=>by have:=bd o u;ext,λo u=>u,λo u=>by have:=bd o u;ext,E,mu _,j.pen,rfl,λi d e _=>?_,λi d e H=>by cases H⟩
 match i,e with
 |0,e=>cases e;obtain⟨v,e,q⟩:=C.get (i:=0) rfl;cases e;exact⟨_,rfl,q⟩
 |1,e=>cases e;obtain⟨v,e,q⟩:=C.get (i:=1) rfl;cases e;exact⟨_,rfl,q⟩
 |2,e=>cases e;exact⟨_,rfl,j.gr.rp λm G B=>by have:=j.gr.ge m G;have:=bd m B;ext⟩
 |3,e=>exact one o.o0 (by injection e)
 |4,e=>exact one o.o1 (by injection e)
 |5,e=>exact one o.o2 (by injection e)
 |6,e=>exact one o.o3 (by injection e)
 |7,e=>exact one o.o4 (by injection e)
 |8,e=>exact one o.o5 (by injection e)
 |9,e=>exact one o.o6 (by injection e)
 |10,e=>exact one o.o7 (by injection e)
def yW(z:MuI q h0 h s a ms rd)(bd:∀o∈O,o<h0.length)(C:q∈O)(r:Rps q h0 O [n,wk] [v0,v1])(o:O8 c e)(l:nH n wk rd c s=J (rd',s')):∃h',CV (sE v0 v1 a e) h=.nx (sE v0 v1 a e) h'/\MuI q h0 h' s' a ms rd':=by
 have B:=bd q C;unfold nH at l
 split at l
 .rename_i d s1 i j ed ei G
  split at l
  .rename_i x ex
   split at l
   .rename_i E er
    split at l
    .rename_i y F
     split at l
     .rename_i fd
      cases l;have k:=sK.ok (DZ z bd C r o);rw[ed]at k;obtain⟨v,f,em,kb,pn,_,S,_⟩:=k;have u:=z.kb B kb pn;obtain⟨L,m,xs,e1,e2,e3⟩:=u.gr.row x _ er;obtain⟨_,_,e4,P⟩:=o.o4 _ ei;obtain⟨_,_,W,M⟩:=o.o6 _ G;have ml:=au e2;have H:=p5 a (Ab e1);have ab:=u.gr.ge m H;have U:xs.length=E.length:=e3.length;have Q:Rp 0 [] [] d v:=Rp.fq fd (S rfl);have ai:pz (ms.map PV.loc) i=J (.loc m):=by unfold pz;rw[v4,u.gr.len,ex,Hh,u_,e1];rfl
      refine⟨f.set m (.lst (xs.set y v)),?_,by rw[K3];exact u.len,λj hj Z=>(p6 (by ext)).trans (u.mv j hj Z),?_,u.gr.put (r':=(Y,E.set y d)) e1 ?_ (zO ml) (e3.set y Q) λj _ ne=>p6 (Ne.symm ne)⟩
      .unfold CV kZ vC;rw[em];have g:Bs (ay bc (af 2) (af 7)) (af 9) v (sE v0 v1 a e) f=.nx (sE v0 v1 a e) (f.set m (.lst (xs.set y v))):=by
        rw[FD];have X:ay bc (af 2) (af 7) (sE v0 v1 a e) f=.ok (.loc m) f:=by
         rw[B6];have z1:af 2 (sE v0 v1 a e) f=.ok (.loc a) f:=rfl;have R:af 7 (sE v0 v1 a e) f=.ok (.int i) f:=by show af 7 [J v0,J v1,J (.loc a),e.e0,e.e1,e.e2,e.e3,e.e4,e.e5,e.e6,e.e7] f=_;rw[e4,show _=PV.int i from P];rfl
         rw[z1,Out.bind_ok,R,Out.bind_ok,f6 u.gr.top,ai];rfl
        have z3:af 9 (sE v0 v1 a e) f=.ok (.int j) f:=by show af 9 [J v0,J v1,J (.loc a),e.e0,e.e1,e.e2,e.e3,e.e4,e.e5,e.e6,e.e7] f=_;rw[W,show _=PV.int j from M];rfl
        rw[X,aB,FC,z3,aB,ko e2,U,F];rfl
       dsimp only;rw[g]
      .have:=u.pen
       unfold aW at this ⊢;rw[p6 (by ext)];exact this
      .exact pG L fd
     .cases l
    .cases l
   .cases l
  .cases l
 .cases l
def C1{x:D}{xs:QQ}{z:List Rd×C8×d_}(i:CZ n wk (x::xs) rd c s=J z):∃y w,x=.tup [y,w]:=by
 unfold CZ at i
 split at i
 .rename_i f;cases f
 .rename_i f;cases f;exact⟨_,_,rfl⟩
 .cases i
def C2{v p x:D}{j xs:QQ}{z:List Rd×C8×d_}(i:Bz n wk v p j (x::xs) rd c s=J z):∃y w,x=.tup [y,w]:=by
 unfold Bz at i
 split at i
 .rename_i f;cases f
 .rename_i f;cases f;exact⟨_,_,rfl⟩
 .cases i
def C3{x:D}{xs:QQ}{z:List Rd×C8×d_}(i:C0 n wk (x::xs) rd c s=J z):∃v p l j,x=.tup [v,p,.tup l,.tup j]:=by
 unfold C0 at i
 split at i
 .rename_i f;cases f
 .rename_i f;cases f;exact⟨_,_,_,_,rfl⟩
 .cases i
def tV{x y:D}{v:PV}(r:Rp 0 [] [] (.tup [x,y]) v):∃a b,v=.tup [a,b]/\Rp 0 [] [] x a/\Rp 0 [] [] y b:=by obtain⟨ys,rfl,u⟩:=r;obtain⟨z,B,rfl,i,C,l,rfl,j,f⟩:=u;rw[show l=[]from f];exact⟨_,_,rfl,i,j⟩
def xY{it:MIt}(f:∀h,it.ok h)(bd:∀o∈O,o<h0.length)(Q:q∈O)(r:Rps q h0 O [n,wk] [v0,v1]):∀(l:QQ)(xs:QL)(rd:List Rd)(c:C8)(e:E8)(h:MH)(s:d_),c_ l=I->Rps 0 [] [] l xs->O8 c e->MuI q h0 h s a ms rd->CZ n wk l rd c s=J (rd',c',s') ->
  ∃h' y u,vr it (wy (qb (mA 9) (qb (mA 10) wv)) 2) CV xs (sE v0 v1 a e) h=.nx (sE v0 v1 a { e with e6:=y,e7:=u}) h'/\MuI q h0 h' s' a ms rd'/\O8 c' { e with e6:=y,e7:=u}/\c'.c0=c.c0/\c'.c1=c.c1/\c'.c2=c.c2/\c'.c3=c.c3
 |[],xs,rd,c,e,h,s,fd,B,o,j,i=>by
  cases i;rw[show xs=[]from B];exact⟨h,e.e6,e.e7,jv (f h),j,o,rfl,rfl,rfl,rfl⟩
 |x::l,xs,rd,c,e,h,s,fd,B,o,j,i=>by
  obtain⟨M,R,rfl⟩:=C1 i;simp only[c_,Av]at fd;have L:flat M=I/\flat R=I:=by simpa [flat,c_]using fd.1
  unfold CZ at i;obtain⟨vx,xr,rfl,F,W⟩:=B;obtain⟨G,E,rfl,H,C⟩:=tV F
  split at i
  .rename_i z U e2
   have P:O8 { c with c6:=J M,c7:=J R} { e with e6:=J G,e7:=J E}:=⟨o.o0,o.o1,o.o2,o.o3,o.o4,o.o5,OR.of L.1 H,OR.of L.2 C⟩;obtain⟨h1,e1,I1⟩:=yW j bd Q r P e2;obtain⟨Z,y,u,e3,S,X,k⟩:=xY f bd Q r l xr z _ _ h1 U fd.2 W P I1 i;refine⟨Z,y,u,?_,S,X,k⟩;rw[fR (f h) (show wy (qb (mA 9) (qb (mA 10) wv)) 2 (.tup [G,E]) (sE v0 v1 a e) h=.nx (sE v0 v1 a { e with e6:=J G,e7:=J E}) h from rfl),e1];exact e3
  .cases i
def wp{it:MIt}{v p:D}{B:QQ}{i pv:PV}{f:QL}(l:∀h,it.ok h)(bd:∀o∈O,o<h0.length)(hq:q∈O)(r:Rps q h0 O [n,wk] [v0,v1])(fv:flat v=I)(fp:flat p=I)(fr:c_ B=I)(rv:Rp 0 [] [] v i)(rp:Rp 0 [] [] p pv)(u:Rps 0 [] [] B f)(lr:B.length<900):
  ∀(E:QQ)(xs:QL)(rd:List Rd)(c:C8)(e:E8)(h:MH)(s:d_),c_ E=I->Rps 0 [] [] E xs->O8 c e->MuI q h0 h s a ms rd->e.e0=J i->e.e1=J pv->e.e2=J (.tup f)->Bz n wk v p B E rd c s=J (rd',c',s') ->
  ∃h' e4 e5 G F,vr it (wy (qb (mA 7) (qb (mA 8) wv)) 2) CW xs (sE v0 v1 a e) h=.nx (sE v0 v1 a { e with e4:=e4,e5:=e5,e6:=G,e7:=F}) h'/\MuI q h0 h' s' a ms rd'/\O8 c' { e with e4:=e4,e5:=e5,e6:=G,e7:=F}
 |[],xs,rd,c,e,h,s,fd,L,o,y,z0,z1,M,j=>by
  unfold Bz at j;cases j;rw[show xs=[]from L];exact⟨h,e.e4,e.e5,e.e6,e.e7,jv (l h),y,o⟩
 |x::E,xs,rd,c,e,h,s,fd,L,o,y,z0,z1,M,j=>by
  obtain⟨di,df,rfl⟩:=C2 j;simp only[c_,Av]at fd;have fk:flat di=I/\flat df=I:=by simpa [flat,c_]using fd.1
  unfold Bz at j;obtain⟨vx,xr,rfl,R,rr⟩:=L;obtain⟨C,z,rfl,U,Q⟩:=tV R
  split at j
  .rename_i H c2 s2 e2
   have o2:O8 { c with c4:=J di,c5:=J df} { e with e4:=J C,e5:=J z}:=⟨o.o0,o.o1,o.o2,o.o3,OR.of fk.1 U,OR.of fk.2 Q,o.o6,o.o7⟩;have rl:f.length=B.length:=u.length;obtain⟨h1,G,F,e1,I1,o3,_⟩:=xY (it:=⟨.tup [i,pv]::f,[]⟩) (λ_=>d7.mpr trivial) bd hq r (.tup [v,p]::B) (.tup [i,pv]::f) rd _ _ h s (by simp[c_,flat,fv,fp,fr]) ⟨_,_,rfl,⟨_,rfl,_,_,rfl,rv,_,_,rfl,rp,rfl⟩,u⟩ o2 y e2;obtain⟨h2,P,X,Z,W,e3,I2,o4⟩:=wp l bd hq r fv fp fr rv rp u lr E xr H _ _ h1 s2 fd.2 rr o3 I1 z0 z1 M j;refine⟨h2,P,X,Z,W,?_,I2,o4⟩;rw[fR (l h) (show wy (qb (mA 7) (qb (mA 8) wv)) 2 (.tup [C,z]) (sE v0 v1 a e) h=.nx (sE v0 v1 a { e with e4:=J C,e5:=J z}) h from rfl)];have S:c9 (ay jj (cY (ae (cY (ae (af 3) (ae (af 4) b_))) b_)) (af 5)) (sE v0 v1 a { e with e4:=J C,e5:=J z}) h=.ok ⟨.tup [i,pv]::f,[]⟩ h:=by
    unfold sE;dsimp only;rw[z0,z1,M];have t1:nc [PV.tup [i,pv]] h=.ok (.tup [.tup [i,pv]]) h:=by unfold nc;rw[e_ (qs (show _<=1000 by simp) (by decide))]
    have t2:nc [i,pv] h=.ok (.tup [i,pv]) h:=by unfold nc;rw[e_ (qs (show _<=1000 by simp) (by decide))]
    have t3:jj (.tup [.tup [i,pv]]) (.tup f) h=.ok (.tup (.tup [i,pv]::f)) h:=by show(if [PV.tup [i,pv]]≠[]then nc ([PV.tup [i,pv]]++f) h else .bad)=_;rw[e_ (by simp)];unfold nc;rw[e_ (qs (show _<=1000 by simp;ext) (by decide))];rfl
    simp[cY,t1,t2,t3]
   have b:CW (sE v0 v1 a { e with e4:=J C,e5:=J z}) h=.nx (sE v0 v1 a { e with e4:=J C,e5:=J z,e6:=G,e7:=F}) h1:=by unfold CW;rw[fP,S,aB];exact e1
   rw[b];exact e3
  .cases j
def xU{it:MIt}(z:∀h s rd,MuI q h0 h s a ms rd->it.ok h)(bd:∀o∈O,o<h0.length)(hq:q∈O)(r:Rps q h0 O [n,wk] [v0,v1]):
  ∀(L:QQ)(xs:QL)(rd:List Rd)(c:C8)(e:E8)(h:MH)(s:d_),c_ L=I->Rps 0 [] [] L xs->O8 c e->MuI q h0 h s a ms rd->C0 n wk L rd c s=J (rd',c',s') ->
  ∃h' e',vr it (wy (qb (mA 3) (qb (mA 4) (qb (mA 5) (qb (mA 6) wv)))) 4) CY xs (sE v0 v1 a e) h=.nx (sE v0 v1 a e') h'/\MuI q h0 h' s' a ms rd'/\O8 c' e'
 |[],xs,rd,c,e,h,s,fd,S,o,l,u=>by
  unfold C0 at u;cases u;rw[show xs=[]from S];exact⟨h,e,jv (z h _ _ l),l,o⟩
 |x::L,xs,rd,c,e,h,s,fd,S,o,l,u=>by
  obtain⟨v,p,rs,P,rfl⟩:=C3 u;simp only[c_,Av]at fd;have y:flat v=I/\flat p=I/\c_ rs=I/\c_ P=I:=by simpa [flat,c_]using fd.1
  unfold C0 at u;obtain⟨vx,xr,rfl,U,rr⟩:=S;obtain⟨us,rfl,ru⟩:=U;obtain⟨i,t1,rfl,B,C,Z,rfl,F,u3,t3,rfl,E,u4,t4,rfl,M,R⟩:=ru;rw[show t4=[]from R];have H:=E;have G:=M;obtain⟨j,rfl,r3⟩:=E;obtain⟨f,rfl,X⟩:=M
  split at u
  .rename_i lc
   split at u
   .rename_i Q c2 s2 e2
    have o2:O8 { c with c0:=J v,c1:=J p,c2:=J (.tup rs),c3:=J (.tup P)} { e with e0:=J i,e1:=J C,e2:=J (.tup j),e3:=J (.tup f)}:=⟨OR.of y.1 B,OR.of y.2.1 F,OR.of (by simp[flat,y.2.2.1]) H,OR.of (by simp[flat,y.2.2.2]) G,o.o4,o.o5,o.o6,o.o7⟩;have cl:f.length=P.length:=X.length;obtain⟨h1,e4,e5,e6,e7,e1,I1,o3⟩:=wp (it:=⟨.tup [i,.tup [.int 1,.int 1]]::f,[]⟩) (λ_=>d7.mpr trivial) bd hq r y.1 y.2.1 y.2.2.1 B F r3 lc.1 (.tup [v,.tup [.int 1,.int 1]]::P) (.tup [i,.tup [.int 1,.int 1]]::f) rd _ _ h s (by simp[c_,flat,y.1,y.2.2.2]) ⟨_,_,rfl,⟨_,rfl,_,_,rfl,B,_,_,rfl,⟨_,rfl,_,_,rfl,rfl,_,_,rfl,rfl,rfl⟩,rfl⟩,X⟩ o2 l rfl rfl rfl e2;obtain⟨h2,e',e3,I2,o4⟩:=xU z bd hq r L xr Q _ _ h1 s2 fd.2 rr o3 I1 u;refine⟨h2,e',?_,I2,o4⟩;rw[fR (z h _ _ l) (show wy (qb (mA 3) (qb (mA 4) (qb (mA 5) (qb (mA 6) wv)))) 4 (.tup [i,C,.tup j,.tup f]) (sE v0 v1 a e) h=.nx (sE v0 v1 a { e with e0:=J i,e1:=J C,e2:=J (.tup j),e3:=J (.tup f)}) h from rfl)];have W:c9 (ay jj (cY (ae (cY (ae (af 3) (ae (cY (ae (mC (.int 1)) (ae (mC (.int 1)) b_))) b_))) b_)) (af 6)) (sE v0 v1 a { e with e0:=J i,e1:=J C,e2:=J (.tup j),e3:=J (.tup f)}) h=.ok ⟨.tup [i,.tup [.int 1,.int 1]]::f,[]⟩ h:=by
     unfold sE;dsimp only;have t0:nc [PV.int 1,.int 1] h=.ok (.tup [.int 1,.int 1]) h:=by unfold nc;rw[e_ (qs (show _<=1000 by simp) (by decide))]
     have t1:nc [PV.tup [i,.tup [.int 1,.int 1]]] h=.ok (.tup [.tup [i,.tup [.int 1,.int 1]]]) h:=by unfold nc;rw[e_ (qs (show _<=1000 by simp) (by decide))]
     have Z:nc [i,.tup [.int 1,.int 1]] h=.ok (.tup [i,.tup [.int 1,.int 1]]) h:=by unfold nc;rw[e_ (qs (show _<=1000 by simp) (by decide))]
     have t3:jj (.tup [.tup [i,.tup [.int 1,.int 1]]]) (.tup f) h=.ok (.tup (.tup [i,.tup [.int 1,.int 1]]::f)) h:=by show(if [PV.tup [i,.tup [.int 1,.int 1]]]≠[]then nc ([PV.tup [i,.tup [.int 1,.int 1]]]++f) h else .bad)=_;rw[e_ (by simp)];unfold nc;rw[e_ (qs (show _<=1000 by simp;ext) (by decide))];rfl
     simp[cY,t0,t1,Z,t3]
    have b:CY (sE v0 v1 a { e with e0:=J i,e1:=J C,e2:=J (.tup j),e3:=J (.tup f)}) h=.nx (sE v0 v1 a { e with e0:=J i,e1:=J C,e2:=J (.tup j),e3:=J (.tup f),e4:=e4,e5:=e5,e6:=e6,e7:=e7}) h1:=by unfold CY;rw[fP,W,aB];exact e1
    rw[b];exact e3
   .cases u
  .cases u
def xz{it:MIt}(f:∀h,it.ok h):∀(xs ys:QL)(z:QE)(h:MH)(m:Nat),m=h.length->ys.length+xs.length<1000->zo it m (mA 0) nw GB xs [z] (h++[.lst ys])=.ok () (h++[.lst (ys++List.replicate xs.length (.tup [.int 0,.int 1]))])
 |[],ys,z,h,m,i,hl=>by rw[lT (f _)];simp
 |x::xs,ys,z,h,m,i,hl=>by
  subst i;have j:GB [J x] (h++[.lst ys])=.ok (.tup [.int 0,.int 1]) (h++[.lst ys]):=by unfold GB cY;simp[nc,sizeLine]
  rw[lz (Z1:=[J x]) (h1:=h++[.lst ys]) (h2:=h++[.lst ys]) (h3:=h++[.lst ys]) (f _) rfl rfl j nU (by simp at hl;ext)];have l:(h++[MO.lst ys]).set h.length (.lst (ys++[.tup [.int 0,.int 1]]))=h++[.lst (ys++[.tup [.int 0,.int 1]])]:=by simp
  rw[l,xz f xs _ (J x) h _ rfl (by simp at hl ⊢;ext),Aw,He,KZ];rfl
def tY{it:MIt}{n:Nat}(B:n<900)(i:∀h,it.ok h):∀(xs:QL)(f:List Rd)(ms:QP)(z:QE)(h:MH),Gr h h0.length a ms f->h0.length<=h.length->(∀j:Nat,j<h0.length->h[j]?=h0[j]?)->ms.length+xs.length<1000 ->
  ∃h' l,zo it a (mA 0) nw (bI 1 [] (cQ (ae (af 1) b_)) (mA 0) nw GB) xs [z,J (.int (n:Int))] h=.ok () h'/\Gr h' h0.length a l (f++List.replicate xs.length (Y,List.replicate n (.tup [.int 0,.int 1])))/\h0.length<=h'.length/\∀j:Nat,j<h0.length->h'[j]?=h0[j]?
 |[],f,ms,z,h,g,hl,kp,u=>⟨h,ms,lT (i h),by simpa using g,hl,kp⟩
 |x::xs,f,ms,z,h,g,hl,kp,u=>by
  have rep:∀k:Nat,c_ (List.replicate k (D.tup [.int 0,.int 1]))=I/\Rps 0 [] [] (List.replicate k (D.tup [.int 0,.int 1])) (List.replicate k (.tup [.int 0,.int 1])):=λk=>by
   induction k with
   |zero=>exact⟨rfl,rfl⟩
   |succ k y=>exact⟨by simp[He,c_,flat,y.1],_,_,rfl,⟨_,rfl,_,_,rfl,rfl,_,_,rfl,rfl,rfl⟩,y.2⟩
  have E:=uA g (r:=(Y,List.replicate n (.tup [.int 0,.int 1]))) (xs:=List.replicate n (.tup [.int 0,.int 1])) hl (rep n).1 (rep n).2;have H:=g.ge a (by simp);obtain⟨h',l,e',L,C,G⟩:=tY B i xs _ _ (J x) _ E (by simp;ext) (λj M=>by rw[p6 (by ext),q7 (by ext)];exact kp j M) (by simp at u ⊢;ext);refine⟨h',l,?_,by rw[Aw,He,List.append_cons];exact L,C,G⟩;have F:bI 1 [] (cQ (ae (af 1) b_)) (mA 0) nw GB [J x,J (.int (n:Int))] h=.ok (.loc h.length) (h++[.lst (List.replicate n (.tup [.int 0,.int 1]))]):=by rw[iF,FI (n:=n) (h1:=h) rfl (by ext),Out.bind_ok];refine(congrArg (λz:Out Unit=>z.bind _) (xz (it:=⟨bH 0 n,[]⟩) (λ_=>d7.mpr trivial) (bH 0 n) [] Y h h.length rfl (by rw[MM.dQ];simp;ext))).trans ?_;rw[MM.dQ,List.nil_append];rfl
  rw[lz (Z1:=[J x,J (.int (n:Int))]) (h1:=h) (h2:=h) (v:=.loc h.length) (h3:=h++[mo Y (List.replicate n (.tup [.int 0,.int 1]))]) (ys:=ms.map .loc) (i h) rfl rfl F (by rw[q7 (au g.top)];exact g.top) (by simp at u ⊢;ext)];exact e'
end
def jn:Fn where
 m:=cX
 p:=LO
 fr:=I
 ok {q h O vs ds s} bd hq pn r:=by
  unfold LO;split
  .rename_i n wk
   split
   .rename_i cn
    obtain⟨fw,n0,n9⟩:=cn;split
    .rename_i rd c s1 U
     split
     .rename_i d s2 ed
      split
      .rename_i fd
       have E:=r;obtain⟨v0,t0,rfl,L,v1,t1,rfl,G,F⟩:=r;rw[show t1=[]from F]at E ⊢;rw[show v0=PV.int n from L]at E ⊢;obtain⟨l,f,rfl,Q,C,ro⟩:=G;obtain⟨k,rfl⟩:∃k:Nat,n=(k:Int):=⟨n.toNat,by ext⟩;rw[Br]at U;have B:q<h.length:=bd q hq;obtain⟨u,ms,e1,W,l1,X⟩:=tY (h0:=h) (a:=h.length) (n:=k) (it:=⟨bH 0 k,[]⟩) (by ext) (λ_=>d7.mpr trivial) (bH 0 k) [] [] Y (h++[.lst []]) ⟨by simp,rfl,by simp,λm hm=>by simp at hm;ext,λi r e=>by simp at e⟩ (by simp) (λn F=>q7 F) (by rw[MM.dQ];simp;ext);rw[MM.dQ,List.nil_append]at W;have I0:MuI q h u s h.length ms (List.replicate k (Y,List.replicate k (.tup [.int 0,.int 1]))):=⟨l1,λj M _=>X j M,by unfold aW;rw[X q B];exact pn,W⟩;have o0:O8 ⟨Y,Y,Y,Y,Y,Y,Y,Y⟩ ⟨Y,Y,Y,Y,Y,Y,Y,Y⟩:=⟨λ_ z=>(by cases z),λ_ z=>(by cases z),λ_ z=>(by cases z),λ_ z=>(by cases z),λ_ z=>(by cases z),λ_ z=>(by cases z),λ_ z=>(by cases z),λ_ z=>(by cases z)⟩
       obtain⟨h2,e2,em,P,o2⟩:=xU (it:=⟨f,[(l,f)]⟩) (λh' s' ai H=>by
        intro p hp
        have:p=(l,f):=by simpa using hp
        subst this
        exact(H.mv l (au C) λz=>Q (z▸hq)).trans C) bd hq E wk f _ _ _ u s fw (Rps.fq fw ro) o0 I0 U
       have Z:=rQ.ok (DZ P bd hq E o2);rw[ed]at Z;obtain⟨v,R,e3,kb,y,_,rz,_⟩:=Z;have S:=P.kb B kb y;have run:cX [.int (k:Int),.loc l] h=.ok v R:=by
        unfold cX;rw[d3 (by rfl)];unfold qp;rw[show bh 11 [.int (k:Int),.loc l]=[J (.int (k:Int)),J (.loc l),Y,Y,Y,Y,Y,Y,Y,Y,Y]from rfl];have c2:aV 2 (bI 1 [0] (cQ (ae (af 0) b_)) (mA 0) nw (bI 1 [] (cQ (ae (af 1) b_)) (mA 0) nw GB)) [J (.int (k:Int)),J (.loc l),Y,Y,Y,Y,Y,Y,Y,Y,Y] h=.nx (sE (.int (k:Int)) (.loc l) h.length ⟨Y,Y,Y,Y,Y,Y,Y,Y⟩) u:=by rw[fi,iF,FI (n:=k) (h1:=h) rfl (by ext),Out.bind_ok];refine(congrArg (λz:Out Unit=>(z.bind _).go _ _) e1).trans ?_;rfl
        rw[aS,c2,MM.ax,aS,fP];have c3:c9 (af 1) (sE (.int (k:Int)) (.loc l) h.length ⟨Y,Y,Y,Y,Y,Y,Y,Y⟩) u=.ok ⟨f,[(l,f)]⟩ u:=by rw[B7];show r_ (.loc l) u=_;exact wM ((I0.mv l (au C) λz=>Q (z▸hq)).trans C)
        rw[c3,aB];refine(congrArg (λz:SOut=>(z.then _).fin) em).trans ?_;rw[MM.ax,uW,e3];rfl
       refine⟨v,R,run,⟨S.len,λj M nq=>S.mv j M nq⟩,y,Rp.fq fd (rz rfl),λ_ kk ab e=>?_⟩;rw[e]at fd;cases kk<;>simp[dl,flat]at fd
      .trivial
     .trivial
    .trivial
   .trivial
  .trivial
abbrev N4:Xd []:=(aM (xg (AR (du (xB (vu (bQ ["tuple"]) (ac 3)))) (AR (xB (ag Al (qr fZ (aa (ac 3) a_)) (xC (.int 2)))) (AR (du (xB (vu (bQ ["int"]) (ag l7 (ac 3) (xC (.int 1)))))) (xB (ag FX (ag l7 (ac 3) (xC (.int 1))) (xC (.int 1))))))) (aZ (xC (.bl T))) ln)
 (xg (du (xB (ao bL (aa (ac 3) (aa (ao be (aa (ag l7 (ac 3) (xC (.int 0))) (aa (ag l7 (ac 3) (xC (.int 1))) a_))) a_))))) (aZ (xC (.bl T))) ln))
abbrev HJ:Xd []:=bn 6 (ao eQ (aa (ac 6) (aa (ao dM (aa (ac 8) (aa (ag l7 (ac 1) (ac 7)) a_))) a_)))
abbrev N5:Xd []:=(aM (bn 6 (bE (aa (xC (.int 0)) (aa (xC (.int 1)) a_))))
 (aM (dG (bT (ac 4)) (tx (lR (i0 7) (lR (i0 8) ts)) 2) HJ)
 (xg (xB (ag Al (ac 6) (ac 5))) (aZ (xC (.bl T))) ln)))
def dB:Xd []:=(aM (xg (AR (du (xB (vu (bQ ["list"]) (ac 1)))) (xB (ag Al (qr fZ (aa (ac 1) a_)) (ag l7 (ac 0) (xC (.int 0)))))) (aZ (xC (.bl T))) ln)
 (aM (dG (bT (ac 1)) (i0 3) N4)
 (aM (dG (cg iZ (aa (ag l7 (ac 0) (xC (.int 1))) (aa (ac 2) a_))) (tx (lR (i0 4) (lR (i0 5) ts)) 2) N5)
 (aZ (xC (.bl I))))))
def cA:Fn:=bM 9 3 dB
def pc{a:QQ}{s:d_}(h:a.length=3):cA.p a s=(dB.p (m_ 9 a) s).fin:=bj h
def fN:Xd []:=(aM (bn 2 (xC .non))
 (aM (qL "NoPivot" 2 (bn 2 (ao bv (aa (ac 0) (aa (qr gh (aa (ac 1) a_)) a_)))))
 (aZ (ac 2))))
def cD:Fn:=bM 3 2 fN
def tP{a:QQ}{s:d_}(h:a.length=2):cD.p a s=(fN.p (m_ 3 a) s).fin:=bj h
def vY:nr:=(aQ (aV 1 (ba fS.m (ae (af 0) b_)))
 (aQ (aV 2 (ba cZ.m (ae (af 0) (ae (af 1) b_))))
 (aQ (aV 3 (ba fe.m (ae (af 0) (ae (af 1) (ae (af 2) (ae (ay jj (ay jj (mC (.int 1)) (ba cM (ae (af 0) (ae (mC (.int 4)) b_)))) (ay ki (mC (.int 2)) (qo Bk (ae (ay Am (af 1) (mC (.int 12))) b_)))) b_))))))
 (aQ (aV 4 (ba cX (ae (af 1) (ae (af 3) b_))))
 (aQ (aV 5 (bI 1 [0] (cQ (ae (af 1) b_)) (mA 0) nw (ba dm.m (ae (af 1) b_))))
 (aQ (aV 6 (qo qx (ae (af 5) b_)))
 (aQ (aV 7 (qo qx (ae (af 3) b_)))
 (aQ (aV 8 (ba bp.m (ae (af 1) (ae (af 3) (ae (af 6) b_)))))
 (aQ (Ax (Ht (mz (mB (ba cA.m (ae (af 4) (ae (af 8) (ae (af 5) b_)))))) (Ht (mB (ay An (af 6) (af 5))) (mB (ay An (af 3) (af 7))))) (bO (mC (.bl T))) n7)
 (aQ (aV 9 (qo qx (ae (af 8) b_)))
 (aQ (fM (AW cV (af 8) (ae (mC .non) b_)))
 (aQ (fM (AW cV (af 6) (ae (mC .non) b_)))
 (aQ (Ax (Ht (mz (mB (ba bL.m (ae (ba bp.m (ae (af 1) (ae (af 3) (ae (qo qx (ae (af 5) b_)) b_)))) (ae (af 9) b_))))) (mz (mB (ba bL.m (ae (ba bp.m (ae (af 1) (ae (ba bv.m (ae (af 4) (ae (af 2) b_))) (ae (af 5) b_)))) (ae (af 9) b_)))))) (bO (mC (.bl T))) n7)
 (aQ (Ax (mz (mB (ba bL.m (ae (ba bp.m (ae (af 1) (ae (af 3) (ae (bI 1 [] (cQ (ae (af 1) b_)) (mA 0) nw (cY (ae (mC (.int 0)) (ae (mC (.int 1)) b_)))) b_)))) (ae (bI 1 [] (cQ (ae (af 1) b_)) (mA 0) nw (cY (ae (mC (.int 0)) (ae (mC (.int 1)) b_)))) b_))))) (bO (mC (.bl T))) n7)
 (aQ (aV 10 (ba cD.m (ae (af 4) (ae (ba cZ.m (ae (af 0) (ae (af 1) b_))) b_))))
 (bO (BX (ay (Fp T) (af 10) (mC .non)) (ba bL.m (ae (ba bp.m (ae (af 1) (ae (af 10) (ae (af 5) b_)))) (ae (af 9) b_))))))))))))))))))))
def eX:QL->MH->QX:=cr 11 1 vY
def Bo:nr:=(bO (qo AJ (ae (bI 1 [0] (cQ (ae (qo AI (ae (mC (.int 1)) (ae (qo zb (ae (qo q_ (ae (af 0) b_)) (ae (mC (.int 10)) b_))) b_))) b_)) (mA 0) nw (ba eX (ae (ba jD (ae (af 1) (ae (af 0) b_))) b_))) b_)))
def AT:QL->MH->QX:=cr 1 1 Bo
end
end Law
namespace Law
open MM PU SetT SortT
open L2 (vf pz fW)
set_option maxHeartbeats 1000000
def rC{lo:Int}{c:Nat}:(eO lo c).length=c:=by simp[eO]
def Ac{c i:Nat}{x:D}(h:(eO 0 c)[i]?=J x):x=.int (i:Int)/\i<c:=by unfold eO at h;rw[u_,As]at h;obtain⟨k,f,rfl⟩:=h;obtain⟨a,b⟩:=qi.mp f;simp at a b;subst b;exact⟨by simp,a⟩
def uq{f:QP}{env:aw}{s s1:d_}{o:DO}{i:Nat}{a:Xs f}{l:f.contains i=I}{j:a.fz=I}{as ds ds':QQ}{r:D}(e1:a.p env s=.ok as s1)(e2:env[i]?=J (J (.lst ds)))(e3:o.p ds as=J (r,ds')):(DP o i a l j).p env s=.nx (env.set i (J (.lst ds'))) s1:=by rw[JD,xo e1 e2 e3]
abbrev nD(t b:Int):D:=.tup [.int t,.int b]
def j9{a b:Int}(i:0<=a)(f:0<=b):Int.gcd b (a % b)=Int.gcd a b:=by obtain⟨m,rfl⟩:=OF i;obtain⟨n,rfl⟩:=OF f;show Nat.gcd n (m % n)=Nat.gcd m n;rw[Nat.gcd_comm m n,Nat.gcd_rec n m,Nat.gcd_comm]
def m6{a b:Int}(f:0<b):oW.p (.int a) (.int b)=J (.int (a % b)):=by rw[Cs (by ext),KN _ (by ext)]
def sM{a b:Int}(f:b≠0):Co.p (.int a) (.int b)=J (.int (a.fdiv b)):=e_ f
def lB{a b:Int}(f:0<b):Co.p (.int a) (.int b)=J (.int (a/b)):=by rw[sM (by ext),Int.fdiv_eq_ediv_of_nonneg _ (by ext)]
def GC{a:Int}:(if a<0 then -a else a)=(a.natAbs:Int):=by split<;>ext
def wz{a:Int}:oB.p [.int a]=J (.int (a.natAbs:Int)):=by show J (D.int (if a<0 then -a else a))=_;rw[GC]
def Ku{a:QP}{N:Nat}{t:Xt a}{b:Xd a}(f:∀{Z h n},bY t.m b.m n Z h≠.bad->Fm t.m b.m Z h=bY t.m b.m n Z h){env:aw}{s:d_}:(Jv N t b f).p env s=eI t.p b.p N env s:=rfl
def sR{b r:Int}(a:0<r)(j:r<b):0<=b % r/\b % r<r/\2*(b % r)<b:=by
 have u:=HW b (show r≠0 by ext);have y:=HV b a;have i:=Int.mul_ediv_add_emod b r;have f:1<=b/r:=by rw[Int.le_ediv_iff_mul_le a];ext
 have l:r*1<=r*(b/r):=Int.mul_le_mul_of_nonneg_left f (by ext);ext
def eU{a:Int}(h:0<=a):((Int.gcd a 0:Nat):Int)=a:=by rw[Int.gcd_zero_right];ext
def Kv{x y:QB}{a b:Int}{n:Nat}{s:d_}(f:0<b):eI rM.p rj.p (n+1) [x,y,J (.int a),J (.int b)] s=eI rM.p rj.p n [x,y,J (.int b),J (.int (a % b))] s:=by rw[eI];simp[m6 f,f]
def GD{x y:QB}{a:Int}{n:Nat}{s:d_}:eI rM.p rj.p (n+1) [x,y,J (.int a),J (.int 0)] s=.nx [x,y,J (.int a),J (.int 0)] s:=rfl
def C4{x y:QB}{s:d_}:∀(k n:Nat)(a b:Int),0<=a->0<=b->b<2^k->2*k+1<=n->eI rM.p rj.p n [x,y,J (.int a),J (.int b)] s=.nx [x,y,J (.int (Int.gcd a b)),J (.int 0)] s:=by
 intro k
 induction k with
 |zero =>
  intro n a b j i C z;obtain⟨m,rfl⟩:∃m,n=m+1:=⟨n-1,by ext⟩
  have:b=0:=by ext
  subst this;rw[GD,eU j]
 |succ k B =>
  intro n a b j i C z;obtain⟨m,rfl⟩:∃m,n=m+1+1:=⟨n-2,by ext⟩;by_cases e:b=0
  .subst e;rw[GD,eU j]
  .have f:0<b:=by ext
   rw[Kv f,<-j9 j i];have l:=HW a e;have u:=HV a f;generalize a % b=r at l u ⊢;by_cases F:r=0
   .subst F;rw[GD,eU i]
   .obtain⟨E,H,G⟩:=sR (by ext) u;rw[Kv (by ext),<-j9 i l];refine B m r (b % r) l E ?_ (by ext);ext
abbrev qD(q:Rat):D:=nD q.num (q.den:Int)
def sz(q:Rat):Nat:=max (q.num.natAbs.log2+1) (q.den.log2+1)
def ya(n:Nat):n<2^(n.log2+1):=Nat.lt_log2_self
def bU(q:Rat):q.num.natAbs<2^sz q:=sw (ya _) (Es (by decide) (Nat.le_max_left _ _))
def bA(q:Rat):q.den<2^sz q:=sw (ya _) (Es (by decide) (Nat.le_max_right _ _))
def rH{n k:Nat}(a:0<k)(h:n<2^k):n.log2+1<=k:=by
 rcases Nat.eq_zero_or_pos n with e|e
 .subst e;simp only[Nat.log2_zero];ext
 .exact (Nat.log2_lt (by ext)).mpr h
def Kw{q:Rat}{k:Nat}(a:0<k)(i:q.num.natAbs<2^k)(f:q.den<2^k):sz q<=k:=Nat.max_le.mpr ⟨rH a i,rH a f⟩
def sk(q:Rat):0<sz q:=sw (Nat.succ_pos _) (Nat.le_max_left _ _)
def oJ(t:Int)(b:Nat)(a:b≠0):(Rat.divInt t b).num=t/(Nat.gcd t.natAbs b:Int)/\(Rat.divInt t b).den=b/Nat.gcd t.natAbs b:=by rw[Rat.divInt_ofNat];unfold mkRat;rw[dif_neg a,Rat.normalize_eq];exact⟨rfl,rfl⟩
def C5{t:Int}{g:Nat}:(t/(g:Int)).natAbs<=t.natAbs:=Int.natAbs_ediv_le_natAbs t g
def gq{t:Int}{b k:Nat}(i:b≠0)(j:0<k)(f:t.natAbs<2^k)(a:b<2^k):sz (Rat.divInt t b)<=k:=by
 obtain⟨e1,e2⟩:=oJ t b i;refine Kw j ?_ ?_
 .rw[e1];exact KY C5 f
 .rw[e2];exact KY (Nat.div_le_self _ _) a
def oN(p q:Rat):p+q=Rat.divInt (p.num*q.den+q.num*p.den) ((p.den*q.den:Nat):Int):=by
 have:=Rat.divInt_add_divInt p.num q.num (d₁:=p.den) (d₂:=q.den) (by have:=p.den_nz;ext) (by have:=q.den_nz;ext)
 simp_all
def jw(p q:Rat):p*q=Rat.divInt (p.num*q.num) ((p.den*q.den:Nat):Int):=by
 have:=Rat.divInt_mul_divInt p.num q.num (d₁:=p.den) (d₂:=q.den)
 rw[Rat.num_divInt_den,Rat.num_divInt_den]at this;rw[this];rfl
def bP{a b j k:Nat}(i:a<2^j)(f:b<2^k):a*b<2^(j+k):=by rw[K6];exact L_ i f
def kG(p q:Rat):sz (p*q)<=sz p+sz q:=by rw[jw];refine gq (Dy p.den_nz q.den_nz) (by have:=sk p;ext) ?_ (bP (bA p) (bA q));rw[BD];exact bP (bU p) (bU q)
def GF(p:Rat):sz (-p)=sz p:=by unfold sz;rw[Rat.neg_num,Rat.neg_den,Int.natAbs_neg]
local macro_rules | `(tactic| simp! [$a,*]) => `(tactic| simp only [$a,*, Pb, aA, am, aq, az])
local macro_rules | `(tactic| dsimp! [$a,*]) => `(tactic| simp only [$a,*, Pb, aq])
def iq{t:Int}{b k:Nat}{s:d_}(l:b≠0)(u:b<2^k)(C:k<=950000):be.p [.int t,.int (b:Int)] s=.ok (qD (Rat.divInt t b)) s:=by
 obtain⟨e1,e2⟩:=oJ t b l;have f:((b:Nat):Int)<2^k:=by
  have:=Int.ofNat_lt.mpr u
  simpa using this
 have i:0<(Nat.gcd t.natAbs b:Int):=by
  have:0<Nat.gcd t.natAbs b:=OE _ (by ext)
  ext
 rw[tN (by rfl)];unfold fJ;have e0:m_ 4 [D.int t,.int (b:Int)]=[J (.int t),J (.int (b:Int)),Y,Y]:=rfl;have q:=C4 (x:=J (.int t)) (y:=J (.int (b:Int))) (s:=s) k 2000000 (t.natAbs:Int) ((b:Int).natAbs:Int) (by ext) (by ext) (by simpa using f) (by ext);rw[e0];dsimp![aH,F4,am,az,cE,wz];refine(congrArg (λz:PS=>(z.then _).fin) q).trans ?_;have j:=lB (a:=t) i;have B:=lB (a:=(b:Int)) i;rw[qD,e1,e2];simp[show ¬(b:Int)<0 by ext,j,B]
def uv{a:Int}{k:Nat}(h:a.natAbs<2^k)(f:k<=1000000):Builtin.Int.intBits a<=2^20:=by
 unfold Builtin.Int.intBits;rcases Nat.eq_zero_or_pos k with e|e
 .simp_all
 .have:=rH e h
  split<;>ext
def bF{a b:Int}{j k:Nat}(i:a.natAbs<2^j)(f:b.natAbs<2^k)(l:j<=1000000:=by ext)(u:k<=1000000:=by ext):br.p (.int a) (.int b)=J (.int (a*b)):=e_ (IntMulOk.of_bits (uv i l) (uv f u))
def z0{x y:D}:pz [x,y] 0=J x:=rfl
def z1{x y:D}:pz [x,y] 1=J y:=rfl
def xH{p q:Rat}{s:d_}(h:sz p+sz q<=900000):eQ.p [qD p,qD q] s=.ok (qD (p+q)) s:=by
 have u:=bU p;have i:=bA p;have j:=bU q;have f:=bA q;rw[xJ (by rfl)];unfold ik;rw[show m_ 2 [qD p,qD q]=[J (qD p),J (qD q)]from rfl];have l:=iq (t:=p.num*q.den+q.num*p.den) (s:=s) (Dy p.den_nz q.den_nz) (bP (bA p) (bA q)) (by ext);rw[<-oN,Hj]at l
 simp![bN,aE,aJ,bJ,aU,lF,z0,z1,Pf,bF (b:=(q.den:Int)) u (by simpa using f),bF (b:=(p.den:Int)) j (by simpa using i),dY,l,Pg,PU.bS,bF (a:=(p.den:Int)) (b:=(q.den:Int)) (by simpa using i) (by simpa using f)]
def uP{p q:Rat}{s:d_}(h:sz p+sz q<=900000):dM.p [qD p,qD q] s=.ok (qD (p*q)) s:=by have j:=bU p;have u:=bA p;have f:=bU q;have i:=bA q;rw[vX (by rfl)];unfold gz;rw[show m_ 2 [qD p,qD q]=[J (qD p),J (qD q)]from rfl];have l:=iq (t:=p.num*q.num) (s:=s) (Dy p.den_nz q.den_nz) (bP (bA p) (bA q)) (by ext);rw[<-jw,Hj]at l;simp![bN,aE,aJ,bJ,aU,lF,z0,z1,Pf,bF j f,bF (a:=(p.den:Int)) (b:=(q.den:Int)) (by simpa using u) (by simpa using i),l,Pg,PU.bS]
def zZ{t:Int}{b:Nat}(a:b≠0)(i:t.natAbs<=1000000)(f:b<=1000000):sz (Rat.divInt t b)<=20:=gq a (by decide) (by ext) (by ext)
def qj{t b:Int}{s:d_}(i:1<=b)(a:t.natAbs<=1000000)(f:b<=1000000):∃q:Rat,be.p [.int t,.int b] s=.ok (qD q) s/\sz q<=20:=by obtain⟨n,rfl⟩:=jx (show 0<=b by ext);exact⟨_,iq (k:=20) (by ext) (by ext) (by ext),zZ (by ext) a (by ext)⟩
def PH{x:QB}{a b:Int}{n:Nat}{s:d_}(f:0<b):eI Kq.p Kr.p (n+1) [J (.int a),J (.int b),x] s=eI Kq.p Kr.p n [J (.int b),J (.int (a % b)),J (.int (a % b))] s:=by rw[eI];simp[m6 f,show ¬b=0 by ext]
def N6{x:QB}{a:Int}{n:Nat}{s:d_}:eI Kq.p Kr.p (n+1) [J (.int a),J (.int 0),x] s=.nx [J (.int a),J (.int 0),x] s:=rfl
def GG{s:d_}:∀(k n:Nat)(a b:Int)(x:QB),0<=a->0<=b->b<2^k->2*k+1<=n->∃C,eI Kq.p Kr.p n [J (.int a),J (.int b),x] s=.nx [J (.int (Int.gcd a b)),J (.int 0),C] s:=by
 intro k
 induction k with
 |zero =>
  intro n a b x j i B y;obtain⟨m,rfl⟩:∃m,n=m+1:=⟨n-1,by ext⟩
  have:b=0:=by ext
  subst this;exact⟨x,by rw[N6,eU j]⟩
 |succ k z =>
  intro n a b x j i B y;obtain⟨m,rfl⟩:∃m,n=m+1+1:=⟨n-2,by ext⟩;by_cases e:b=0
  .subst e;exact⟨x,by rw[N6,eU j]⟩
  .have f:0<b:=by ext
   rw[PH f,<-j9 j i];have l:=HW a e;have u:=HV a f;generalize a % b=r at l u ⊢;by_cases F:r=0
   .subst F;exact⟨_,by rw[N6,eU i]⟩
   .obtain⟨E,H,G⟩:=sR (by ext) u;rw[PH (by ext),<-j9 i l];refine z m r (b % r) _ l E ?_ (by ext);ext
def Kx{a k:Nat}(h:a<2^k):((a:Nat):Int)<2^k:=by
 have:=Int.ofNat_lt.mpr h
 simpa using this
def yB{a b k:Nat}{s:d_}(f:b<2^k)(j:k<=950000):bW.p [.int (a:Int),.int (b:Int)] s=.ok (.int (Nat.gcd a b:Int)) s:=by
 rw[ld (by rfl)];unfold bV;obtain⟨i,q⟩:=GG (s:=s) k 2000000 (a:Int) (b:Int) Y (by ext) (by ext) (Kx f) (by ext);rw[show m_ 3 [D.int (a:Int),.int (b:Int)]=[J (.int (a:Int)),J (.int (b:Int)),Y]from rfl,aH,Ku rR]
 simp_all
def uR{i:Int}{s:d_}:dg.p [.int i] s=.ok (.bl I) s:=rfl
def C6{t b:Int}(a:b≠0):Rat.divInt t b=Rat.divInt (if b<0 then -t else t) (b.natAbs:Nat):=by
 split
 .have:((b.natAbs:Nat):Int) = -b:=by ext
  rw[this];exact(Rat.neg_divInt_neg t b).symm
 .have:((b.natAbs:Nat):Int)=b:=by ext
  rw[this]
def w8{t:Int}{g:Nat}(hg:0<g)(hd:(g:Int) ∣ t):t.fdiv (-(g:Int))=(-t)/(g:Int):=by
 obtain⟨c,rfl⟩:=hd;have a:(g:Int)≠0:=by ext
 have e1:((g:Int)*c).fdiv (-(g:Int)) = -c:=by rw[show(g:Int)*c=(-(g:Int))*(-c) by rw[Int.neg_mul_neg],Int.mul_fdiv_cancel_left _ (by ext)]
 rw[e1,<-Int.mul_neg,Int.mul_ediv_cancel_left _ a]
def gi{t b:Int}{k:Nat}{s:d_}(u:b≠0)(C:b.natAbs<2^k)(F:k<=950000):bB.p [.int t,.int b] s=.ok (qD (Rat.divInt t b)) s:=by
 have i:b.natAbs≠0:=by ext
 have y:0<Nat.gcd t.natAbs b.natAbs:=OE _ (by ext);have sh:=yB (a:=t.natAbs) (s:=s) C F;rw[C6 u];obtain⟨e1,e2⟩:=oJ (if b<0 then -t else t) b.natAbs i;have G:(if b<0 then -t else t).natAbs=t.natAbs:=by split<;>simp
 rw[sZ (by rfl)];unfold eB;rw[show m_ 3 [D.int t,.int b]=[J (.int t),J (.int b),Y]from rfl];simp![aH,bK,lW,dN,cq,aE,uR,PR.bl,Bc,vI,if_false,Pg,bt,PU.ax,aJ,bJ,aU,gT,im,Pf,decide_eq_false u,bu,cE,wz,sh,Ae,F1];have E:(Nat.gcd t.natAbs b.natAbs:Int) ∣ t:=Int.ofNat_dvd_left.mpr (Nat.gcd_dvd_left _ _);have B:(Nat.gcd t.natAbs b.natAbs:Int) ∣ b:=Int.ofNat_dvd_left.mpr (Nat.gcd_dvd_right _ _);by_cases z:b<0
 .rw[decide_eq_true z];have f:Co.p (.int t) (.int (-(Nat.gcd t.natAbs b.natAbs:Int)))=J (.int ((-t)/(Nat.gcd t.natAbs b.natAbs:Int))):=by rw[sM (by ext),w8 y E]
  have l:Co.p (.int b) (.int (-(Nat.gcd t.natAbs b.natAbs:Int)))=J (.int ((-b)/(Nat.gcd t.natAbs b.natAbs:Int))):=by rw[sM (by ext),w8 y B]
  have e3:(-b:Int)=(b.natAbs:Nat):=by ext
  rw[qD,e1,e2,e_ z];have j:mT.p (.int (Nat.gcd t.natAbs b.natAbs:Int))=J (.int (-(Nat.gcd t.natAbs b.natAbs:Int))):=rfl;simp[f,l,e3,j]
 .rw[decide_eq_false z];have f:=lB (a:=t) (b:=(Nat.gcd t.natAbs b.natAbs:Int)) (by ext);have l:=lB (a:=b) (b:=(Nat.gcd t.natAbs b.natAbs:Int)) (by ext);have e3:((b.natAbs:Nat):Int)=b:=by ext
  rw[qD,e1,e2,hI z];simp[f,l,e3]
def kJ(a:Nat)(f:List Rat):Nat:=f.foldl (λa q=>a*q.den/Nat.gcd a q.den) a
def uF:∀(f:List Rat)(a:Nat),a ∣ kJ a f/\∀q∈f,q.den ∣ kJ a f
 |[],a=>⟨Nat.dvd_refl _,by simp⟩
 |q::f,a=>by
  obtain⟨j,l⟩:=uF f (Nat.lcm a q.den);refine⟨Nat.dvd_trans (Nat.dvd_lcm_left _ _) j,λp i=>?_⟩;rcases p_.mp i with rfl|i
  .exact Nat.dvd_trans (Nat.dvd_lcm_right _ _) j
  .exact l p i
def oZ:∀(f:List Rat)(a:Nat),0<a->0<kJ a f
 |[],a,h=>h
 |q::f,a,h=>by exact oZ f _ (Nat.lcm_pos h (Nat.pos_of_ne_zero q.den_nz))
def GH(a:List Rat):Nat:=(a.map sz).sum
def yR{q:Rat}{a:List Rat}:GH (q::a)=sz q+GH a:=by simp[GH]
def yi:∀(f:List Rat)(a k:Nat),a<2^k->kJ a f<2^(k+GH f)
 |[],a,k,h=>by simpa [GH,kJ]using h
 |q::f,a,k,h=>by
  have i:Nat.lcm a q.den<2^(k+sz q):=KY (Nat.div_le_self _ _) (bP h (bA q))
  have:=yi f _ _ i
  rwa [Nat.add_assoc]at this
def Ky{p q:Rat}{s:d_}(h:sz p+sz q<=900000):fu.p [qD p,qD q] s=.ok (qD (p+q)) s:=by
 have l:=bU p;have f:=bU q;have dp:=bA p;have a:=bA q;have e1:br.p (.int p.num) (.int (q.den:Int))=J (.int (p.num*q.den)):=bF (j:=sz p) (k:=sz q) l (by simpa using a);have e2:br.p (.int q.num) (.int (p.den:Int))=J (.int (q.num*p.den)):=bF (j:=sz q) (k:=sz p) f (by simpa using dp);have e3:br.p (.int (p.den:Int)) (.int (q.den:Int))=J (.int ((p.den:Int)*q.den)):=bF (j:=sz p) (k:=sz q) (by simpa using dp) (by simpa using a);have i:((p.den:Int)*q.den)≠0:=Hk (by have:=p.den_nz;ext) (by have:=q.den_nz;ext);have dl:((p.den:Int)*q.den).natAbs<2^(sz p+sz q):=by rw[BD];exact bP (by simpa using dp) (by simpa using a)
 have nn:=gi (t:=p.num*q.den+q.num*p.den) (s:=s) i dl (by ext);rw[CQ (by rfl)];unfold kO;rw[show m_ 2 [qD p,qD q]=[J (qD p),J (qD q)]from rfl];simp![bN,aE,aJ,bJ,aU,lF,z0,z1,Pf,e1,e2,e3,dY,nn,Pg,PU.bS];rw[oN p q,Hj]
def sB{p q:Rat}{s:d_}(h:sz p+sz q<=900000):cC.p [qD p,qD q] s=.ok (qD (p*q)) s:=by
 have j:=bU p;have f:=bU q;have dp:=bA p;have a:=bA q;have e1:=bF j f;have e3:br.p (.int (p.den:Int)) (.int (q.den:Int))=J (.int ((p.den:Int)*q.den)):=bF (by simpa using dp) (by simpa using a);have i:((p.den:Int)*q.den)≠0:=Hk (by have:=p.den_nz;ext) (by have:=q.den_nz;ext);have dl:((p.den:Int)*q.den).natAbs<2^(sz p+sz q):=by exact bP (by simpa using dp) (by simpa using a)
 have nn:=gi (t:=p.num*q.num) (s:=s) i dl (by ext);rw[yM (by rfl)];unfold jm;rw[show m_ 2 [qD p,qD q]=[J (qD p),J (qD q)]from rfl];simp![bN,aE,aJ,bJ,aU,lF,z0,z1,Pf,e1,e3,nn,Pg,PU.bS];rw[jw p q,Hj]
def C7(p q:Rat):p-q=Rat.divInt (p.num*q.den-q.num*p.den) ((p.den*q.den:Nat):Int):=by rw[Rat.sub_eq_add_neg,oN,Rat.neg_num,Rat.neg_den];rw[Int.neg_mul,Int.sub_eq_add_neg]
def qY{p q:Rat}{s:d_}(h:sz p+sz q<=900000):eV.p [qD p,qD q] s=.ok (qD (p-q)) s:=by
 have j:=bU p;have f:=bU q;have dp:=bA p;have a:=bA q;have e1:br.p (.int p.num) (.int (q.den:Int))=J (.int (p.num*q.den)):=bF j (by simpa using a);have e2:br.p (.int q.num) (.int (p.den:Int))=J (.int (q.num*p.den)):=bF f (by simpa using dp);have e3:br.p (.int (p.den:Int)) (.int (q.den:Int))=J (.int ((p.den:Int)*q.den)):=bF (by simpa using dp) (by simpa using a);have i:((p.den:Int)*q.den)≠0:=Hk (by have:=p.den_nz;ext) (by have:=q.den_nz;ext);have dl:((p.den:Int)*q.den).natAbs<2^(sz p+sz q):=by exact bP (by simpa using dp) (by simpa using a)
 have nn:=gi (t:=p.num*q.den-q.num*p.den) (s:=s) i dl (by ext);rw[zt (by rfl)];unfold ju;rw[show m_ 2 [qD p,qD q]=[J (qD p),J (qD q)]from rfl];simp![bN,aE,aJ,bJ,aU,lF,z0,z1,Pf,e1,e2,e3,jt,nn,Pg,PU.bS];rw[C7 p q,Hj]
def C9{p q:Rat}:p/q=Rat.divInt (p.num*q.den) ((p.den:Int)*q.num):=by rw[Rat.div_def,Rat.inv_def,jw];have a:=Rat.num_divInt_den p;have e:Rat.divInt p.num p.den*Rat.divInt (q.den:Int) q.num=Rat.divInt (p.num*q.den) ((p.den:Int)*q.num):=Rat.divInt_mul_divInt ..;rw[<-jw,<-e,a]
def D_{p q:Rat}{s:d_}(a:q≠0)(h:sz p+sz q<=900000):fG.p [qD p,qD q] s=.ok (qD (p/q)) s:=by
 have u:=bU p;have f:=bU q;have dp:=bA p;have l:=bA q;have e1:br.p (.int p.num) (.int (q.den:Int))=J (.int (p.num*q.den)):=bF u (by simpa using l);have e3:br.p (.int (p.den:Int)) (.int q.num)=J (.int ((p.den:Int)*q.num)):=bF (by simpa using dp) f;have i:=λz=>a (Rat.num_eq_zero.mp z);have j:((p.den:Int)*q.num)≠0:=Hk (by have:=p.den_nz;ext) i;have dl:((p.den:Int)*q.num).natAbs<2^(sz p+sz q):=by rw[BD];exact bP (by simpa using dp) f
 have nn:=gi (t:=p.num*q.den) (s:=s) j dl (by ext);rw[CT (by rfl)];unfold kL;rw[show m_ 2 [qD p,qD q]=[J (qD p),J (qD q)]from rfl];simp![bN,aE,aJ,bJ,aU,lF,z0,z1,Pf,e1,e3,nn,Pg,PU.bS];rw[C9]
def GJ{s:d_}:∃(n:Nat)(M:d_),fS.p [.pen] s=.ok (.int (n:Int)) M/\(n<=6\/n=12):=by
 obtain⟨a,E,S,R,L⟩:=cu (s:=s) (size:=16) (by decide) (by decide);rw[wF (by rfl)];unfold iH;rw[show m_ 1 [D.pen]=[J .pen]from rfl,aH,bK];dsimp![cq,aJ,aE,am,bJ,aU,az,L,gT,im,vI,if_false,Pf,Pl,Pg,decide_eq_true_eq];by_cases z:a=15
 .exact⟨12,E,by rw[e_ z];rfl,.inr rfl⟩
 .obtain⟨b,F,H,Q,P⟩:=cu (s:=E) (size:=8) (by decide) (by decide);have O:∀{f C j u y i l B:D}{s:d_},(if [f,C,j,u,y,i,l,B].length<=100000 then PR.ok (D.lst [f,C,j,u,y,i,l,B]) s else .bad)=.ok (.lst [f,C,j,u,y,i,l,B]) s:=λ{f C j u y i l B s}=>e_ (by simp);obtain⟨m,G,em⟩:∃m:Nat,m<=6/\pz [D.int 4,.int 3,.int 5,.int 2,.int 6,.int 1,.int 0,.int 3] b=J (.int (m:Int)):=by
   obtain⟨k,rfl⟩:=jx H
   have:k<8:=by ext
   match k,this with
   |0,_=>exact⟨4,by decide,rfl⟩
   |1,_=>exact⟨3,by decide,rfl⟩
   |2,_=>exact⟨5,by decide,rfl⟩
   |3,_=>exact⟨2,by decide,rfl⟩
   |4,_=>exact⟨6,by decide,rfl⟩
   |5,_=>exact⟨1,by decide,rfl⟩
   |6,_=>exact⟨0,by decide,rfl⟩
   |7,_=>exact⟨3,by decide,rfl⟩
  refine⟨m,F,?_,.inl G⟩;rw[hI z,bt,PU.ax];dsimp![bN,aJ,rX,am,aE,bJ,aU,az,O,P,hU,em,Pf,Pg,PU.bS]
def Sm(q:Rat):Prop:=q≠0/\∃z:Int,q=Rat.divInt z 12/\z.natAbs<=3060
def um{w:Bool}{s:d_}:∃q Q,cG.p [.pen,.bl w] s=.ok (qD q) Q/\Sm q:=by
 rw[vG (by rfl)];unfold gC;rw[show m_ 3 [D.pen,.bl w]=[J .pen,J (.bl w),Y]from rfl,aH,bK];have tw:∀{s:d_},(JI (ac 1):Xt []).p [J .pen,J (.bl w),Y] s=.ok w s:=λ{s}=>by cases w<;>rfl
 rw[tw,Pg]
 cases w with
 |true =>
  obtain⟨a,u,U,O,B⟩:=cu (s:=s) (size:=255) (by decide) (by decide);obtain⟨b,l,L,H,C⟩:=cu (s:=u) (size:=2) (by decide) (by decide);have S:br.p (.int 2) (.int b)=J (.int (2*b)):=bF (j:=4) (k:=4) (by decide) (by ext);have E:br.p (.int (1+a)) (.int (1-2*b))=J (.int ((1+a)*(1-2*b))):=bF (j:=10) (k:=4) (by ext) (by ext);have G:∀{x y:D}{s:d_},(if [x,y].length<=100000 then PR.ok (D.tup [x,y]) s else .bad)=.ok (.tup [x,y]) s:=λ{x y s}=>e_ (by simp);have tl:((1+a)*(1-2*b))≠0/\((1+a)*(1-2*b)).natAbs<=255:=by
   have:b=0\/b=1:=by ext
   rcases this with rfl|rfl<;>ext
  generalize W:(1+a)*(1-2*b)=f at E tl;have eq:qD (f:Rat)=.tup [.int f,.int 1]:=by simp[qD,nD]
  refine⟨(f:Rat),l,?_,?_,12*f,?_,by ext⟩
  .rw[eq,e_ rfl];dsimp![bN,dL,am,aJ,bJ,aU,aE,az,B,C,dY,jt,S,E,Pf,G,Pg,PU.oU,PU.bS]
  .exact λz=>tl.1 (by exact_mod_cast z)
  .rw[Rat.divInt_eq_div];push_cast
   grind
 |false =>
  rw[hI (by simp),bt,PU.ax,aH,bu];obtain⟨a,u,U,O,B⟩:=cu (s:=s) (size:=12) (by decide) (by decide);obtain⟨b,l,L,H,C⟩:=cu (s:=u) (size:=4) (by decide) (by decide);dsimp![aJ,aE,am,bJ,aU,az,B,jt,Pf,Pg,Ae,yH,PU.ax];obtain⟨t,R,P,tl⟩:∃t:Int,(a-6+if decide (0<=a-6)=I then 1 else 0)=t/\t≠0/\t.natAbs<=6:=by refine⟨_,rfl,?_,?_⟩<;>(simp only[decide_eq_true_eq];split<;>ext)
  obtain⟨c,M⟩:=jx (i:=1+b) (by ext);have F:=iq (t:=t) (b:=c) (k:=4) (s:=l) (by ext) (by ext) (by decide);refine⟨Rat.divInt t c,l,?_,?_,t*((12/c:Nat):Int),?_,?_⟩
  .simp![bN,aE,aJ,cE,bJ,aU,F3,Pf,yg,dY,R,C,M,F,Pg,PU.bS]
  .intro z;rw[Rat.divInt_eq_div]at z;have c0:((c:Int):Rat)≠0:=by
    have:(c:Int)≠0:=by ext
    exact_mod_cast this
   have:(t:Rat)=0:=by grind
   exact P (by exact_mod_cast this)
  .have:c=1\/c=2\/c=3\/c=4:=by ext
   rw[Rat.divInt_eq_div,Rat.divInt_eq_div];rcases this with rfl|rfl|rfl|rfl<;>(push_cast;grind)
  .have:c=1\/c=2\/c=3\/c=4:=by ext
   rcases this with rfl|rfl|rfl|rfl<;>simp<;>ext
def zT{s:d_}:∃q O,dm.p [.pen] s=.ok (qD q) O/\sz q<=20:=by
 obtain⟨w,B,U,R,C⟩:=cu (s:=s) (size:=8) (by decide) (by decide);rw[tF (by rfl)];unfold fE;rw[show m_ 2 [D.pen]=[J .pen,Y]from rfl];by_cases E:w=7
 .subst E;obtain⟨a,i,Q,F,u⟩:=cu (s:=B) (size:=2*10^6-1) (by decide) (by decide);obtain⟨b,f,G,M,y⟩:=cu (s:=i) (size:=10^6-1) (by decide) (by decide);obtain⟨q,l,z⟩:=qj (t:=a-10^6+1) (b:=1+b) (s:=f) (by ext) (by ext) (by ext);refine⟨q,f,?_,z⟩;have L:qU.p (.int 10) (.int 6)=J (.int (10^6)):=e_ ⟨by decide,by decide,by decide⟩;have P:br.p (.int 2) (.int (10^6))=J (.int (2*10^6)):=bF (j:=2) (k:=20) (by decide) (by decide);simp![aH,bu,aE,bJ,aU,C,Pg,Ae,yH,PU.ax,bK,cq,aJ,gT,im,Pf,PR.bl,decide_true,if_true,bN,vI,if_false,L,P,jt,u,dY,y,l,PU.oU,PU.bS]
 .obtain⟨m,em,H,S⟩:∃m:Int,pz [D.int 1,.int 1,.int 5] (w % 3)=J (.int m)/\0<m/\m<=5:=by
   obtain e|e | e:w % 3=0\/w % 3=1\/w % 3=2:=by ext
   .rw[e];exact⟨1,rfl,by decide,by decide⟩
   .rw[e];exact⟨1,rfl,by decide,by decide⟩
   .rw[e];exact⟨5,rfl,by decide,by decide⟩
  obtain⟨a,i,Q,F,u⟩:=cu (s:=B) (size:=13) (by decide) (by decide);obtain⟨b,f,G,M,y⟩:=cu (s:=i) (size:=m) H (by ext);obtain⟨q,l,z⟩:=qj (t:=a-6) (b:=1+b) (s:=f) (by ext) (by ext) (by ext);refine⟨q,f,?_,z⟩;simp![aH,bu,aE,bJ,aU,C,Pg,Ae,yH,PU.ax,bK,cq,aJ,gT,im,Pf,PR.bl,decide_eq_false E,if_true,bN,vI,if_false,m6 (show(0:Int)<3 by decide),rX,Aw,List.length_nil,show(0+1+1+1:Nat)<=100000 by decide,hU,em,jt,u,dY,y,l,bt,PU.bS]
structure On(n:Nat)(ns:QP):Prop where
 n12:n<=12
 pm:ns.Perm (List.range n)
def On.len{n:Nat}{ns:QP}(o:On n ns):ns.length=n:=by have:=o.pm.length_eq;simpa using this
def On.nd{n:Nat}{ns:QP}(o:On n ns):ns.Nodup:=o.pm.symm.nodup K1
def On.lt{n:Nat}{ns:QP}(o:On n ns):∀x∈ns,x<n:=λx a=>by simpa using o.pm.mem_iff.mp a
abbrev inD'(x:Nat):D:=.int (x:Int)
abbrev mh(ns:QP):D:=.lst (ns.map inD')
def uX{n:Nat}{s:d_}(B:n<=12):∃ns i,cZ.p [.pen,.int (n:Int)] s=.ok (mh ns) i/\On n ns:=by
 rw[we (by rfl)];unfold gD;have e0:m_ 4 [D.pen,.int (n:Int)]=[J .pen,J (.int (n:Int)),Y,Y]:=rfl;obtain⟨u,i,e,z,f,rfl,pm⟩:=fT (g:=(i0 3:Xg [2]).p) (b:=(DP x6 2 (aa (ao bf (aa (ac 0) (aa (ag dJ (ac 3) (xC (.int 1))) a_))) (aa (ac 3) a_)):Xd [2]).p)
  (λj env i=>∃z f,env=[J .pen,J (.int (n:Int)),J (mh f),z]/\f.Perm (List.range j)) (eO 0 n) 0 [J .pen,J (.int (n:Int)),J (.lst []),Y] s ⟨Y,[],rfl,by simp⟩ (λj env i d ⟨z,f,F,pm⟩ hd=>by
   rw[Ex]at pm ⊢;subst F;obtain⟨rfl,H⟩:=Ac hd;have C:f.length=j:=by have:=pm.length_eq;simpa using this
   obtain⟨d,l,y,G,E⟩:=cu (s:=i) (size:=(j:Int)+1) (by ext) (by ext);obtain⟨k,rfl⟩:=jx y;refine⟨[J .pen,J (.int (n:Int)),J (mh f),J (.int (j:Int))],[J .pen,J (.int (n:Int)),J (mh (f.take k++j::f.drop k)),J (.int (j:Int))],l,rfl,?_,_,f.take k++j::f.drop k,rfl,?_⟩
   .rw[uq (s1:=l) (as:=[.int (k:Int),.int (j:Int)]) (ds':=(f.take k++j::f.drop k).map inD') (r:=.non) (by simp[E]) rfl (by
     rw[xx (by simp;ext) (by simp;ext)];simp)]
    rfl
   .have:(f.take k++j::f.drop k).Perm (j::f):=by
     have:=List.perm_middle (a:=j) (l₁:=f.take k) (l₂:=f.drop k)
     rwa [List.take_append_drop]at this
    refine this.trans ((pm.cons _).trans ?_);rw[List.range_succ]
    exact(List.perm_append_singleton _ _).symm)
 rw[rC,Ex]at pm;refine⟨f,i,?_,B,pm⟩;have st:(gb 2 (jk a_):Xd [2]).p [J .pen,J (.int (n:Int)),Y,Y] s=.nx [J .pen,J (.int (n:Int)),J (.lst []),Y] s:=by simp
 rw[e0,aH,st,PU.ax,aH,fA,gu,am];dsimp![aA,az];rw[qF (by ext),Br,Pf,Pg,e,PU.ax,oA rfl,PU.bS]
def p4(n:Nat)(ns:QP)(k:Nat):QP:=(List.range n).filter λx=>decide (x∈ns.drop (k+1))
def ce{n:Nat}{ns:QP}{k x:Nat}(o:On n ns):x∈p4 n ns k↔x∈ns.drop (k+1):=by unfold p4;rw[AO,decide_eq_true_eq,Bb];exact⟨λh=>h.2,λh=>⟨o.lt x (HP h),h⟩⟩
def iD{n:Nat}{ns:QP}{k:Nat}(o:On n ns):(p4 n ns k).Perm (ns.drop (k+1)) :=
 (List.perm_ext_iff_of_nodup (K1.filter _) (o.nd.sublist (L5 _ _))).mpr λx=>ce o
def lD{n:Nat}{ns:QP}{k:Nat}:(p4 n ns k).Pairwise (·<·):=OI.filter _
def pI{ns:QN}(hl:ns.length<64):fb.p [.lst (ns.map .int)]=J (.lst ((gG ns).map .int)):=by
 have e:∀ns:QN,j8 (ns.map .int)=J ns:=λns=>by
  induction ns with
  |nil=>rfl
  |cons i k a=>rw[n_,j8,a];rfl
 show(qC (ns.map .int)).map _=_;simp only[qC,e];rw[e_ hl];rfl
def pq{n:Nat}{ns:QP}{k:Nat}(o:On n ns)(i:k<n):fb.p [.lst (i5 (ns.map inD') (J ((k:Int)+1)) Y)]=J (mh (p4 n ns k)):=by
 have f:=o.len;have n12:=o.n12;have e1:i5 (ns.map inD') (J ((k:Int)+1)) Y=((ns.drop (k+1)).map λ(x:Nat)=>(x:Int)).map .int:=by unfold i5;rw[HT.yX,v4,show(k:Int)+1=((k+1:Nat):Int) by ext,HT.BO,Nat.min_eq_left (by ext),y6,<-List.map_drop];exact OH (by simp)
 rw[e1,pI (by simp;ext)];have e2:gG ((ns.drop (k+1)).map λ(x:Nat)=>(x:Int))=(p4 n ns k).map λ(x:Nat)=>(x:Int) :=
  jh (mR _) (lD.map _ (λa b h=>by ext)) ((iO _).trans ((iD o).symm.map _))
 rw[e2,y6];rfl
abbrev Pt:=Nat×Rat
abbrev lw(p:Pt):D:=.tup [.int (p.1:Int),qD p.2]
structure Wk where
 (v:Nat) (p:Rat) (r c:List Pt)
abbrev p8(w:Wk):D:=.tup [.int (w.v:Int),qD w.p,.tup (w.r.map lw),.tup (w.c.map lw)]
structure PtS(ls:QP)(ps:List Pt):Prop where
 sub:(ps.map (·.1)).Sublist ls
 sm:∀p∈ps,Sm p.2
structure WkOk(n:Nat)(ns:QP)(k:Nat)(w:Wk):Prop where
 v:ns[k]?=J w.v
 p:Sm w.p
 r:PtS (p4 n ns k) w.r
 c:PtS (p4 n ns k) w.c
def mw{g:D->aw->Option aw}{t:aw->d_->PR Bool}{e:aw->d_->PR D}(S:aw->Prop):∀(i:QP)(env:aw)(s:d_),S env ->
  (∀x∈i,∀env s,S env->∃a,g (inD' x) env=J a/\S a/\∃b z,t a s=.ok b z/\(b=I->∃q B,e a z=.ok (lw (x,q)) B/\Sm q)) ->
  ∃j H,cT g t e (i.map inD') env s=.ok (j.map lw) H/\PtS i j
 |[],env,s,E,f=>⟨[],s,rfl,⟨List.Sublist.slnil,λ_ h=>nomatch h⟩⟩
 |x::i,env,s,E,f=>by
  obtain⟨a,e1,u,b,z,e2,e3⟩:=f x (by simp) env s E;have rest:=λy F=>f y (p5 x F);rw[n_,cT,e1];dsimp only;rw[e2,Pb]
  cases b with
  |true =>
   obtain⟨q,B,e4,G⟩:=e3 rfl;obtain⟨j,C,e5,l⟩:=mw S i a B u rest;refine⟨(x,q)::j,C,by simp only[if_true,e4,Pb,e5,n_],⟨l.sub.cons₂ _,λp h=>?_⟩⟩;rcases p_.mp h with rfl|h
   .exact G
   .exact l.sm p h
  |false =>
   obtain⟨j,C,e5,l⟩:=mw S i a z u rest;exact⟨j,C,by simp only[vI,if_false,e5],⟨l.sub.cons _,l.sm⟩⟩
def PtS.of{a:QP}{f i:List Pt}(h:PtS a f)(s:i.Sublist f):PtS a i:=⟨(s.map _).trans h.sub,λp j=>h.sm p (s.subset j)⟩
def uf{ps:List Pt}{lo hi:QV}:∃a:List Pt,i5 (ps.map lw) lo hi=a.map lw/\a.Sublist ps:=by unfold i5;exact⟨(ps.drop _).take _,by rw[List.map_take,List.map_drop],(List.take_sublist _ _).trans (L5 _ _)⟩
def Kz{env:aw}{a:QP}{w:Bool}{sm:Int}{s:d_}(e0:env[0]?=J (J .pen))(e4:env[4]?=J (J (.bl w)))(e3:env[3]?=J (J (.int sm)))(E:env[9]?=J (J (mh a)))(M:0<sm)(R:sm<=100)(hl:a.length<=100):∃f j,LN.p env s=.ok (.lst (f.map lw)) j/\PtS a f:=by
 have F:∀{x y:D}{s:d_},(if [x,y].length<=100000 then PR.ok (D.tup [x,y]) s else .bad)=.ok (.tup [x,y]) s:=λ{x y s}=>e_ (by simp);have fm:(([0,4,3]:QP).map λi=>(env[i]?).getD Y)=[J .pen,J (.bl w),J (.int sm)]:=by simp[e0,e4,e3]
 obtain⟨f,j,e,L⟩:=mw (g:=(i0 0:Xg []).p) (t:=(xB (ag Ay (ao bf (aa (ac 1) (aa (ac 3) a_))) (xC (.int 0))):Xt []).p) (e:=(bE (aa (ac 0) (aa (ao cG (aa (ac 1) (aa (ac 2) a_))) a_)):Xe []).p) (λv=>∃z,v=z::[J .pen,J (.bl w),J (.int sm)]) a (t_ 1 [0,4,3] env) s ⟨Y,by unfold t_;rw[fm];rfl⟩ (λx Q u s ⟨z,G⟩=>by
  subst G;obtain⟨d,l,P,S,H⟩:=cu (s:=s) (size:=sm) M (by ext);refine⟨_,rfl,⟨J (inD' x),rfl⟩,_,l,by simp![cq,aJ,aE,yH,bJ,aU,H,gT,im,Pf,Pl];rfl,λ_=>?_⟩;obtain⟨q,B,C,O⟩:=um (w:=w) (s:=l)
  exact⟨q,B,by simp![dL,yH,aE,C,F],O⟩)
 refine⟨f,j,?_,L⟩;show(bx 1 [0,4,3] (bT (ac 9)) (ws':=[]) (i0 0) _ _:Xe [6]).p env s=_;rw[jE,gx,pB E,Pb];show(PR.of (J (a.map inD')) s).bind _=_;rw[Pf,Pb,e_ (by simp;ext),e]
 try rfl
abbrev PJ:Xd [6]:=(aM (bn 9 (qr fb (aa (By (ac 2) (Bx (ag dJ (ac 7) (xC (.int 1)))) Bw) a_)))
 (aM (bn 10 LN)
 (aM (bn 11 LN)
 (DP x5 6 (aa (bE (aa (ac 8) (aa (ao cG (aa (ac 0) (aa (ac 4) a_))) (aa (qr cW (aa (By (ac 10) (Bx (vu mT (ac 5))) Bw) a_)) (aa (qr cW (aa (By (ac 11) Bw (Bx (ac 5))) a_)) a_))))) a_)))))
abbrev Ea(n:Nat)(ns:QP)(sm most:Int)(w:Bool)(ks:List Wk)(z7 z8 z9 z10 z11:QB):aw:=[J .pen,J (.int (n:Int)),J (mh ns),J (.int sm),J (.bl w),J (.int most),J (.lst (ks.map p8)),z7,z8,z9,z10,z11]
def N7{n:Nat}{ns:QP}{sm most:Int}{w:Bool}{ks:List Wk}{k x:Nat}{z9 z10 z11:QB}{s:d_}(o:On n ns)(H:ns[k]?=J x)(P:0<sm)(O:sm<=100)(kl:ks.length<=100):
  ∃G X j l s',PJ.p (Ea n ns sm most w ks (J (.int (k:Int))) (J (inD' x)) z9 z10 z11) s=.nx (Ea n ns sm most w (ks++[G]) (J (.int (k:Int))) (J (inD' x)) X j l) s'/\WkOk n ns k G:=by
 have ol:=o.len;have n12:=o.n12;have W:k<n:=by have:=(qi.mp H).1;ext
 have lt:=pq o W;have L:(p4 n ns k).length<=100:=by have:=(iD (k:=k) o).length_eq;simp at this;ext
 obtain⟨C,R,e1,E⟩:=Kz (env:=Ea n ns sm most w ks (J (.int (k:Int))) (J (inD' x)) (J (mh (p4 n ns k))) z10 z11) (s:=s) rfl rfl rfl rfl P O L;obtain⟨M,Q,e2,i⟩:=Kz (env:=Ea n ns sm most w ks (J (.int (k:Int))) (J (inD' x)) (J (mh (p4 n ns k))) (J (.lst (C.map lw))) z11) (s:=R) rfl rfl rfl rfl P O L;obtain⟨q,F,e3,B⟩:=um (w:=w) (s:=Q);obtain⟨f,er,hr⟩:=uf (ps:=C) (lo:=J (-most)) (hi:=Y);obtain⟨a,U,Z⟩:=uf (ps:=M) (lo:=Y) (hi:=J most);have en:mT.p (.int most)=J (.int (-most)):=rfl;have S:∀{x y z u:D}{s:d_},(if [x,y,z,u].length<=100000 then PR.ok (D.tup [x,y,z,u]) s else .bad)=.ok (.tup [x,y,z,u]) s:=λ{x y z u s}=>e_ (by simp);refine⟨⟨x,q,f,a⟩,J (mh (p4 n ns k)),J (.lst (C.map lw)),J (.lst (M.map lw)),F,?_,⟨H,B,E.of hr,i.of Z⟩⟩;rw[aH,bu];simp![cE,DU,DT,aJ,bJ,aU,dY,Pf,DS,DV,lt,Pg,Ae,yH,PU.ax];rw[aH,bu];rw[e1,Pg,PU.ax];simp only[Ae,yH];rw[aH,bu,e2,Pg,PU.ax];simp only[Ae,yH]
 rw[uq (s1:=F) (as:=[p8 ⟨x,q,f,a⟩]) (ds:=ks.map p8) (ds':=ks.map p8++[p8 ⟨x,q,f,a⟩]) (r:=.non) (by
  simp![dL,aE,e3,cE,DU,DT,qR,en,Pf,DS,DV,er,U,mS,S]) rfl (xX (by simp;ext))]
 unfold Ea;rw[Ma];rfl
def C_{n:Nat}{ns:QP}{sm:Int}{s:d_}(o:On n ns)(h0:0<sm)(Z:sm<=100):∃G C,fe.p [.pen,.int (n:Int),mh ns,.int sm] s=.ok (.lst (G.map p8)) C/\(G:List Wk).length=n/\∀(k:Nat)(w:Wk),G[k]?=J w->WkOk n ns k w:=by
 have ol:=o.len;have n12:=o.n12;obtain⟨a,E,a0,a9,qa⟩:=cu (s:=s) (size:=8) (by decide) (by decide);obtain⟨f,em⟩:∃m:Int,pz [D.int (n:Int),.int 3] (if decide ((6:Int)<(n:Int))=I then 1 else 0)=J (.int m):=by
  by_cases z:(6:Int)<(n:Int)
  .exact⟨3,by simp only[z,decide_true,if_true];rfl⟩
  .exact⟨n,by simp only[z,decide_false,vI,if_false];rfl⟩
 have u2:∀{x y:D}{s:d_},(if [x,y].length<=100000 then PR.ok (D.lst [x,y]) s else .bad)=.ok (.lst [x,y]) s:=λ{x y s}=>e_ (by simp);obtain⟨Q,R,e,i,M,H,B,l,u,rfl,kl,O⟩:=fT (g:=(tx (lR (i0 7) (lR (i0 8) ts)) 2:Xg [6]).p) (b:=PJ.p)
  (λj env C=>∃i M H B l u,env=Ea n ns sm f (decide (a=7)) i M H B l u/\(i:List Wk).length=j/\∀(k:Nat)(w:Wk),i[k]?=J w->WkOk n ns k w) (bz (ns.map inD')) 0 (Ea n ns sm f (decide (a=7)) [] Y Y Y Y Y) E ⟨[],_,_,_,_,_,rfl,rfl,λ(k:Nat) w h=>by simp at h⟩ (λj env C d ⟨i,M,H,B,l,u,hE,kl,O⟩ hd=>by
   subst hE;have L:j<ns.length:=by have:=(qi.mp hd).1;simpa [bz]using this
   obtain⟨x,P⟩:∃x,ns[j]?=J x:=⟨ns[j],vE L⟩;have F:d=.tup [.int (j:Int),inD' x]:=by unfold bz at hd;rw[u_,KU,u_,P]at hd;simp at hd;exact hd.symm
   subst F;obtain⟨X,y9,S,U,W,e,hw⟩:=N7 (most:=f) (w:=decide (a=7)) (ks:=i) (z9:=B) (z10:=l) (z11:=u) (s:=C) o P h0 Z (by ext);refine⟨_,_,W,rfl,e,i++[X],_,_,_,_,_,rfl,by simp[kl],λk w h=>?_⟩;by_cases z:k<i.length
   .rw[q7 z]at h;exact O k w h
   .have zz:k=j:=by
     have:=(qi.mp h).1
     simp at this;ext
    subst zz;rw[AA (by ext),show k-i.length=0 by ext]at h;cases h
    exact hw)
 refine⟨i,R,?_,by rw[kl];simp[bz,ol],O⟩;rw[vj (by rfl)];unfold gB;rw[show m_ 12 [D.pen,.int (n:Int),mh ns,.int sm]=[J .pen,J (.int (n:Int)),J (mh ns),J (.int sm),Y,Y,Y,Y,Y,Y,Y,Y]from rfl];rw[aH,bu];dsimp![aJ,aE,am,bJ,aU,az,qa,gT,im,vI,if_false,Pf,Pg,Ae,yH,PU.ax];rw[aH,bu];simp![aJ,rX,bJ,aU,u2,cE,F2,Pf,yg,hU,em,Pg,Ae,yH,PU.ax];rw[aH];have st:(gb 6 (jk a_):Xd [6]).p [J .pen,J (.int (n:Int)),J (mh ns),J (.int sm),J (.bl (decide (a=7))),J (.int f),Y,Y,Y,Y,Y,Y] E=.nx (Ea n ns sm f (decide (a=7)) [] Y Y Y Y Y) E:=by simp[xn]
 rw[st,PU.ax,aH,fA,gu,am];dsimp![aA,az,JG,Pf,Pg];refine(congrArg (λz:PS=>(z.then _).fin) e).trans ?_;rw[PU.ax,oA (d:=.lst (i.map p8)) rfl,PU.bS]
def kT{α:Type}{g:D->aw->Option aw}{t:aw->d_->PR Bool}{e:aw->d_->PR D}{s:d_}(S:aw->Prop)(item i:α->D)(p:α->Bool):∀(l:List α)(env:aw),S env ->
  (∀x∈l,∀env,S env->∃a,g (item x) env=J a/\S a/\t a s=.ok (p x) s/\(p x=I->e a s=.ok (i x) s))->cT g t e (l.map item) env s=.ok ((l.filter p).map i) s
 |[],env,z,f=>rfl
 |x::l,env,z,f=>by
  obtain⟨a,e1,u,e2,e3⟩:=f x (by simp) env z;have B:=kT S item i p l a u λy C=>f y (p5 _ C);rw[n_,cT,e1];dsimp only;rw[e2]
  cases j:p x with
  |true=>simp only[Pb,if_true,e3 j,B,KP j,n_]
  |false=>simp only[Pb,vI,if_false,B,KQ (show ¬p x=I by simp[j])]
def jB{α:Type}{ws ws':QP}{env:aw}{s s0:d_}{fm:QP}{i:Xi ws}{t:Xt ws'}{e:Xe ws'}{l:List α}(item a:α->D)(p:α->Bool)(C:i.p env s0=.ok (l.map item) s)(hl:l.length<=100000)(f:∀x∈l,t.p (J (item x)::fm.map λi=>(env[i]?).getD Y) s=.ok (p x) s/\(p x=I->e.p (J (item x)::fm.map λi=>(env[i]?).getD Y) s=.ok (a x) s))(y:ws'.contains 0=T:=by exact ys rfl)(hw:AY 1 fm ws=ws':=by exact ys rfl)(j:e.fz=I:=by exact ys rfl):
  (bx 1 fm i (i0 0 y) t e hw j).p env s0=.ok (.lst ((l.filter p).map a)) s:=by
 rw[jE,C,Pb,e_ (by simpa using hl)]
 have:=kT (g:=(i0 0 y:Xg ws').p) (λv=>∃z,v=z::fm.map λi=>(env[i]?).getD Y) item a p l (t_ 1 fm env) ⟨Y,rfl⟩ λx B u ⟨z,j⟩=>by
  subst j;exact⟨_,rfl,⟨J (item x),rfl⟩,f x B⟩
 rw[this]
def GK{α:Type}{ws ws':QP}{env:aw}{s s0:d_}{fm:QP}{i:Xi ws}{t:Xt ws'}{e:Xe ws'}{l:List α}(A B:α->D)(a:α->D)(p:α->Bool)(G:i.p env s0=.ok (l.map λx=>.tup [A x,B x]) s)(hl:l.length<=100000)(f:∀x∈l,t.p (J (A x)::J (B x)::fm.map λi=>(env[i]?).getD Y) s=.ok (p x) s/\(p x=I->e.p (J (A x)::J (B x)::fm.map λi=>(env[i]?).getD Y) s=.ok (a x) s))(E:ws'.contains 0=T:=by exact ys rfl)(C:ws'.contains 1=T:=by exact ys rfl)(hw:AY 2 fm ws=ws':=by exact ys rfl)(j:e.fz=I:=by exact ys rfl):
  (bx 2 fm i (tx (lR (i0 0 E) (lR (i0 1 C) ts)) 2) t e hw j).p env s0=.ok (.lst ((l.filter p).map a)) s:=by
 rw[jE,G,Pb,e_ (by simpa using hl)]
 have:=kT (g:=(tx (lR (i0 0 E) (lR (i0 1 C) ts)) 2:Xg ws').p) (λv=>∃y z,v=y::z::fm.map λi=>(env[i]?).getD Y) (λx=>.tup [A x,B x]) a p l (t_ 2 fm env) ⟨Y,Y,rfl⟩ λx F u ⟨y,z,j⟩=>by
  subst j;exact⟨_,rfl,⟨J (A x),J (B x),rfl⟩,f x F⟩
 rw[this]
def Cm(m:Nat)(q:Rat):Prop:=∃z:Int,q=Rat.divInt z 144/\z.natAbs<=m
def Cm.sz{m k:Nat}{q:Rat}(h:Cm m q)(i:m<2^k)(a:8<=k):sz q<=k:=by obtain⟨z,rfl,f⟩:=h;exact gq (by decide) (by ext) (by ext) (sw (by decide) (Es (by decide) a))
def Cm.mono{m a:Nat}{q:Rat}(h:Cm m q)(i:m<=a):Cm a q:=let⟨z,e,f⟩:=h;⟨z,e,by ext⟩
def Cm.zero(m:Nat):Cm m 0:=⟨0,by decide +kernel,by simp⟩
def Cm.add{m a:Nat}{p q:Rat}(h:Cm m p)(f:Cm a q):Cm (m+a) (p+q):=by
 obtain⟨z,rfl,i⟩:=h;obtain⟨y,rfl,j⟩:=f;refine⟨z+y,?_,by ext⟩;rw[Rat.divInt_eq_div,Rat.divInt_eq_div,Rat.divInt_eq_div]
 grind
def Tw(q:Rat):Prop:=∃z:Int,q=Rat.divInt z 12/\z.natAbs<=3060
def Sm.tw{q:Rat}(h:Sm q):Tw q:=h.2
def Tw.one:Tw 1:=⟨12,by decide +kernel,by decide⟩
def Tw.zero:Tw 0:=⟨0,by decide +kernel,by decide⟩
def Tw.sz{q:Rat}(h:Tw q):sz q<=12:=by obtain⟨z,rfl,a⟩:=h;exact gq (b:=12) (by decide) (by decide) (by ext) (by decide)
def Tw.mul{p q:Rat}(h:Tw p)(i:Tw q):Cm 9363600 (p*q):=by
 obtain⟨z,rfl,a⟩:=h;obtain⟨y,rfl,f⟩:=i;refine⟨z*y,?_,?_⟩
 .rw[Rat.divInt_eq_div,Rat.divInt_eq_div,Rat.divInt_eq_div];push_cast
  grind
 .rw[BD];exact qs (Nat.mul_le_mul a f) (by decide)
def iG(g:Nat->Nat->Rat)(i j:Nat)(q:Rat):Nat->Nat->Rat:=λa b=>if a=i/\b=j then q else g a b
def bo(n:Nat)(g:Nat->Nat->Rat):List Rd:=(List.range n).map λi=>(Y,(List.range n).map λj=>qD (g i j))
def qZ{n i:Nat}{g:Nat->Nat->Rat}(a:i<n):(bo n g)[i]?=J (Y,(List.range n).map λj=>qD (g i j)):=by unfold bo;simp[a]
def zF{n i j:Nat}{g:Nat->Nat->Rat}{q:Rat}(u:i<n)(y:j<n):(bo n g).set i (Y,((List.range n).map λj=>qD (g i j)).set j (qD q))=bo n (iG g i j q):=by
 unfold bo;apply Dv;intro a;by_cases l:a<n
 .by_cases e:i=a
  .subst e;rw[zO (by simpa using u)];simp only[u_,HS l,Ew,Option.some.injEq,Prod.mk.injEq,true_and];apply Dv;intro b;by_cases f:b<n
   .by_cases e:j=b
    .subst e;simp[f,iG]
    .rw[p6 e];simp[f,iG,Ne.symm e]
   .rw[AN (by simp;ext),AN (by simp;ext)]
  .rw[p6 e];simp only[u_,HS l];simp[iG,Ne.symm e]
 .rw[AN (by simp;ext),AN (by simp;ext)]
def Db{n i:Nat}{g:Nat->Nat->Rat}(a:i<n):l7.p (cR (bo n g)) (.int (i:Int))=J (.lst ((List.range n).map λj=>qD (g i j))):=by exact L2.dX (by rw[u_,qZ a];rfl)
def KA{n i j t:Nat}{wk:D}{g:Nat->Nat->Rat}{f x:Rat}{c:C8}{s:d_}(a:i<n)(l:j<n)(e4:c.c4=J (inD' i))(e5:c.c5=J (qD f))(u:c.c6=J (inD' j))(H:c.c7=J (qD x))(z:Tw f)(y:Tw x)(hg:Cm (9363600*t) (g i j))(P:t<=10000):
  nH (.int (n:Int)) wk (bo n g) c s=J (bo n (iG g i j (g i j+f*x)),s):=by
 have B:pz ((List.range n).map λj=>qD (g i j)) (j:Int)=J (qD (g i j)):=L2.dX (by simp[l]);have M:sz (g i j)<=40:=hg.sz (by ext) (by decide);have O:sz (f*x)<=40:=(z.mul y).sz (by decide) (by decide);have E:=uP (p:=f) (q:=x) (s:=s) (by have:=z.sz;have:=y.sz;ext);have C:=xH (p:=g i j) (q:=f*x) (s:=s) (by ext);have L:sK.p (mE (bo n g) (.int (n:Int)) wk c) s=.ok (qD (g i j+f*x)) s:=by unfold sK mE;rw[e4,e5,u,H];simp![aE,aJ,Db a,Pf,hU,B,E,C]
 have G:vf (bo n g).length (i:Int)=J i:=by unfold bo;simp only[v4,A_];exact MM.ie a
 have F:vf ((List.range n).map λj=>qD (g i j)).length (j:Int)=J j:=by simp only[v4,A_];exact MM.ie l
 unfold nH;rw[L,e4,u];dsimp only;rw[G];dsimp only;rw[qZ a];dsimp only;rw[F];dsimp only;rw[e_ (by rfl:flat (qD (g i j+f*x))=I),zF a l]
def gA(g:Nat->Nat->Rat)(i:Nat)(f:Rat)(a:List Pt):Nat->Nat->Rat:=a.foldl (λg p=>iG g i p.1 (g i p.1+f*p.2)) g
def kS(g:Nat->Nat->Rat)(a f:List Pt):Nat->Nat->Rat:=a.foldl (λg p=>gA g p.1 p.2 f) g
def GL{g:Nat->Nat->Rat}{i j t:Nat}{f x:Rat}(l:Tw f)(u:Tw x)(hg:∀a b,Cm (9363600*t) (g a b)):∀a b,Cm (9363600*(t+1)) (iG g i j (g i j+f*x) a b):=λa b=>by
 unfold iG;split
 .exact (hg i j).add ((l.mul u).mono (by decide))
 .exact (hg a b).mono (by ext)
def Eb{n i:Nat}{z:D}{f:Rat}{s:d_}(B:i<n)(y:Tw f):∀(j:List Pt)(g:Nat->Nat->Rat)(c:C8)(t:Nat),(∀p∈j,p.1<n/\Tw p.2)->c.c4=J (inD' i)->c.c5=J (qD f)->(∀a b,Cm (9363600*t) (g a b))->t+j.length<=10000 ->
  (∃l,CZ (.int (n:Int)) z (j.map lw) (bo n g) c s=J (bo n (gA g i f j),l,s))/\∀a b,Cm (9363600*(t+j.length)) (gA g i f j a b)
 |[],g,c,t,u,e4,e5,hg,E=>⟨⟨c,rfl⟩,hg⟩
 |p::j,g,c,t,u,e4,e5,hg,E=>by
  obtain⟨F,C⟩:=u p (by simp);have L:t+(j.length+1)<=10000:=E;have e:=KA (wk:=z) (c:={ c with c6:=J (inD' p.1),c7:=J (qD p.2)}) (s:=s) B F e4 e5 rfl rfl y C (hg i p.1) (by ext);obtain⟨⟨l,e2⟩,G⟩:=Eb B y j (iG g i p.1 (g i p.1+f*p.2)) { c with c6:=J (inD' p.1),c7:=J (qD p.2)} (t+1) (λq H=>u q (p5 _ H)) e4 e5 (GL y C hg) (by ext);refine⟨⟨l,?_⟩,λa b=>by rw[Aw,show t+(j.length+1)=t+1+j.length by ext];exact G a b⟩;rw[n_,CZ,e];exact e2
def Ec{n v:Nat}{wk:D}{p:Rat}{rs:List Pt}{s:d_}(hr:∀q∈(v,p)::rs,q.1<n/\Tw q.2)(lr:rs.length<=20):∀(f:List Pt)(g:Nat->Nat->Rat)(c:C8)(t:Nat),(∀q∈f,q.1<n/\Tw q.2)->(∀a b,Cm (9363600*t) (g a b))->t+30*f.length<=9000 ->
  (∃y,Bz (.int (n:Int)) wk (.int (v:Int)) (qD p) (rs.map lw) (f.map lw) (bo n g) c s=J (bo n (kS g f ((v,p)::rs)),y,s))/\∀a b,Cm (9363600*(t+30*f.length)) (kS g f ((v,p)::rs) a b)
 |[],g,c,t,j,hg,u=>⟨⟨c,rfl⟩,hg⟩
 |q::f,g,c,t,j,hg,u=>by
  obtain⟨E,B⟩:=j q (by simp);have H:t+30*(f.length+1)<=9000:=u;obtain⟨⟨l,e1⟩,G⟩:=Eb E B ((v,p)::rs) g { c with c4:=J (inD' q.1),c5:=J (qD q.2)} t hr rfl rfl hg (by simp;ext);obtain⟨⟨z,e2⟩,F⟩:=Ec hr lr f (gA g q.1 q.2 ((v,p)::rs)) l (t+30) (λx C=>j x (p5 _ C)) (λa b=>(G a b).mono (by simp;ext)) (by ext);refine⟨⟨z,?_⟩,λa b=>by rw[Aw,show t+30*(f.length+1)=t+30+30*f.length by ext];exact F a b⟩;rw[n_,Bz];have i:CZ (.int (n:Int)) wk (.tup [.int (v:Int),qD p]::rs.map lw) (bo n g) { c with c4:=J (inD' q.1),c5:=J (qD q.2)} s=J (bo n (gA g q.1 q.2 ((v,p)::rs)),l,s):=e1;rw[i];exact e2
structure N8(n:Nat)(w:Wk):Prop where
 v:w.v<n
 p:Tw w.p
 r:∀q∈w.r,q.1<n/\Tw q.2
 c:∀q∈w.c,q.1<n/\Tw q.2
 lr:w.r.length<=12
 lc:w.c.length<=12
def jd(g:Nat->Nat->Rat)(w:Wk):Nat->Nat->Rat:=kS g ((w.v,1)::w.c) ((w.v,w.p)::w.r)
def Ed{n:Nat}{j:D}{s:d_}:∀(f:List Wk)(g:Nat->Nat->Rat)(c:C8)(t:Nat),(∀w∈f,N8 n w)->(∀a b,Cm (9363600*t) (g a b))->t+400*f.length<=8000 ->
  (∃z,C0 (.int (n:Int)) j (f.map p8) (bo n g) c s=J (bo n (f.foldl jd g),z,s))/\∀a b,Cm (9363600*(t+400*f.length)) (f.foldl jd g a b)
 |[],g,c,t,hw,hg,y=>⟨⟨c,rfl⟩,hg⟩
 |w::f,g,c,t,hw,hg,y=>by
  have h:=hw w (by simp);have G:t+400*(f.length+1)<=8000:=y
  obtain⟨⟨u,e1⟩,F⟩:=Ec (wk:=j) (s:=s) (v:=w.v) (p:=w.p) (rs:=w.r) (λq i=>by
   rcases p_.mp i with rfl|i
   .exact⟨h.v,h.p⟩
   .exact h.r q i) (by have:=h.lr;ext) ((w.v,1)::w.c) g { c with c0:=J (.int (w.v:Int)),c1:=J (qD w.p),c2:=J (.tup (w.r.map lw)),c3:=J (.tup (w.c.map lw))} t (λq i=>by
   rcases p_.mp i with rfl|i
   .exact⟨h.v,Tw.one⟩
   .exact h.c q i) hg (by have:=h.lc;simp;ext)
  obtain⟨⟨B,e2⟩,E⟩:=Ed f (jd g w) u (t+400) (λx C=>hw x (p5 _ C)) (λa b=>(F a b).mono (by have:=h.lc;simp;ext)) (by ext);refine⟨⟨B,?_⟩,λa b=>by rw[Aw,show t+400*(f.length+1)=t+400+400*f.length by ext];exact E a b⟩;rw[n_,C0,e_ ⟨by have:=h.lr;simp;ext,by have:=h.lc;simp;ext⟩];have l:Bz (.int (n:Int)) j (.int (w.v:Int)) (qD w.p) (w.r.map lw) (.tup [.int (w.v:Int),.tup [.int 1,.int 1]]::w.c.map lw) (bo n g) { c with c0:=J (.int (w.v:Int)),c1:=J (qD w.p),c2:=J (.tup (w.r.map lw)),c3:=J (.tup (w.c.map lw))} s=J (bo n (jd g w),u,s):=e1;rw[l];exact e2
def bq(n:Nat)(f:Nat->Rat):List Pt:=((List.range n).filter λj=>!decide (f j=0)).map λj=>(j,f j)
def vD(n:Nat)(g:Nat->Nat->Rat):D:=.tup [.int (n:Int),.tup ((List.range n).map λi=>.tup ((bq n (g i)).map lw))]
def ot{a:Bool}{p q:Rat}:Ak a (qD p) (qD q)=J (.bl (if a then !decide (p=q)else decide (p=q))):=by
 have e:(p.num=q.num/\(p.den:Int)=q.den)↔p=q:=⟨λh=>Rat.ext h.1 (by ext),λh=>by subst h;exact⟨rfl,rfl⟩⟩
 have:PyData.eqvAll [PyData.int p.num,.int p.den] [.int q.num,.int q.den]=decide (p=q):=by
  rw[show PyData.eqvAll [PyData.int p.num,.int p.den] [.int q.num,.int q.den]=decide ([p.num,(p.den:Int)]=[q.num,(q.den:Int)])from ja [p.num,(p.den:Int)] [q.num,(q.den:Int)]]
  simp_all
 simp only[Ak,py,A0,Ew];rw[e_ ⟨⟨by simp[zU,vU],by simp[zU,vU]⟩,by simp[SeqAt.shaped,PyData.canLay0,PyData.canLayAll0,PyData.depth,PyData.depthAll],by simp[SeqAt.shaped,PyData.canLay0,PyData.canLayAll0,PyData.depth,PyData.depthAll]⟩];simp only[PyData.eqv,this]
def dw:∀{a:QQ},(∀d∈a,flat d=I)->c_ a=I
 |[],_=>rfl
 |d::a,h=>by
  simp only[c_,Av];exact⟨h d (by simp),dw λx f=>h x (p5 _ f)⟩
def mL(a:List Pt):c_ (a.map lw)=I:=dw λd hd=>by
 obtain⟨p,_,rfl⟩:=tf.mp hd;rfl
def pe(w:Wk):flat (p8 w)=I:=by simp[flat,c_,mL]
def pC{n:Nat}{g:Nat->Nat->Rat}:flat (vD n g)=I:=by
 have:c_ ((List.range n).map λi=>D.tup ((bq n (g i)).map lw))=I:=dw λd hd=>by
  obtain⟨i,_,rfl⟩:=tf.mp hd;simp[flat,mL]
 simp[vD,flat,c_,this]
def GN{n:Nat}{f:Nat->Rat}:bz ((List.range n).map λj=>qD (f j))=(List.range n).map λj=>.tup [inD' j,qD (f j)]:=by
 apply Dv;intro i;unfold bz;rw[u_,KU,u_,u_];by_cases h:i<n
 .simp[h]
 .simp[h]
def N9{n:Nat}{B:D}{g:Nat->Nat->Rat}{c:C8}{s:d_}(E:n<=12):rQ.p (mE (bo n g) (.int (n:Int)) B c) s=.ok (vD n g) s:=by
 have z:∀{x y:D}{s:d_},(if [x,y].length<=100000 then PR.ok (D.tup [x,y]) s else .bad)=.ok (.tup [x,y]) s:=λ{x y s}=>e_ (by simp);have u:∀(f:Nat->Rat)(s:d_),(qr cW (aa (bx 2 [] (cg iE (aa (ac 0) a_)) (ws':=[]) (tx (lR (i0 0) (lR (i0 1) ts)) 2) (xB (ag Al (ac 1) (bE (aa (xC (.int 0)) (aa (xC (.int 1)) a_))))) (bE (aa (ac 0) (aa (ac 1) a_)))) a_):Xe []).p [J (.lst ((List.range n).map λj=>qD (f j)))] s=.ok (.tup ((bq n f).map lw)) s:=λf s=>by
  have q:=GK (ws:=[]) (ws':=[]) (env:=[J (.lst ((List.range n).map λj=>qD (f j)))]) (s:=s) (s0:=s) (fm:=[]) (i:=cg iE (aa (ac 0) a_)) (t:=xB (ag Al (ac 1) (bE (aa (xC (.int 0)) (aa (xC (.int 1)) a_))))) (e:=bE (aa (ac 0) (aa (ac 1) a_))) (l:=List.range n) (λj=>inD' j) (λj=>qD (f j)) (λj=>lw (j,f j)) (λj=>!decide (f j=0)) (by
   dsimp![gu,am,az,JG,Pf,GN]) (by simp;ext) (λj G=>⟨by
    simp![cq,aJ,dL,bJ,aU,z,iJ];rw[show(D.tup [.int 0,.int 1])=qD 0 from rfl,ot];rfl,λ_=>by
    simp![dL,z]⟩)
  rw[cE,am,q];simp only[Pb,az,mS,Pf,bq,y6];rfl
 have a:=jB (ws:=[]) (ws':=[]) (env:=mE (bo n g) (.int (n:Int)) B c) (s0:=s) (fm:=[]) (i:=bT (ac 2)) (t:=pu) (e:=(qr cW (aa (bx 2 [] (cg iE (aa (ac 0) a_)) (ws':=[]) (tx (lR (i0 0) (lR (i0 1) ts)) 2) (xB (ag Al (ac 1) (bE (aa (xC (.int 0)) (aa (xC (.int 1)) a_))))) (bE (aa (ac 0) (aa (ac 1) a_)))) a_))) (l:=List.range n) (λi=>.lst ((List.range n).map λj=>qD (g i j))) (λi=>.tup ((bq n (g i)).map lw)) (λ_=>I) (by
  rw[gx];show(PR.ok (cR (bo n g)) s).bind _=_;show PR.of (J ((bo n g).map λr=>dl r.1 r.2)) s=_;unfold bo
  rw[y6];rfl) (by simp;ext) (λi F=>⟨rfl,λ_=>u (g i) s⟩)
 unfold rQ;rw[dL,am];show(((PR.ok (D.int (n:Int)) s).bind _).bind _)=_;rw[Pb,am,cE,am,a];have C:(List.range n).filter (λ_=>I)=List.range n:=KW.mpr (by simp);rw[C];rfl
def GO{n:Nat}{ws:List Wk}{s:d_}(a:n<=12)(hl:ws.length<=12)(hw:∀w∈ws,N8 n w):jn.p [.int (n:Int),.lst (ws.map p8)] s=.ok (vD n (ws.foldl jd λ_ _=>0)) s:=by
 obtain⟨⟨c,e⟩,_⟩:=Ed ws (λ_ _=>0) ⟨Y,Y,Y,Y,Y,Y,Y,Y⟩ 0 hw (λ_ _=>Cm.zero _) (by ext);have f:bo n (λ_ _=>0)=List.replicate n (Y,List.replicate n (.tup [.int 0,.int 1])):=by unfold bo;rw[List.map_const',List.map_const',A_];rfl
 have i:c_ (ws.map p8)=I:=dw λd hd=>by
  obtain⟨w,_,rfl⟩:=tf.mp hd;exact pe w
 show LO [.int (n:Int),.lst (ws.map p8)] s=_;unfold LO;dsimp only;rw[e_ ⟨i,by ext,by ext⟩,Br,<-f,e];dsimp only;rw[N9 a];dsimp only;rw[e_ pC]
def ky(a:QP):QN:=a.map λ(k:Nat)=>(k:Int)
def vl(a:QP)(f:Nat->Rat):QQ:=a.map λk=>qD (f k)
structure Kf(ks:QP)(f:Nat->Rat):Prop where
 nd:ks.Nodup
 off:∀j,j∉ks->f j=0
def vc{f:Nat->Rat}{j:Nat}:∀{ks:QP},s_ (ky ks) (vl ks f) (j:Int)=if j∈ks then J (qD (f j))else Y
 |[]=>rfl
 |k::ks=>by
  have a:=vc (f:=f) (j:=j) (ks:=ks);show(if(k:Int)=(j:Int)then J (qD (f k))else s_ (ky ks) (vl ks f) (j:Int))=_
  grind
def aT(f:Nat->Rat)(j:Nat)(q:Rat):Nat->Rat:=λa=>if a=j then q else f a
def ins(a:QP)(j:Nat):QP:=if j∈a then a else a++[j]
def GP{f:Nat->Rat}{j:Nat}{q:Rat}{a:QP}(h:j∉a):vl a (aT f j q)=vl a f:=by refine A2 λk i=>?_;simp[aT,show k≠j from λz=>h (z▸i)]
def xc{f:Nat->Rat}{j:Nat}{q:Rat}:∀{a:QP},a.Nodup->il (ky a) (vl a f) (j:Int) (qD q)=(ky (ins a j),vl (ins a j) (aT f j q))
 |[],_=>by simp[ky,vl,il,ins,aT]
 |k::a,nd=>by
  rw[vL]at nd;have i:=xc (f:=f) (j:=j) (q:=q) nd.2;show(if(k:Int)=(j:Int)then((k:Int)::ky a,qD q::vl a f)else((k:Int)::(il (ky a) (vl a f) (j:Int) (qD q)).1,qD (f k)::(il (ky a) (vl a f) (j:Int) (qD q)).2))=_;by_cases e:k=j
  .subst e
   have:ins (k::a) k=k::a:=by simp[ins]
   rw[this];show _=((k:Int)::ky a,qD (aT f k q k)::vl a (aT f k q));rw[GP nd.1];simp[aT]
  .rw[hI (by ext),i];have l:ins (k::a) j=k::ins a j:=by
    unfold ins;by_cases m:j∈a
    .simp[m]
    .simp[m,Ne.symm e]
   rw[l];show _=((k:Int)::ky (ins a j),qD (aT f j q k)::vl (ins a j) (aT f j q));simp[aT,e]
def Kf.put{l:QP}{f:Nat->Rat}{j:Nat}{q:Rat}(h:Kf l f):Kf (ins l j) (aT f j q):=by
 unfold ins;constructor
 .split
  .exact h.nd
  .rename_i z
   rw[L0];refine⟨h.nd,by simp,λa i b u e=>z ?_⟩
   simp_all
 .intro a i;unfold aT
  split at i
  .rename_i z
   rw[hI (λe=>i (by rw[e];exact z))];exact h.off a i
  .have:a∉l/\a≠j:=by simpa using i
   rw[hI this.2];exact h.off a this.1
abbrev AU(ks:QP)(f:Nat->Rat):D:=.dic T (ky ks) (vl ks f)
def nS{a:QP}{f:Nat->Rat}{j:Nat}(h:Kf a f):(s_ (ky a) (vl a f) (j:Int)).getD (qD 0)=qD (f j):=by
 rw[vc];split
 .rfl
 .rename_i z;rw[h.off j z];rfl
def oG(f:Nat->Rat)(a:Rat)(i:List Pt):Nat->Rat:=i.foldl (λf p=>aT f p.1 (f p.1+a*p.2)) f
def sv(a:QP)(f:List Pt):QP:=f.foldl (λa p=>ins a p.1) a
def Dc{ks:QP}{j:Nat}:(ins ks j).length<=ks.length+1:=by unfold ins;split<;>simp
def Ee{a:Rat}{P:QB}{s:d_}:∀(l:List Pt)(i:QP)(f:Nat->Rat)(B y:QB),(∀p∈l,sz a+sz p.2<=900000/\sz (f p.1)+sz (a*p.2)<=900000)->(l.map (·.1)).Nodup->Kf i f->i.length+l.length<=90000 ->
  (∃C G,AK (tx (lR (i0 3) (lR (i0 4) ts)) 2:Xg [0]).p N0.p (l.map lw) [J (AU i f),J (qD a),P,B,y] s=.nx [J (AU (sv i l) (oG f a l)),J (qD a),P,C,G] s)/\Kf (sv i l) (oG f a l)/\(sv i l).length<=i.length+l.length
 |[],i,f,B,y,F,nd,u,hl=>⟨⟨B,y,rfl⟩,u,mu _⟩
 |p::l,i,f,B,y,F,nd,u,hl=>by
  obtain⟨E,S⟩:=F p (by simp);rw[n_,vL]at nd;have M:i.length+(l.length+1)<=90000:=hl;have Q:=sB (p:=a) (q:=p.2) (s:=s) E;have O:=Ky (p:=f p.1) (q:=a*p.2) (s:=s) S;have U:=nS (j:=p.1) u;have X:=Dc (ks:=i) (j:=p.1)
  obtain⟨⟨C,G,e⟩,E,L⟩:=Ee (P:=P) (s:=s) l (ins i p.1) (aT f p.1 (f p.1+a*p.2)) (J (inD' p.1)) (J (qD p.2)) (λx H=>by
   obtain⟨W,R⟩:=F x (p5 _ H);refine⟨W,?_⟩;have ne:¬x.1=p.1:=λz=>nd.1 (z▸tf.mpr ⟨x,H,rfl⟩)
   rw[show aT f p.1 (f p.1+a*p.2) x.1=f x.1 from hI ne];exact R) nd.2 u.put (by ext)
  refine⟨⟨C,G,?_⟩,E,qs L (by simp;ext)⟩;have b:N0.p [J (AU i f),J (qD a),P,J (inD' p.1),J (qD p.2)] s=.nx [J (AU (ins i p.1) (aT f p.1 (f p.1+a*p.2))),J (qD a),P,J (inD' p.1),J (qD p.2)] s:=by
   rw[CA,zJ (v:=qD (f p.1+a*p.2)) (s1:=s) (s2:=s) (j:=(p.1:Int)) (ks:=ky i) (ds:=vl i f) (by
    simp![aE,nM,show ∀(e:aw)(s:d_),(zV 0 1:Xe [0]).p e s=.ok (D.tup [.int 0,.int 1]) s from λ_ _=>rfl];rw[show D.tup [.int 0,.int 1]=qD 0 from rfl,U]
    simp only[Pb,Q,O]) (by rfl) rfl (by simp[ky];ext),xc u.nd]
   rfl
  rw[n_,iB (show(tx (lR (i0 3) (lR (i0 4) ts)) 2:Xg [0]).p (lw p) [J (AU i f),J (qD a),P,B,y]=J [J (AU i f),J (qD a),P,J (inD' p.1),J (qD p.2)]from rfl),b];exact e
structure St where
 (K:Nat->QP) (F:Nat->Nat->Rat)
def vo(n:Nat)(x:St):List Rd:=(List.range n).map λi=>(J (ky (x.K i)),vl (x.K i) (x.F i))
structure AL(n t z:Nat)(R:QP)(x:St):Prop where
 kf:∀i,i<n->Kf (x.K i) (x.F i)
 kl:∀i,(x.K i).length<=t
 sz:∀i∈R,∀j∈R,sz (x.F i j)<=z
def St.put(x:St)(i:Nat)(j:QP)(f:Nat->Rat):St:=⟨λa=>if a=i then j else x.K a,λa=>if a=i then f else x.F a⟩
def xf{n i:Nat}{x:St}(a:i<n):(vo n x)[i]?=J (J (ky (x.K i)),vl (x.K i) (x.F i)):=by unfold vo;simp[a]
def GQ{n i:Nat}{x:St}{j:QP}{f:Nat->Rat}(u:i<n):(vo n x).set i (J (ky j),vl j f)=vo n (x.put i j f):=by
 unfold vo;apply Dv;intro a;by_cases l:a<n
 .by_cases e:i=a
  .subst e;simp[l,St.put]
  .rw[p6 e];simp[l,St.put,Ne.symm e]
 .rw[AN (by simp;ext),AN (by simp;ext)]
def jC{n i:Nat}{x:St}(a:i<n):l7.p (cR (vo n x)) (.int (i:Int))=J (AU (x.K i) (x.F i)):=by exact L2.dX (by rw[u_,xf a];rfl)
def St.add(x:St)(i:Nat)(a:Rat)(f:List Pt):St:=x.put i (sv (x.K i) f) (oG (x.F i) a f)
def uK{a:QP}{f:Nat->Rat}:c_ (vl a f)=I:=dw λd hd=>by
 obtain⟨k,_,rfl⟩:=tf.mp hd;rfl
def De{n i t:Nat}{x:St}{a:Rat}{f:List Pt}{s:d_}(kf:∀i,i<n->Kf (x.K i) (x.F i))(kl:∀i,(x.K i).length<=t)(j:i<n)(y:∀p∈f,sz a+sz p.2<=900000/\sz (x.F i p.1)+sz (a*p.2)<=900000)(nd:(f.map (·.1)).Nodup)(M:f.length<=12)(L:t<=9000):
  lM (vo n x) i (qD a) (.tup (f.map lw)) s=J (vo n (x.add i a f),s)/\(∀b,b<n->Kf ((x.add i a f).K b) ((x.add i a f).F b))/\∀b,((x.add i a f).K b).length<=t+12:=by
 have C:=kl i;obtain⟨⟨u,E,e⟩,l,H⟩:=Ee (P:=J (.tup (f.map lw))) (s:=s) f (x.K i) (x.F i) Y Y y nd (kf i j) (by ext);refine⟨?_,λb B=>?_,λb=>?_⟩
 .unfold lM;rw[xf j];dsimp only;have G:cb.p (m_ 5 [dl (J (ky (x.K i))) (vl (x.K i) (x.F i)),qD a,.tup (f.map lw)]) s=.nx [J (AU (sv (x.K i) f) (oG (x.F i) a f)),J (qD a),J (.tup (f.map lw)),u,E] s:=by
   unfold cb;rw[show m_ 5 [dl (J (ky (x.K i))) (vl (x.K i) (x.F i)),qD a,.tup (f.map lw)]=[J (AU (x.K i) (x.F i)),J (qD a),J (.tup (f.map lw)),Y,Y]from rfl]
   simp_all
  rw[G];simp only[Er];rw[e_ ⟨uK,rfl,by simp[flat,mL]⟩,GQ j];rfl
 .unfold St.add St.put;dsimp only;by_cases z:b=i
  .rw[e_ z,e_ z];exact l
  .rw[hI z,hI z];exact kf b B
 .unfold St.add St.put;dsimp only;by_cases z:b=i
  .rw[e_ z];ext
  .rw[hI z];have:=kl b;ext
def Ar(a:QP)(f:Nat->Rat):List Pt:=(a.filter λj=>!decide (f j=0)).map λj=>(j,f j)
def GR{a:QP}(e:aw)(s:d_):(zV 0 1:Xe a).p e s=.ok (qD 0) s:=rfl
def Ef{a:QP}{f:Nat->Rat}{j:Nat}(h:Kf a f)(i:f j≠0):lu.p (AU a f) (.int (j:Int))=J (qD (f j)):=by show s_ (ky a) (vl a f) (j:Int)=_;rw[vc,e_ (Classical.byContradiction λz=>i (h.off j z))]
def Df{a ls:QP}{f:Nat->Rat}{s:d_}(h:Kf a f)(hl:ls.length<=100):fy.p [AU a f,mh ls] s=.ok (.tup ((Ar ls f).map lw)) s:=by
 have u:∀{x y:D}{s:d_},(if [x,y].length<=100000 then PR.ok (D.tup [x,y]) s else .bad)=.ok (.tup [x,y]) s:=λ{x y s}=>e_ (by simp)
 have q:=jB (ws:=[]) (ws':=[]) (env:=[J (AU a f),J (mh ls)]) (s0:=s) (fm:=[0]) (i:=bT (ac 1)) (t:=xB (ag Al (AS (ac 1) (aa (ac 0) (aa (zV 0 1) a_))) (zV 0 1))) (e:=bE (aa (ac 0) (aa (ag lu (ac 1) (ac 0)) a_))) (λj=>inD' j) (λj=>lw (j,f j)) (λj=>!decide (f j=0)) (by
  rfl) (by ext) (λj B=>⟨by
   simp![cq,aJ,nM,GR,n_,Er,Ev,iJ];rw[nS h,ot];rfl,λz=>by
   have l:f j≠0:=by simpa using z
   simp![dL,aJ,n_,Er,Ev,Ef h l,Pf,u]⟩)
 rw[tL (by rfl)];unfold fL;rw[show m_ 2 [AU a f,mh ls]=[J (AU a f),J (mh ls)]from rfl,bN,cE,am,q];simp only[Ar,y6];rfl
def GS{n t z v:Nat}{R:QP}{x:St}{a:QP}{s:d_}(h:AL n t z R x)(hv:v<n)(hl:a.length<=100)(B:∀i∈a,i<n)(C:v∈R)(P:∀i∈a,i∈R)(Q:z<=400000)(pv:x.F v v≠0):
  eW.p [cR (vo n x),inD' v,mh a] s=.ok (p8 ⟨v,x.F v v,Ar a (x.F v),(a.filter λi=>!decide (x.F i v=0)).map λi=>(i,x.F i v/x.F v v)⟩) s:=by
 have L:∀{x y:D}{s:d_},(if [x,y].length<=100000 then PR.ok (D.tup [x,y]) s else .bad)=.ok (.tup [x,y]) s:=λ{x y s}=>e_ (by simp);have G:∀{x y z u:D}{s:d_},(if [x,y,z,u].length<=100000 then PR.ok (D.tup [x,y,z,u]) s else .bad)=.ok (.tup [x,y,z,u]) s:=λ{x y z u s}=>e_ (by simp)
 have q:=jB (ws:=[]) (ws':=[]) (env:=[J (cR (vo n x)),J (inD' v),J (mh a),J (qD (x.F v v)),Y]) (s:=s) (s0:=s) (fm:=[3,1,0]) (i:=bT (ac 2)) (t:=xB (ag Al (AS (ag l7 (ac 3) (ac 0)) (aa (ac 2) (aa (zV 0 1) a_))) (zV 0 1))) (e:=bE (aa (ac 0) (aa (ao fG (aa (ag lu (ag l7 (ac 3) (ac 0)) (ac 2)) (aa (ac 1) a_))) a_))) (l:=a) (λi=>inD' i) (λi=>lw (i,x.F i v/x.F v v)) (λi=>!decide (x.F i v=0)) (by
  dsimp![gx,aA];rfl) (by ext) (λi E=>⟨by
   have f:=B i E;simp![cq,aJ,nM,GR,n_,Hm,Er,LQ,Ev,jC f,Pf,iJ];rw[nS (h.kf i f),ot];rfl,λM=>by
   have f:=B i E;have F:x.F i v≠0:=by simpa using M
   have O:=D_ (p:=x.F i v) (q:=x.F v v) (s:=s) pv (by have:=h.sz i (P i E) v C;have:=h.sz v C v C;ext)
   simp![dL,aE,aJ,n_,Hm,Er,LQ,Ev,jC f,Pf,Ef (h.kf i f) F,O,L]⟩)
 have U:=Df (s:=s) (ls:=a) (h.kf v hv) hl;have S:=nS (j:=v) (h.kf v hv);have e0:Ak T (qD (x.F v v)) (qD 0)=J (.bl T):=by rw[ot];simp[pv]
 rw[nQ (by rfl)];unfold ff;rw[show m_ 5 [cR (vo n x),inD' v,mh a]=[J (cR (vo n x)),J (inD' v),J (mh a),Y,Y]from rfl];rw[aH,bu];simp![nM,aJ,jC hv,Pf,GR,S,Pg,Ae,yH,PU.ax];rw[aH,bK];dsimp![cq,aJ,aA,GR,gT,e0,Pf,Pl,Pg,vI,if_false,bt,PU.ax];rw[aH,bu];rw[show(bx 1 [3,1,0] (bT (ac 2)) (ws':=[]) (i0 0) (xB (ag Al (AS (ag l7 (ac 3) (ac 0)) (aa (ac 2) (aa (zV 0 1) a_))) (zV 0 1))) (bE (aa (ac 0) (aa (ao fG (aa (ag lu (ag l7 (ac 3) (ac 0)) (ac 2)) (aa (ac 1) a_))) a_))):Xe []).p [J (cR (vo n x)),J (inD' v),J (mh a),J (qD (x.F v v)),Y] s=_ from q];simp only[Pg,Ae,yH,PU.ax];simp![bN,dL,aE,aJ,jC hv,Pf,U,cE,mS,G,Pg,PU.bS,y6];have H:(((a.filter λi=>!decide (x.F i v=0)).map λi=>(i,x.F i v/x.F v v)):List Pt).map lw=(a.filter λi=>!decide (x.F i v=0)).map λi=>lw (i,x.F i v/x.F v v):=by rw[y6];rfl
 unfold p8;rw[H]
def k_(a:List Pt)(j:Nat):Rat:=((a.find? λp=>p.1==j).map (·.2)).getD 0
def eJ{j:Nat}:k_ [] j=0:=rfl
def aP{p:Pt}{a:List Pt}{j:Nat}:k_ (p::a) j=if p.1=j then p.2 else k_ a j:=by
 unfold k_;rw[K4];by_cases h:p.1=j
 .simp[h]
 .have e:(p.1==j)=T:=by simpa using h
  rw[e,hI h]
def cL{a:List Pt}{j:Nat}(h:j∉a.map (·.1)):k_ a j=0:=by
 induction a with
 |nil=>rfl
 |cons p a f =>
  rw[n_,p_,not_or]at h;rw[aP,hI (λe=>h.1 e.symm),f h.2]
def uI{a:Rat}{j:Nat}:∀{i:List Pt}{f:Nat->Rat},(i.map (·.1)).Nodup->oG f a i j=f j+a*k_ i j
 |[],f,_=>by show f j=_;rw[eJ];grind
 |p::i,f,nd=>by
  rw[n_,vL]at nd;show oG (aT f p.1 (f p.1+a*p.2)) a i j=_;rw[uI nd.2,aP];unfold aT;by_cases e:p.1=j
  .subst e;rw[cL nd.1];grind
  .rw[hI (Ne.symm e),hI e]
def p7{f:Rat}{i a b:Nat}:∀{j:List Pt}{g:Nat->Nat->Rat},(j.map (·.1)).Nodup->gA g i f j a b=g a b+if a=i then f*k_ j b else 0
 |[],g,_=>by show g a b=_;rw[eJ];split<;>grind
 |p::j,g,nd=>by
  rw[n_,vL]at nd;show gA (iG g i p.1 (g i p.1+f*p.2)) i f j a b=_;rw[p7 nd.2,aP];unfold iG;by_cases l:a=i
  .subst l;by_cases u:b=p.1
   .subst u;rw[cL nd.1];grind
   .rw[hI (λz=>u z.2),e_ rfl,e_ rfl,hI (Ne.symm u)]
  .rw[hI (λz=>l z.1),hI l,hI l]
def pX{rs:List Pt}(i:(rs.map (·.1)).Nodup){a b:Nat}:∀{cs:List Pt}{g:Nat->Nat->Rat},(cs.map (·.1)).Nodup->kS g cs rs a b=g a b+k_ cs a*k_ rs b
 |[],g,_=>by show g a b=_;rw[eJ];grind
 |p::cs,g,nd=>by
  rw[n_,vL]at nd;show kS (gA g p.1 p.2 rs) cs rs a b=_;rw[pX i nd.2,p7 i,aP];by_cases f:a=p.1
  .subst f;rw[cL nd.1];grind
  .rw[hI f,hI (Ne.symm f)];grind
def cl(w:Wk)(i:Nat):Rat:=k_ ((w.v,1)::w.c) i
def rw'(w:Wk)(j:Nat):Rat:=k_ ((w.v,w.p)::w.r) j
structure N_(w:Wk):Prop where
 r:(w.v::w.r.map (·.1)).Nodup
 c:(w.v::w.c.map (·.1)).Nodup
def jf(a:List Wk)(i j:Nat):Rat:=(a.map λw=>cl w i*rw' w j).sum
def bZ{w:Wk}{a:List Wk}{i j:Nat}:jf (w::a) i j=cl w i*rw' w j+jf a i j:=by simp[jf]
def uj{i j:Nat}:∀{a:List Wk}{g:Nat->Nat->Rat},(∀w∈a,N_ w)->a.foldl jd g i j=g i j+jf a i j
 |[],g,_=>by show g i j=g i j+0;grind
 |w::a,g,h=>by
  have hw:=h w (by simp);show a.foldl jd (jd g w) i j=_;rw[uj λx f=>h x (p5 _ f),bZ];unfold jd;rw[pX (rs:=(w.v,w.p)::w.r) hw.r (cs:=(w.v,1)::w.c) hw.c];show g i j+cl w i*rw' w j+_=_
  grind
def md{n:Nat}{f:Nat->Rat}:(bq n f).map (·.1)=(List.range n).filter λj=>!decide (f j=0):=by unfold bq;rw[y6];exact(A2 (g:=id) λ_ _=>rfl).trans (List.map_id _)
def At(n:Nat)(g:Nat->Nat->Rat):St:=⟨λi=>(List.range n).filter λj=>!decide (g i j=0),λi j=>if j<n then g i j else 0⟩
def yK{n:Nat}{g:Nat->Nat->Rat}(E:n<=12):iI ((List.range n).map λi=>.tup ((bq n (g i)).map lw))=J (vo n (At n g)):=by
 have one:∀i,JJ (.tup ((bq n (g i)).map lw))=J ((bq n (g i)).map λp=>((p.1:Int),qD p.2)):=λi=>by
  have B:∀f:List Pt,jy (f.map lw)=J (f.map λp=>((p.1:Int),qD p.2)):=λf=>by
   induction f with
   |nil=>rfl
   |cons p f u=>rw[n_,jy,u];rfl
  unfold JJ;dsimp only;rw[B];dsimp only;rw[e_];rw[y6]
  have:((bq n (g i)).map ((·.1)∘λp:Pt=>((p.1:Int),qD p.2)))=((bq n (g i)).map (·.1)).map λ(k:Nat)=>(k:Int):=by rw[y6];rfl
  rw[this,md];exact(K1.filter _).map (λ(k:Nat)=>(k:Int)) (λa b h=>by ext)
 have gen:∀l:QP,(∀i∈l,i<n)->iI (l.map λi=>.tup ((bq n (g i)).map lw))=J (l.map λi=>(J (ky ((At n g).K i)),vl ((At n g).K i) ((At n g).F i))):=λl=>by
  induction l with
  |nil=>intro;rfl
  |cons i l u =>
   intro h;rw[n_,iI,one i,u λx y=>h x (p5 _ y)];dsimp only;have e1:((bq n (g i)).map λp=>((p.1:Int),qD p.2)).map (·.1)=ky ((At n g).K i):=by rw[y6];show _=((List.range n).filter λj=>!decide (g i j=0)).map _;rw[<-md,y6];rfl
   have e2:((bq n (g i)).map λp=>((p.1:Int),qD p.2)).map (·.2)=vl ((At n g).K i) ((At n g).F i):=by
    rw[y6];unfold bq vl At;rw[y6];refine A2 λj C=>?_
    have:j<n:=by simpa using(AO.mp C).1
    simp[this]
   rw[e1,e2,e_ uK,n_]
 exact gen _ λi z=>by simpa using z
def GU{n z:Nat}{R:QP}{g:Nat->Nat->Rat}(f:1<=z)(hg:∀i j,sz (g i j)<=z):AL n n z R (At n g):=by
 refine⟨λi l=>⟨K1.filter _,λj a=>?_⟩,λi=>?_,λi _ j _=>?_⟩
 .unfold At at a ⊢;dsimp only at a ⊢
  simp_all
 .unfold At
  have:=HN (λj=>!decide (g i j=0)) (List.range n)
  simpa using this
 .unfold At;dsimp only;split
  .exact hg i j
  .rw[show Law.sz 0=1 by decide +kernel];exact f
def f_(ns:QP)(k:Nat):Nat:=ns.getD k 0
def av(ns:QP)(g:Nat->Nat->Rat):Nat->Nat->Nat->Rat
 |0=>g
 |k+1=>λi j=>av ns g k i j-av ns g k i (f_ ns k)/av ns g k (f_ ns k) (f_ ns k)*av ns g k (f_ ns k) j
def i_(n:Nat)(ns:QP)(g:Nat->Nat->Rat)(k:Nat):Wk :=
 ⟨f_ ns k,av ns g k (f_ ns k) (f_ ns k),Ar (p4 n ns k) (av ns g k (f_ ns k)),((p4 n ns k).filter λi=>!decide (av ns g k i (f_ ns k)=0)).map λi=>(i,av ns g k i (f_ ns k)/av ns g k (f_ ns k) (f_ ns k))⟩
structure Em(n z m:Nat)(ns:QP)(g:Nat->Nat->Rat):Prop where
 o:On n ns
 mn:m<=n
 off:∀i j,¬(i<n/\j<n)->g i j=0
 pv:∀k,k<m->av ns g k (f_ ns k) (f_ ns k)≠0
 si:∀k i j,k<=m->sz (av ns g k i j)<=z
 z0:z<=200000
abbrev El(n z:Nat)(ns:QP)(g:Nat->Nat->Rat):Prop:=Em n z n ns g
def dI{n k:Nat}{ns:QP}(o:On n ns)(a:k<n):ns[k]?=J (f_ ns k):=by
 have:=o.len
 unfold f_;rw[KO,vE (by ext)];rfl
def dE{k v:Nat}{ns:QP}(a:ns[k]?=J v):ns.drop k=v::ns.drop (k+1):=by obtain⟨h,rfl⟩:=qi.mp a;exact Hc h
def GV(q:Rat):sz q⁻¹<=sz q:=by
 by_cases h:q=0
 .subst h
  grind
 .have a:q.num≠0:=λz=>h (Rat.num_eq_zero.mp z);rw[Rat.inv_def,C6 a];refine gq (by ext) (sk q) ?_ (bU q)
  have:=bA q
  split<;>ext
def GW(p q:Rat):sz (p/q)<=sz p+sz q:=by rw[Rat.div_def];exact qs (kG p q⁻¹) (Nat.add_le_add_left (GV q) _)
def ou{f:Nat->Rat}{p:Nat->Bool}{j:Nat}:∀{ls:QP},k_ ((ls.filter p).map λi=>(i,f i)) j=if j∈ls/\p j=I then f j else 0
 |[]=>by simp[eJ]
 |l::ls=>by
  have u:=ou (f:=f) (p:=p) (j:=j) (ls:=ls);by_cases a:p l=I
  .rw[KP a,n_,aP,u];by_cases e:l=j
   .subst e;simp[a]
   .simp[e,Ne.symm e]
  .rw[KQ a,u];by_cases e:l=j
   .subst e;simp[a]
   .simp[Ne.symm e]
section
variable{n z m:Nat}{ns:QP}{g:Nat->Nat->Rat}
def Em.zero(h:Em n z m ns g):∀(k:Nat),k<=m->∀i j,(i∉ns.drop k\/j∉ns.drop k)->av ns g k i j=0
 |0,_,i,j,a=>by
  refine h.off i j λ⟨u,y⟩=>?_;rcases a with q|q
  .exact q (h.o.pm.mem_iff.mpr (Bb.mpr u))
  .exact q (h.o.pm.mem_iff.mpr (Bb.mpr y))
 |k+1,B,i,j,a=>by
  have f:=Em.zero h k (by ext);have F:=h.pv k (by ext);have C:=dE (dI h.o (show k<n by have:=h.mn;ext));show av ns g k i j-av ns g k i (f_ ns k)/av ns g k (f_ ns k) (f_ ns k)*av ns g k (f_ ns k) j=0;have l:∀x,x∉ns.drop (k+1)->x=f_ ns k\/x∉ns.drop k:=λx E=>by
   grind
  rcases a with q|q<;>rcases l _ q with e|e
  .rw[e];grind
  .rw[f i j (.inl e),f i _ (.inl e)];grind
  .rw[e];grind
  .rw[f i j (.inr e),f _ j (.inr e)];grind
def kR{k x:Nat}(o:On n ns)(a:k<n):x∈ns.drop k↔x=f_ ns k\/x∈p4 n ns k:=by rw[dE (dI o a),p_,ce o]
def wd{k:Nat}(o:On n ns)(a:k<n):f_ ns k∉p4 n ns k:=λm=>by
 have nd:=o.nd.sublist (L5 k ns);rw[dE (dI o a),vL]at nd;exact nd.1 ((ce o).mp m)
def Em.rw(h:Em n z m ns g){k j:Nat}(a:k<m):rw' (i_ n ns g k) j=av ns g k (f_ ns k) j:=by
 unfold rw' i_ Ar;rw[aP,ou];by_cases e:f_ ns k=j
 .rw[e_ e,e]
 .rw[hI e];by_cases m:j∈p4 n ns k
  .by_cases q:av ns g k (f_ ns k) j=0
   .simp[q]
   .simp[m,q]
  .rw[hI λz=>m z.1];exact(h.zero k (by ext) _ j (.inr λq=>((kR h.o (sw a h.mn)).mp q).elim (λz=>e z.symm) m)).symm
def Em.cl(h:Em n z m ns g){k i:Nat}(a:k<m):cl (i_ n ns g k) i=av ns g k i (f_ ns k)/av ns g k (f_ ns k) (f_ ns k):=by
 have f:=h.pv k a;unfold Law.cl i_;rw[aP,ou];by_cases e:f_ ns k=i
 .rw[e_ e,<-e];grind
 .rw[hI e];by_cases m:i∈p4 n ns k
  .by_cases q:av ns g k i (f_ ns k)=0
   .simp[q];grind
   .simp[m,q]
  .rw[hI λz=>m z.1,h.zero k (by ext) i _ (.inl λq=>((kR h.o (sw a h.mn)).mp q).elim (λz=>e z.symm) m)]
   grind
def GX{f:Nat->Rat}{a:QP}:(a.map λi=>((i,f i):Pt)).map (·.1)=a:=by rw[y6];exact(A2 λ_ _=>rfl).trans (List.map_id _)
def KC{k:Nat}(o:On n ns)(j:k<n):N_ (i_ n ns g k):=by
 have a:∀(p:Nat->Bool)(f:Nat->Rat),(f_ ns k::(((p4 n ns k).filter p).map λi=>((i,f i):Pt)).map (·.1)).Nodup:=λp f=>by
  rw[GX,vL];exact⟨λm=>wd o j (AO.mp m).1,(lD.imp λh=>vR h).sublist List.filter_sublist⟩
 exact⟨a _ _,a _ _⟩
def uL{k:Nat}(o:On n ns):(p4 n ns k).length<=12:=by
 have:=(iD (k:=k) o).length_eq
 have:=o.len
 have:=o.n12
 simp at *;ext
def xZ{k x:Nat}(o:On n ns)(h:x∈p4 n ns k):x<n:=o.lt x (HP ((ce o).mp h))
def Em.w_c(h:Em n z m ns g){k:Nat}(f:k<m):∀q∈(f_ ns k,(1:Rat))::(i_ n ns g k).c,q.1<n/\sz q.2<=2*z:=λq a=>by
 have z1:=h.si k (f_ ns k) (f_ ns k) (by ext);have l:=sk (av ns g k (f_ ns k) (f_ ns k));rcases p_.mp a with rfl|a
 .refine⟨h.o.lt _ (Ab (dI h.o (sw f h.mn))),?_⟩;rw[show sz 1=1 by decide +kernel];ext
 .obtain⟨i,j,rfl⟩:=tf.mp a;refine⟨xZ h.o (AO.mp j).1,qs (GW _ _) ?_⟩
  have:=h.si k i (f_ ns k) (by ext)
  ext
def Em.w_r(h:Em n z m ns g){k:Nat}(f:k<m):∀q∈(f_ ns k,(i_ n ns g k).p)::(i_ n ns g k).r,q.1<n/\sz q.2<=z:=λq a=>by
 rcases p_.mp a with rfl|a
 .exact⟨h.o.lt _ (Ab (dI h.o (sw f h.mn))),h.si k _ _ (by ext)⟩
 .obtain⟨i,j,rfl⟩:=tf.mp a;exact⟨xZ h.o (AO.mp j).1,h.si k _ _ (by ext)⟩
end
def mF{a:QP}{f g:Nat->Rat}(h:∀j∈a,f j=g j):Ar a f=Ar a g:=by
 unfold Ar;have e:(a.filter λj=>!decide (f j=0))=a.filter λj=>!decide (g j=0):=L6 λj i=>by rw[h j i]
 rw[e];exact A2 λj i=>by rw[h j (AO.mp i).1]
def St.add_F{x:St}{i a b:Nat}{q:Rat}{f:List Pt}(nd:(f.map (·.1)).Nodup):(x.add i q f).F a b=x.F a b+if a=i then q*k_ f b else 0:=by
 unfold St.add St.put;dsimp only;by_cases e:a=i
 .subst e;rw[e_ rfl,e_ rfl,uI nd]
 .rw[hI e,hI e];grind
def St.adds(x:St)(a f:List Pt):St:=a.foldl (λx p=>x.add p.1 (-p.2) f) x
def wV{i:List Pt}(j:(i.map (·.1)).Nodup){a b:Nat}:∀{f:List Pt}{x:St},(f.map (·.1)).Nodup->(x.adds f i).F a b=x.F a b-k_ f a*k_ i b
 |[],x,_=>by show x.F a b=_;rw[eJ];grind
 |p::f,x,nd=>by
  rw[n_,vL]at nd;show((x.add p.1 (-p.2) i).adds f i).F a b=_;rw[wV j nd.2,St.add_F j,aP];by_cases e:a=p.1
  .subst e;rw[cL nd.1];grind
  .rw[hI e,hI (Ne.symm e)];grind
def Oa{rd:List Rd}{sh a:D}{b:Bool}{k v st f:QB}{j:Int}{s:d_}:qP.p (gI rd sh a (.dic b [] []) k v st (J (.int j)) f) s=.ok I s:=rfl
def Ob{rd:List Rd}{sh a f:D}{k v st i:QB}{q:Rat}{s:d_}(h:sz q<=800000):lU.p (gI rd sh a f k v st i (J (qD q))) s=.ok (qD (-q)) s:=by
 have m:=qY (q:=q) (s:=s) (by rw[show sz 0=1 by decide +kernel];ext);unfold lU gI;simp![aE,GR,m];congr 2
 grind
def GY{x:St}{i b:Nat}{a:Rat}{f:List Pt}(h:b≠i):(x.add i a f).F b=x.F b:=hI h
def xT{n z:Nat}{sh od:D}{b:Bool}{k v:QB}{st:D}{l:List Pt}{s:d_}(hr:∀r∈l,sz r.2<=z)(E:(l.map (·.1)).Nodup)(lr:l.length<=12)(Q:z<=200000):∀(j:List Pt)(x:St)(t:Nat)(i f:QB),(j.map (·.1)).Nodup->(∀p∈j,p.1<n/\sz p.2<=2*z/\∀r∈l,sz (x.F p.1 r.1)<=z)->(∀i,i<n->Kf (x.K i) (x.F i))->(∀i,(x.K i).length<=t)->t+12*j.length<=9000 ->
  (∃C y,jb sh od (.dic b [] []) k v st (.tup (l.map lw)) (j.map lw) (vo n x) i f s=J (vo n (x.adds j l),C,y,s))/\(∀i,i<n->Kf ((x.adds j l).K i) ((x.adds j l).F i))/\∀i,((x.adds j l).K i).length<=t+12*j.length
 |[],x,t,i,f,u,B,kf,kl,O=>⟨⟨i,f,rfl⟩,kf,kl⟩
 |p::j,x,t,i,f,u,B,kf,kl,O=>by
  obtain⟨H,px,S⟩:=B p (by simp);rw[n_,vL]at u;have ab:t+12*(j.length+1)<=9000:=O
  obtain⟨P,a2,X⟩:=De (s:=s) (a:=-p.2) kf kl H (λr h=>by
   have h1:=hr r h;have L:=S r h;have G:=kG (-p.2) r.2;have h4:=GF p.2
   ext) E lr (by ext)
  obtain⟨⟨C,y,e⟩,L,G⟩:=xT (sh:=sh) (od:=od) (b:=b) (k:=k) (v:=v) (st:=st) (s:=s) hr E lr Q j (x.add p.1 (-p.2) l) (t+12) (J (inD' p.1)) (J (qD p.2)) u.2 (λq M=>by
   obtain⟨Z,R,W⟩:=B q (p5 _ M);have ne:q.1≠p.1:=λz=>u.1 (z▸tf.mpr ⟨q,M,rfl⟩);rw[GY ne]
   exact⟨Z,R,W⟩) a2 X (by ext)
  refine⟨⟨C,y,?_⟩,L,λi=>by rw[Aw,show t+12*(j.length+1)=t+12+12*j.length by ext];exact G i⟩;have U:vf (vo n x).length (p.1:Int)=J p.1:=by unfold vo;simp only[v4,A_];exact MM.ie H
  rw[n_,jb,Oa];dsimp only;rw[Ob (by ext),U];dsimp only;rw[P];exact e
def Oc{n k v t z:Nat}{ns:QP}{x:St}{sh:D}{b:Bool}{st i f:QB}{s:d_}(o:On n ns)(a:ns[k]?=J v)(h:AL n t z (ns.drop k) x)(l:z<=400000)(pv:x.F v v≠0):
  gU.p (gI (vo n x) sh (mh ns) (.dic b [] []) (J (inD' k)) (J (inD' v)) st i f) s=.ok (p8 ⟨v,x.F v v,Ar (p4 n ns k) (x.F v),((p4 n ns k).filter λi=>!decide (x.F i v=0)).map λi=>(i,x.F i v/x.F v v)⟩) s:=by
 have C:=o.len;have n12:=o.n12;have u:k<n:=by have:=(qi.mp a).1;ext
 have y:(p4 n ns k).length<=100:=by have:=(iD (k:=k) o).length_eq;simp at this;ext
 have lt:=pq o u;have E:=GS (s:=s) h (o.lt v (Ab a)) y (λi j=>o.lt i (HP ((ce o).mp j))) (by rw[dE a];simp) (λi j=>by rw[dE a];exact p5 _ ((ce o).mp j)) l pv;have B:(Cz T).p (inD' v) (.dic b [] [])=J (.bl T):=rfl;unfold gU gI;rw[w9]
 simp_all
def KD{v:Nat}(h:v<12):fX "the pivot of the place " " is nought" (v:Int):=by
 unfold fX;revert v
 decide +kernel
def GZ{n t z v:Nat}{R:QP}{x:St}{ls:QP}{s:d_}(h:AL n t z R x)(hv:v<n)(a:v<12)(pv:x.F v v=0):eW.p [cR (vo n x),inD' v,mh ls] s=.exc "NoPivot" s:=by
 have i:=nS (j:=v) (h.kf v hv);have e0:Ak T (qD (x.F v v)) (qD 0)=J (.bl I):=by rw[ot];simp[pv]
 rw[nQ (by rfl)];unfold ff;rw[show m_ 5 [cR (vo n x),inD' v,mh ls]=[J (cR (vo n x)),J (inD' v),J (mh ls),Y,Y]from rfl];rw[aH,bu];simp![nM,aJ,jC hv,Pf,GR,i,Pg,Ae,yH,PU.ax];rw[aH,bK];dsimp![cq,aJ,aA,GR,gT,e0,Pf,Pl,Pg];have f:(lI "NoPivot" "the pivot of the place " " is nought" (aa (ac 1) a_):Xd []).p [J (cR (vo n x)),J (inD' v),J (mh ls),J (qD (x.F v v)),Y] s=.rse "NoPivot" [J (cR (vo n x)),J (inD' v),J (mh ls),J (qD (x.F v v)),Y] s:=e_ (KD a);rw[f];rfl
def Od{n k v t z:Nat}{ns:QP}{x:St}{sh:D}{b:Bool}{st i f:QB}{s:d_}(o:On n ns)(a:ns[k]?=J v)(h:AL n t z (ns.drop k) x)(pv:x.F v v=0):
  gU.p (gI (vo n x) sh (mh ns) (.dic b [] []) (J (inD' k)) (J (inD' v)) st i f) s=.exc "NoPivot" s:=by
 have j:k<n:=by have:=(qi.mp a).1;have:=o.len;ext
 have lt:=pq o j;have u:=GZ (s:=s) (ls:=p4 n ns k) h (o.lt v (Ab a)) (by have:=o.lt v (Ab a);have:=o.n12;ext) pv;have l:(Cz T).p (inD' v) (.dic b [] [])=J (.bl T):=rfl;unfold gU gI;rw[w9]
 simp_all
def qk{k v:Nat}{ns:QP}(f:ns[k]?=J v):(bz (ns.map inD')).drop k=.tup [inD' k,inD' v]::(bz (ns.map inD')).drop (k+1):=by
 have a:=qi.mp f;have l:k<(bz (ns.map inD')).length:=by simp[bz,a.1]
 have e:(bz (ns.map inD'))[k]?=J (.tup [inD' k,inD' v]):=by
  unfold bz
  simp_all
 rw[Hc l];congr 1;rw[vE l]at e;exact Option.some.inj e
def Em.run{n z e:Nat}{ns:QP}{g:Nat->Nat->Rat}(h:Em n z e ns g){sh:D}{b:Bool}{s:d_}:∀(m k:Nat)(x:St)(t:Nat)(G:QQ)(st i f:QB),k+m=e->(∀i,i<n->Kf (x.K i) (x.F i))->(∀i,(x.K i).length<=t)->t+150*m<=9000->G.length=k->(∀i j,i∈ns.drop k->j∈ns.drop k->x.F i j=av ns g k i j) ->
  ∃H L Q O,fD sh (mh ns) (.dic b [] []) ((bz (ns.map inD')).drop k) (vo n x) G st i f s=fD sh (mh ns) (.dic b [] []) ((bz (ns.map inD')).drop e) (vo n H) (G++((List.range' k m).map (i_ n ns g)).map p8) L Q O s/\(∀i,i<n->Kf (H.K i) (H.F i))/\(∀i,(H.K i).length<=t+150*m)/\∀i j,i∈ns.drop e->j∈ns.drop e->H.F i j=av ns g e i j
 |0,k,x,t,G,st,i,f,hk,kf,kl,ht,hl,l=>by
  subst hk;exact⟨x,st,i,f,by simp,kf,kl,l⟩
 |m+1,k,x,t,G,st,i,f,hk,kf,kl,ht,hl,l=>by
  have o:=h.o;have n12:=o.n12;have z0:=h.z0;have mn:=h.mn;have C:k<e:=by ext
  have E:k<n:=by ext
  have hv:=dI o E;have p0:=h.pv k C;have u:f_ ns k∈ns.drop k:=(kR o E).mpr (.inl rfl);have B:∀j∈p4 n ns k,j∈ns.drop k:=λj F=>(kR o E).mpr (.inr F);have so:AL n t z (ns.drop k) x:=⟨kf,kl,λi M j F=>by rw[l i j M F];exact h.si k i j (by ext)⟩;have e1:=Oc (sh:=sh) (b:=b) (st:=st) (i:=i) (f:=f) (s:=s) o hv so (by ext) (by rw[l _ _ u u];exact p0);have er:Ar (p4 n ns k) (x.F (f_ ns k))=Ar (p4 n ns k) (av ns g k (f_ ns k)):=mF λj F=>l _ j u (B j F);have ec:(((p4 n ns k).filter λi=>!decide (x.F i (f_ ns k)=0)).map λi=>(i,x.F i (f_ ns k)/x.F (f_ ns k) (f_ ns k)))=(i_ n ns g k).c:=by
   unfold i_;dsimp only;have e:((p4 n ns k).filter λi=>!decide (x.F i (f_ ns k)=0))=(p4 n ns k).filter λi=>!decide (av ns g k i (f_ ns k)=0):=L6 λj F=>by rw[l j _ (B j F) u]
   rw[e];exact A2 λj F=>by rw[l j _ (B j (AO.mp F).1) u,l _ _ u u]
  rw[er,ec,l _ _ u u]at e1;have e1:gU.p (gI (vo n x) sh (mh ns) (.dic b [] []) (J (inD' k)) (J (inD' (f_ ns k))) st i f) s=.ok (p8 (i_ n ns g k)) s:=e1;have d:=KC (g:=g) o E;have dr:=vL.mp d.r;have dc:=vL.mp d.c;have ll:=uL (k:=k) o;have lr:(i_ n ns g k).r.length<=12:=by unfold i_ Ar;rw[v4];exact qs (HN _ _) ll
  have lc:(i_ n ns g k).c.length<=12:=by unfold i_;rw[v4];exact qs (HN _ _) ll
  have U:∀r∈(i_ n ns g k).r,r.1∈p4 n ns k:=λr hr=>by
   have hr:r∈((p4 n ns k).filter λj=>!decide (av ns g k (f_ ns k) j=0)).map λj=>(j,av ns g k (f_ ns k) j):=hr;obtain⟨i,M,rfl⟩:=tf.mp hr;exact(AO.mp M).1
  have W:∀r∈(i_ n ns g k).c,r.1∈p4 n ns k:=λr hr=>by
   obtain⟨i,M,rfl⟩:=tf.mp hr;exact(AO.mp M).1
  obtain⟨⟨Q,O,e2⟩,k2,l2⟩:=xT (sh:=sh) (od:=mh ns) (b:=b) (k:=J (inD' k)) (v:=J (inD' (f_ ns k))) (st:=p8 (i_ n ns g k)) (s:=s) (λr hr=>(h.w_r C r (p5 _ hr)).2) dr.2 lr z0 (i_ n ns g k).c x t i f dc.2 (λp hp=>by
   obtain⟨a1,a2⟩:=h.w_c C p (p5 _ hp)
   exact⟨a1,a2,λr hr=>so.sz _ (B _ (W p hp)) _ (B _ (U r hr))⟩) kf kl (by ext)
  obtain⟨H,L,i2,f2,ih,Z,X,R⟩:=Em.run h (sh:=sh) (b:=b) (s:=s) m (k+1) (x.adds (i_ n ns g k).c (i_ n ns g k).r) (t+150) (G++[p8 (i_ n ns g k)]) (J (p8 (i_ n ns g k))) Q O (by ext) k2 (λi=>qs (l2 i) (by ext)) (by ext) (by simp[hl]) (λa c ha hc=>by
   have la:a∈p4 n ns k:=(ce o).mpr ha;have lc:c∈p4 n ns k:=(ce o).mpr hc;have ne:∀y,y∈p4 n ns k->¬f_ ns k=y:=λy hy e=>wd o E (e▸hy);have P:=h.cl (i:=a) C;have S:=h.rw (j:=c) C;unfold Law.cl at P;unfold rw' at S;rw[aP]at P S;have P:=(hI (ne a la)).symm.trans P;have S:=(hI (ne c lc)).symm.trans S;rw[wV dr.2 dc.2,l a c (B a la) (B c lc),P,S]
   rfl)
  refine⟨H,L,i2,f2,?_,Z,λi=>qs (X i) (by ext),R⟩;have ed:=qk (k:=k) (v:=f_ ns k) (ns:=ns) hv;rw[ed,fD,e1]
  show (if flat (p8 (i_ n ns g k))=I/\G.length<1000/\flat (inD' k)=I/\flat (inD' (f_ ns k))=I then (match jb sh (mh ns) (.dic b [] []) (J (inD' k)) (J (inD' (f_ ns k))) (p8 (i_ n ns g k)) (.tup ((i_ n ns g k).r.map lw)) ((i_ n ns g k).c.map lw) (vo n x) i f s with
   |some (ab,Q,O,s2)=>fD sh (mh ns) (.dic b [] []) ((bz (ns.map inD')).drop (k+1)) ab (G++[p8 (i_ n ns g k)]) (J (p8 (i_ n ns g k))) Q O s2
   |none=>.bad)else .bad)=_
  rw[e_ ⟨pe _,by ext,rfl,rfl⟩,e2];dsimp only;rw[ih];simp[List.range'_succ]
def Dg{n x:Nat}{s:d_}(h:x<n):dU.p [.int (n:Int),inD' x] s=.ok (.bl I) s:=by rw[tR (by rfl)];unfold fH;rw[show m_ 2 [.int (n:Int),inD' x]=[J (.int (n:Int)),J (inD' x)]from rfl];simp[uR,h]
def Dh{n:Nat}{ns:QP}{s:d_}(o:On n ns):dz.p [.tup [.int (n:Int),.tup []],mh ns] s=.ok .non s:=by
 have F:=o.len;have n12:=o.n12
 have q:=jB (ws:=[]) (ws':=[]) (env:=[J (.tup [.int (n:Int),.tup []]),J (mh ns)]) (s:=s) (s0:=s) (fm:=[0]) (i:=bT (ac 1)) (t:=pu) (e:=ao dU (aa (ag l7 (ac 1) (xC (.int 0))) (aa (ac 0) a_))) (l:=ns) (λj=>inD' j) (λ_=>.bl I) (λ_=>I) (by
  dsimp![gx,aA];rfl) (by ext) (λj E=>⟨rfl,λ_=>by
   have f:l7.p (.tup [.int (n:Int),.tup []]) (.int 0)=J (.int (n:Int)):=rfl
   simp![aE,aJ,bJ,aU,n_,Hm,Er,Ev,f,Pf,Dg (o.lt j E)]⟩)
 have B:oM.p [.lst ((ns.filter λ_=>I).map λ_=>D.bl I)]=J (.bl I):=by
  have:∀l:QP,i9 (l.map λ_=>D.bl I)=J (l.map λ_=>I):=λl=>by
   induction l with
   |nil=>rfl
   |cons a l z=>rw[n_,i9,z];rfl
  show((J ((ns.filter λ_=>I).map λ_=>D.bl I)).bind i9).map _=_;rw[Hh,this,Ew];simp
 have C:fb.p [mh ns]=J (.lst ((List.range n).map inD')):=by
  have e1:mh ns=.lst ((ns.map λ(x:Nat)=>(x:Int)).map .int):=by rw[y6];rfl
  rw[e1,pI (by simp;ext)];have e2:gG (ns.map λ(x:Nat)=>(x:Int))=(List.range n).map λ(x:Nat)=>(x:Int) :=
   jh (mR _) (OI.map (S:=(·<=·)) _ (λa b h=>by ext)) ((iO _).trans (o.pm.map _))
  rw[e2,y6];rfl
 have lr:LA.p [.int (n:Int)]=J (.lst ((List.range n).map inD')):=by rw[JF (by ext),Br];simp[eO]
 have eq:Ak T (.lst ((List.range n).map inD')) (.lst ((List.range n).map inD'))=J (.bl I):=by
  have e1:(List.range n).map inD'=((List.range n).map λ(x:Nat)=>(x:Int)).map .int:=by rw[y6];rfl
  rw[e1,yw];simp
 have y:fK.p [.tup [.int (n:Int),.tup []],mh ns] s=.ok (.bl I) s:=by
  rw[tJ (by rfl)];unfold fO;rw[show m_ 2 [.tup [.int (n:Int),.tup []],mh ns]=[J (.tup [.int (n:Int),.tup []]),J (mh ns)]from rfl];have u:(bQ ["list"]).p (mh ns)=J (.bl I):=by simp[bX]
  have f:l7.p (.tup [.int (n:Int),.tup []]) (.int 0)=J (.int (n:Int)):=rfl;rw[aH,bK];dsimp![dN,cq,qR,aA,u,Pf,Pl,Bc,Pg,vI,if_false,bt,PU.ax];rw[aH,bK,dN,cq,cE,am,q];simp only[Pb,az,B,Pf,Pl,Bc,Pg,vI,if_false,bt,PU.ax];simp![bN,aJ,cE,C,Pf,bJ,aU,f,lr,gT,eq,Pg,PU.bS]
 rw[pF (by rfl)];unfold dA;rw[show m_ 2 [.tup [.int (n:Int),.tup []],mh ns]=[J (.tup [.int (n:Int),.tup []]),J (mh ns)]from rfl,bK];simp![dN,cq,aE,y,Pl,Bc,Pg,vI,if_false,bt,PU.xI]
def Em.go{n z m:Nat}{ns:QP}{g:Nat->Nat->Rat}(h:Em n z m ns g)(G:m=n\/(m<n/\av ns g m (f_ ns m) (f_ ns m)=0)){s:d_}:fD (vD n g) (mh ns) (.dic T [] []) (bz (ns.map inD')) (vo n (At n g)) [] Y Y Y s=if m=n then .ok (((List.range n).map (i_ n ns g)).map p8) s else .exc "NoPivot" s:=by
 have o:=h.o;have n12:=o.n12;have H:=o.len;have mn:=h.mn;have C:=GU (n:=n) (z:=z+1) (R:=ns) (g:=g) (by ext) (λi j=>by have:=h.si 0 i j (by ext);have:sz (g i j)<=z:=this;ext)
 obtain⟨x,st,i,f,e,kf,kl,a⟩:=h.run m 0 (At n g) n [] Y Y Y (by ext) C.kf C.kl (by ext) rfl (λi j E y=>by
  have:=o.lt j (HP y)
  unfold At;dsimp only
  rw[e_ this];rfl)
 rw[List.drop_zero,<-List.range_eq_range']at e;rw[e];rcases G with rfl|⟨B,F⟩
 .rw[e_ rfl,OK (by simp[bz,H])];rfl
 .rw[hI (by ext)];have hv:=dI o B;have l:=(kR o B).mpr (.inl rfl);have u:AL n (n+150*m) z (ns.drop m) x:=⟨kf,kl,λi E j y=>by rw[a i j E y];exact h.si m i j (mu _)⟩;have e1:=Od (sh:=vD n g) (b:=T) (st:=st) (i:=i) (f:=f) (s:=s) o hv u (by rw[a _ _ l l];exact F);rw[qk hv,fD,e1]
def Em.struck{n z m:Nat}{ns:QP}{g:Nat->Nat->Rat}(h:Em n z m ns g)(j:m=n\/(m<n/\av ns g m (f_ ns m) (f_ ns m)=0)){s:d_}:bv.p [vD n g,mh ns] s=if m=n then .ok (.lst (((List.range n).map (i_ n ns g)).map p8)) s else .exc "NoPivot" s:=by
 have o:=h.o;have n12:=o.n12;have go:=h.go j (s:=s);have f:c_ (ns.map inD')=I:=dw λd hd=>by
  obtain⟨x,_,rfl⟩:=tf.mp hd;rfl
 have a:kC.p [vD n g,mh ns,.dic T [] []] s=if m=n then .ok (.lst (((List.range n).map (i_ n ns g)).map p8)) s else .exc "NoPivot" s:=by
  show(if c_ (ns.map inD')=I then LM [vD n g,mh ns,.dic T [] []] s else .bad)=_;rw[e_ f];unfold LM vD;dsimp only;rw[yK n12];dsimp only;rw[e_ (by simp;ext)];unfold vD at go;rw[go];by_cases z:m=n
  .rw[e_ z,e_ z]
  .rw[hI z,hI z]
 have u:l7.p (vD n g) (.int 0)=J (.int (n:Int)):=rfl;have i:∀{x y:D}{s:d_},(if [x,y].length<=100000 then PR.ok (D.tup [x,y]) s else .bad)=.ok (.tup [x,y]) s:=λ{x y s}=>e_ (by simp);have l:∀{s:d_},(if([]:QQ).length<=100000 then PR.ok (D.tup []) s else .bad)=.ok (.tup []) s:=λ{s}=>e_ (by decide);rw[wG (by rfl)];unfold iA;rw[show m_ 2 [vD n g,mh ns]=[J (vD n g),J (mh ns)]from rfl,aH,Cq];simp![aE,dL,aJ,bJ,aU,u,Pf,l,i,Dh o,Pg,PU.ax];simp![bN,aE,FZ,a];by_cases z:m=n
 .simp only[e_ z];rfl
 .simp only[hI z];rfl
def oR{l:Nat}{a:QP}{f:Nat->Rat}:Ar (l::a) f=if f l=0 then Ar a f else(l,f l)::Ar a f:=by
 unfold Ar;rw[List.filter_cons];by_cases h:f l=0
 .simp[h]
 .simp[h]
def lp:∀{f:QP}{a:List Pt},f.Nodup->PtS f a->Ar f (k_ a)=a
 |[],a,_,h=>by
  have:a=[]:=by simpa using List.sublist_nil.mp h.sub
  subst this;rfl
 |l::f,[],nd,h=>by
  rw[oR];exact lp (vL.mp nd).2 ⟨List.nil_sublist _,h.sm⟩
 |l::f,p::a,nd,h=>by
  rw[vL]at nd;have u:=h.sub;by_cases e:p.1=l
  .subst e;have i:=(List.cons_sublist_cons).mp u;have c0:k_ (p::a) p.1=p.2:=by rw[aP,e_ rfl]
   rw[oR,c0,hI (h.sm p (by simp)).1]
   rw[mF (λj B=>by
    rw[aP,hI (λe:p.1=j=>nd.1 (by rw[e];exact B))])]
   rw[lp nd.2 ⟨i,λq y=>h.sm q (p5 _ y)⟩]
  .have i:(p.1::a.map (·.1)).Sublist f:=by
    cases u with
    |cons _ s=>exact s
    |cons_cons _ s=>exact absurd rfl e
   have z:k_ (p::a) l=0:=cL λm=>nd.1 (i.subset (by exact m));rw[oR,e_ z];exact lp nd.2 ⟨i,h.sm⟩
def WkOk.dd{n:Nat}{ns:QP}{k:Nat}{w:Wk}(o:On n ns)(h:WkOk n ns k w):N_ w:=by
 have u:∀a:List Pt,PtS (p4 n ns k) a->(w.v::a.map (·.1)).Nodup:=λa l=>by
  rw[vL];refine⟨λm=>?_,(lD.imp λh=>vR h).sublist l.sub⟩;have y:=(ce o).mp (l.sub.subset m);obtain⟨i,z,e⟩:=HR y;rw[L7]at e;have f:=h.v
  have:=(Hg (j:=k+1+i) (qi.mp f).1 o.nd).mp (by rw[f,vE (by simp at z;ext),e])
  ext
 exact⟨u _ h.r,u _ h.c⟩
def WkOk.nn{n:Nat}{ns:QP}{k:Nat}{w:Wk}(o:On n ns)(h:WkOk n ns k w):N8 n w:=by
 have n12:=o.n12;have l:=o.len;have j:(p4 n ns k).length<=12:=by have:=(iD (k:=k) o).length_eq;simp at this;ext
 have pt:∀a:List Pt,PtS (p4 n ns k) a->(∀q∈a,q.1<n/\Tw q.2)/\a.length<=12:=λa f=>⟨λq i=>⟨o.lt _ (HP ((ce o).mp (f.sub.subset (tf.mpr ⟨q,i,rfl⟩)))),(f.sm q i).tw⟩,by have:=f.sub.length_le;simp at this;ext⟩;exact⟨o.lt _ (Ab h.v),h.p.tw,(pt _ h.r).1,(pt _ h.c).1,(pt _ h.r).2,(pt _ h.c).2⟩
def WkOk.at0{n:Nat}{ns:QP}{k m:Nat}{w:Wk}{v:Nat}(o:On n ns)(h:WkOk n ns m w)(hv:ns[k]?=J v)(lt:k<m):cl w v=0/\rw' w v=0:=by
 have f:=(qi.mp hv).1;have ne:w.v≠v:=λe=>by
  have:=(Hg (j:=m) f o.nd).mp (by rw[hv,h.v,e])
  ext
 have l:v∉p4 n ns m:=λz=>by
  obtain⟨i,u,e⟩:=HR ((ce o).mp z);rw[L7]at e
  have:=(Hg (j:=m+1+i) f o.nd).mp (by rw[hv,vE (by simp at u;ext),e])
  ext
 have off:∀a:List Pt,PtS (p4 n ns m) a->k_ a v=0:=λa y=>cL λz=>l (y.sub.subset z);unfold cl rw';rw[aP,aP,hI ne,hI ne,off _ h.c,off _ h.r];exact⟨rfl,rfl⟩
def G0{n:Nat}{ns:QP}{k v j:Nat}(o:On n ns)(hv:ns[k]?=J v):∀(a:List Wk)(m:Nat),k<m->(∀i w,a[i]?=J w->WkOk n ns (m+i) w)->jf a v j=0/\jf a j v=0
 |[],m,_,_=>⟨rfl,rfl⟩
 |w::a,m,lt,h=>by
  have z:=(h 0 w rfl).at0 o hv lt;have f:=G0 (j:=j) o hv a (m+1) (by ext) λi x e=>by
   have:=h (i+1) x (by simpa using e)
   grind
  rw[bZ,bZ]
  constructor<;>grind
def wW{n:Nat}{ns:QP}(o:On n ns){i j:Nat}:∀(f:List Wk)(k:Nat),(∀(m:Nat) w,f[m]?=J w->WkOk n ns (k+m) w)->Cm (9363600*f.length) (jf f i j)
 |[],k,h=>Cm.zero _
 |w::f,k,h=>by
  have nn:=(h 0 w rfl).nn o;have co:∀(B:List Pt)(a:Nat)(q:Rat),Tw q->(∀p∈B,Tw p.2)->Tw (k_ ((a,q)::B) i)/\Tw (k_ ((a,q)::B) j):=λB a q F y=>by
   have:∀z,Tw (k_ ((a,q)::B) z):=λz=>by
    have:∀l:List Pt,(∀p∈l,Tw p.2)->Tw (k_ l z):=λl=>by
     induction l with
     |nil=>intro;exact Tw.zero
     |cons p l C =>
      intro hl;rw[aP];split
      .exact hl p (by simp)
      .exact C λx E=>hl x (p5 _ E)
    exact this _ λp h=>(p_.mp h).elim (λe=>e▸F) (y p)
   exact⟨this i,this j⟩
  rw[Aw,Nat.mul_add,HX]
  exact ((co _ _ _ Tw.one λp y=>(nn.c p y).2).1.mul (co _ _ _ nn.p λp y=>(nn.r p y).2).2 |>.mono (by decide)).add (wW o f (k+1) λm u e=>by
   have:=h (m+1) u (by simpa using e)
   rwa [show k+(m+1)=k+1+m by ext]at this)
def Ov(e:Nat)(A:Nat->Nat->Rat):Prop:=∃E:Nat,E≠0/\E<2^e/\∀i j,∃a:Int,A i j=Rat.divInt a E/\a.natAbs<2^e
def Ov.sz{e:Nat}{A:Nat->Nat->Rat}(l:0<e)(h:Ov e A)(i j:Nat):sz (A i j)<=e:=by obtain⟨E,e0,e1,h⟩:=h;obtain⟨a,f,u⟩:=h i j;rw[f];exact gq e0 l u e1
def Ov.step{e v:Nat}{A:Nat->Nat->Rat}(h:Ov e A)(hv:A v v≠0):Ov (2*e+1) λi j=>A i j-A i v/A v v*A v j:=by
 obtain⟨E,e0,e1,h⟩:=h;obtain⟨b,B,C⟩:=h v v;have u:b≠0:=λz=>hv (by rw[B,z];simp);have Q:(b:Rat)≠0:=by exact_mod_cast u
 have U:2^(2*e+1)=2^e*2^e+2^e*2^e:=by rw[Nat.pow_succ,Nat.two_mul,K6];ext
 have f:∀x y:Int,x.natAbs<2^e->y.natAbs<2^e->(x*y).natAbs<2^e*2^e:=λx y H L=>by
  rw[BD];exact L_ H L
 refine⟨E*b.natAbs,Dy e0 (by ext),?_,λi j=>?_⟩
 .have:=L_ e1 C
  ext
 .obtain⟨a,F,M⟩:=h i j;obtain⟨c,G,O⟩:=h i v;obtain⟨d,P,hd⟩:=h v j;have l:A i j-A i v/A v v*A v j=Rat.divInt (a*b-c*d) ((E:Int)*b):=by
   rw[F,B,G,P];simp only[Rat.divInt_eq_div];push_cast
   grind
  have S:=f a b M C;have R:=f c d O hd;refine⟨if(E:Int)*b<0 then -(a*b-c*d)else a*b-c*d,?_,?_⟩
  .show A i j-A i v/A v v*A v j=_;rw[l,C6 (Hk (by ext) u),BD,Int.natAbs_natCast]
  .split<;>ext
def ex:Nat->Nat
 |0=>27
 |k+1=>2*ex k+1
def qG:∀k,k<=12->0<ex k/\ex k<=120000:=by decide
def nJ{m:Nat}{ns:QP}{g:Nat->Nat->Rat}(a:Ov 27 g)(pv:∀k,k<m->av ns g k (f_ ns k) (f_ ns k)≠0):∀k,k<=m->Ov (ex k) (av ns g k)
 |0,_=>a
 |k+1,f=>(nJ a pv k (by ext)).step (pv k (by ext))
structure Sh(n:Nat)(g:Nat->Nat->Rat):Prop where
 off:∀i j,¬(i<n/\j<n)->g i j=0
 ov:Ov 27 g
def Sh.em{n m:Nat}{ns:QP}{g:Nat->Nat->Rat}(h:Sh n g)(o:On n ns)(mn:m<=n)(pv:∀k,k<m->av ns g k (f_ ns k) (f_ ns k)≠0):Em n 120000 m ns g :=
 ⟨o,mn,h.off,pv,λk i j a=>by
  have:=qG k (by have:=o.n12;ext)
  exact qs ((nJ h.ov pv k a).sz this.1 i j) this.2,by ext⟩
def wY(P:Nat->Prop):∀n,∃m,m<=n/\(∀k,k<m->P k)/\(m=n\/(m<n/\¬P m))
 |0=>⟨0,mu _,λ_ h=>absurd h (Nat.not_lt_zero _),.inl rfl⟩
 |n+1=>by
  obtain⟨m,i,a,f⟩:=wY P n
  grind
def Sh.struck{n:Nat}{ns:QP}{g:Nat->Nat->Rat}(h:Sh n g)(o:On n ns){s:d_}:(bv.p [vD n g,mh ns] s=.exc "NoPivot" s)\/(El n 120000 ns g/\bv.p [vD n g,mh ns] s=.ok (.lst (((List.range n).map (i_ n ns g)).map p8)) s):=by
 obtain⟨m,i,f,a⟩:=wY (λk=>av ns g k (f_ ns k) (f_ ns k)≠0) n;have em:=h.em o i f;rcases a with rfl|⟨a,j⟩
 .exact .inr ⟨em,by rw[em.struck (.inl rfl),e_ rfl]⟩
 .exact .inl (by rw[em.struck (.inr ⟨a,Classical.byContradiction j⟩),hI (by ext)])
structure Tn(n:Nat)(ns:QP)(ws:List Wk):Prop where
 o:On n ns
 hl:ws.length=n
 hw:∀(k:Nat) w,ws[k]?=J w->WkOk n ns k w
abbrev gW(ws:List Wk):Nat->Nat->Rat:=ws.foldl jd λ_ _=>0
section
variable{n:Nat}{ns:QP}{ws:List Wk}
def Tn.sum(t:Tn n ns ws)(i j:Nat):gW ws i j=jf ws i j:=by
 unfold gW
 rw[uj λw h=>by
  obtain⟨k,a⟩:=LU h
  exact(t.hw k w a).dd t.o]
 grind
def Tn.rest(t:Tn n ns ws)(k:Nat):∀(i:Nat) w,(ws.drop k)[i]?=J w->WkOk n ns (k+i) w:=λi w e=>by
 rw[List.getElem?_drop]at e;exact t.hw _ w e
def WkOk.at'{k:Nat}{w:Wk}(o:On n ns)(h:WkOk n ns k w):w.v=f_ ns k:=by
 have:=h.v
 unfold f_;rw[KO,this];rfl
def Tn.av(t:Tn n ns ws):∀k,k<=n->∀i j,av ns (gW ws) k i j=jf (ws.drop k) i j
 |0,_,i,j=>t.sum i j
 |k+1,C,i,j=>by
  have a:=Tn.av t k (by ext);have hl:=t.hl;obtain⟨w,hw⟩:∃w,ws[k]?=J w:=⟨_,vE (show k<ws.length by ext)⟩;have ok:=t.hw k w hw;have l:=ok.at' t.o;have y:ws.drop k=w::ws.drop (k+1):=by obtain⟨h,rfl⟩:=qi.mp hw;exact Hc h
  have f:=λj=>G0 (j:=j) t.o ok.v (ws.drop (k+1)) (k+1) (by ext) (t.rest (k+1));have z:cl w w.v=1:=by unfold cl;rw[aP,e_ rfl]
  have u:rw' w w.v=w.p:=by unfold rw';rw[aP,e_ rfl]
  have B:=ok.p.1;show Law.av ns (gW ws) k i j-Law.av ns (gW ws) k i (f_ ns k)/Law.av ns (gW ws) k (f_ ns k) (f_ ns k)*Law.av ns (gW ws) k (f_ ns k) j=_;rw[a,a,a,a,<-l,y,bZ,bZ,bZ,bZ,(f j).1,(f i).2,(f w.v).1]
  grind
def Tn.w(t:Tn n ns ws){k:Nat}{w:Wk}(hw:ws[k]?=J w):i_ n ns (gW ws) k=w/\Law.av ns (gW ws) k (f_ ns k) (f_ ns k)≠0:=by
 have hl:=t.hl;have o:=t.o;have kl:=(qi.mp hw).1;have M:k<n:=by ext
 have ok:=t.hw k w hw;have G:=ok.at' o;have F:ws.drop k=w::ws.drop (k+1):=by obtain⟨h,rfl⟩:=qi.mp hw;exact Hc h
 have E:=λj=>G0 (j:=j) o ok.v (ws.drop (k+1)) (k+1) (by ext) (t.rest (k+1));have B:cl w w.v=1:=by unfold cl;rw[aP,e_ rfl]
 have f:rw' w w.v=w.p:=by unfold rw';rw[aP,e_ rfl]
 have H:w.p≠0:=ok.p.1;have y:(p4 n ns k).Nodup:=lD.imp λh=>vR h;have ne:∀j∈p4 n ns k,¬w.v=j:=λj a e=>wd o M (by rw[<-G,e];exact a);have l:Law.av ns (gW ws) k w.v w.v=w.p:=by rw[t.av k (by ext),F,bZ,B,f,(E w.v).1];grind
 have C:∀j∈p4 n ns k,Law.av ns (gW ws) k w.v j=k_ w.r j:=λj a=>by
  rw[t.av k (by ext),F,bZ,B,(E j).1];unfold rw';rw[aP,hI (ne j a)];grind
 have u:∀j∈p4 n ns k,Law.av ns (gW ws) k j w.v=k_ w.c j*w.p:=λj a=>by
  rw[t.av k (by ext),F,bZ,f,(E j).2];unfold cl;rw[aP,hI (ne j a)];grind
 have O:Ar (p4 n ns k) (Law.av ns (gW ws) k w.v)=w.r:=by rw[mF C];exact lp y ok.r
 have L:(((p4 n ns k).filter λi=>!decide (Law.av ns (gW ws) k i w.v=0)).map λi=>(i,Law.av ns (gW ws) k i w.v/Law.av ns (gW ws) k w.v w.v))=w.c:=by
  refine Eq.trans ?_ (lp y ok.c);have z:∀j∈p4 n ns k,(Law.av ns (gW ws) k j w.v=0↔k_ w.c j=0):=λj a=>by
   rw[u j a];constructor
   .intro q;grind
   .intro q;rw[q];grind
  have e:((p4 n ns k).filter λi=>!decide (Law.av ns (gW ws) k i w.v=0))=(p4 n ns k).filter λj=>!decide (k_ w.c j=0):=L6 λj a=>by
   rw[decide_eq_decide.mpr (z j a)]
  rw[e];refine A2 λj a=>?_;rw[u j (AO.mp a).1,l];congr 1
  grind
 unfold i_;rw[<-G,O,L,l];exact⟨rfl,H⟩
def Tn.eq(t:Tn n ns ws):(List.range n).map (i_ n ns (gW ws))=ws:=by
 have hl:=t.hl;apply Dv;intro k;by_cases h:k<n
 .have e:=vE (show k<ws.length by ext);rw[u_,HS h,e,Ew,(t.w e).1]
 .rw[AN (by simp;ext),AN (by ext)]
def Tn.sh(t:Tn n ns ws):Sh n (gW ws):=by
 have hl:=t.hl;have n12:=t.o.n12;have f:∀(m:Nat) w,ws[m]?=J w->WkOk n ns (0+m) w:=λm w e=>by rw[Ex];exact t.hw m w e
 constructor
 .intro i j h;rw[t.sum];unfold jf
  have:∀w∈ws,cl w i*rw' w j=0:=λw hw=>by
   obtain⟨k,y⟩:=LU hw;have nn:=(t.hw k w y).nn t.o;have co:∀(u:List Pt)(q:Rat)(x:Nat),¬x<n->(∀p∈u,p.1<n/\Tw p.2)->k_ ((w.v,q)::u) x=0:=λu q x F B=>cL λm=>by
    obtain⟨p,a,e⟩:=tf.mp m;rcases p_.mp a with rfl|a
    .have:=nn.v;ext
    .have:=(B p a).1;ext
   by_cases z:i<n
   .rw[show rw' w j=0 from co _ _ _ (λq=>h ⟨z,q⟩) nn.r];grind
   .rw[show cl w i=0 from co _ _ _ z nn.c];grind
  rw[A2 this]
  have:∀l:List Wk,(l.map λ_=>(0:Rat)).sum=0:=λl=>by
   induction l with
   |nil=>rfl
   |cons _ _ C=>grind
  exact this ws
 .refine⟨144,by decide,by decide,λi j=>?_⟩;obtain⟨z,e,E⟩:=wW t.o ws 0 f;exact⟨z,by rw[t.sum,e];rfl,by ext⟩
def Tn.el(t:Tn n ns ws):El n 120000 ns (gW ws):=t.sh.em t.o (mu _) λk a=>by
 have hl:=t.hl;exact(t.w (vE (show k<ws.length by ext))).2
def Tn.struck(t:Tn n ns ws){s:d_}:bv.p [vD n (gW ws),mh ns] s=.ok (.lst (ws.map p8)) s:=by rw[t.el.struck (.inl rfl),e_ rfl,t.eq]
end
def io(a:List Pt)(x:Nat->Rat):Rat:=(a.map λp=>p.2*x p.1).sum
def fh{p:Pt}{a:List Pt}{x:Nat->Rat}:io (p::a) x=p.2*x p.1+io a x:=by simp[io]
def se(n:Nat)(f x:Nat->Rat):Rat:=((List.range n).map λj=>f j*x j).sum
def dh{n:Nat}{f x:Nat->Rat}:se (n+1) f x=se n f x+f n*x n:=by unfold se;rw[List.range_succ,Ma,List.sum_append,n_,Hm,List.sum_cons,List.sum_nil];grind
def eR{f x:Nat->Rat}:se 0 f x=0:=rfl
def oE{f h x:Nat->Rat}{c:Rat}:∀n,se n (λj=>f j-c*h j) x=se n f x-c*se n h x
 |0=>by rw[eR,eR,eR];grind
 |n+1=>by rw[dh,dh,dh,oE n];grind
def uS{f h x:Nat->Rat}:∀n,se n (λj=>f j+h j) x=se n f x+se n h x
 |0=>by rw[eR,eR,eR];grind
 |n+1=>by rw[dh,dh,dh,uS n];grind
def uh{x:Nat->Rat}{a:Nat}{q:Rat}:∀n,se n (λj=>if a=j then q else 0) x=if a<n then q*x a else 0
 |0=>by rw[eR,hI (by ext)]
 |n+1=>by
  rw[dh,uh n]
  grind
def kE{n:Nat}{f h x:Nat->Rat}(e:∀j,j<n->f j=h j):se n f x=se n h x:=by unfold se;rw[A2 λj a=>by rw[e j (Bb.mp a)]]
def Eg{x:Nat->Rat}:∀n,se n (λ_=>0) x=0
 |0=>rfl
 |n+1=>by rw[dh,Eg n];grind
def KG{n:Nat}{f:Nat->Rat}:se n f (λ_=>0)=0:=by
 induction n with
 |zero=>rfl
 |succ n a=>rw[dh,a];grind
def sA{n:Nat}{x:Nat->Rat}:∀{ps:List Pt},(ps.map (·.1)).Nodup->(∀p∈ps,p.1<n)->se n (k_ ps) x=io ps x
 |[],_,_=>by
  rw[kE λj _=>eJ];rw[Eg];rfl
 |p::ps,nd,a=>by
  rw[n_,vL]at nd;have e:se n (k_ (p::ps)) x=se n (λj=>(if p.1=j then p.2 else 0)+k_ ps j) x:=kE λj _=>by
   rw[aP];by_cases z:p.1=j
   .rw[<-z,cL nd.1];grind
   .rw[hI z,hI z];grind
  rw[e,uS,uh,e_ (a p (by simp)),sA nd.2 λq f=>a q (p5 _ f),fh]
def rT{f x:Nat->Rat}:∀(l:QP),io ((l.filter λj=>!decide (f j=0)).map λj=>(j,f j)) x=(l.map λj=>f j*x j).sum
 |[]=>rfl
 |j::l=>by
  have a:=rT (f:=f) (x:=x) l;rw[n_,List.sum_cons];by_cases z:f j=0
  .rw[KQ (by simp[z]),a,z];grind
  .rw[KP (by simp[z]),n_,fh,a]
def Di{n:Nat}{f x:Nat->Rat}:io (bq n f) x=se n f x:=rT _
section
variable{n z:Nat}{ns:QP}{g:Nat->Nat->Rat}
def El.row(h:El n z ns g){k:Nat}(a:k<n)(x:Nat->Rat):se n (av ns g k (f_ ns k)) x=av ns g k (f_ ns k) (f_ ns k)*x (f_ ns k)+io (i_ n ns g k).r x:=by have d:=(KC (g:=g) h.o a).r;have e:se n (av ns g k (f_ ns k)) x=se n (k_ (((i_ n ns g k).v,(i_ n ns g k).p)::(i_ n ns g k).r)) x:=kE λj _=>(Em.rw h a).symm;rw[e,sA (ps:=((i_ n ns g k).v,(i_ n ns g k).p)::(i_ n ns g k).r) d λp f=>(h.w_r a p f).1];rfl
def El.cf(h:El n z ns g){k i:Nat}(f:k<n):k_ (i_ n ns g k).c i=if f_ ns k=i then 0 else av ns g k i (f_ ns k)/av ns g k (f_ ns k) (f_ ns k):=by
 have a:=h.cl (i:=i) f;have d:=vL.mp (KC (g:=g) h.o f).c;by_cases e:f_ ns k=i
 .rw[e_ e,<-e];exact cL d.1
 .unfold Law.cl at a;rw[aP]at a;rw[hI e];exact(hI e).symm.trans a
def fw(n:Nat)(ns:QP)(g:Nat->Nat->Rat)(b:Nat->Rat):Nat->Nat->Rat
 |0=>b
 |k+1=>λi=>fw n ns g b k i-k_ (i_ n ns g k).c i*fw n ns g b k (f_ ns k)
def A9(v:Nat)(p:Rat)(r:List Pt)(x:Nat->Rat):Nat->Rat:=aT x v ((x v-io r x)/p)
def bw(n:Nat)(ns:QP)(g:Nat->Nat->Rat)(b:Nat->Rat):Nat->Nat->Rat
 |0=>fw n ns g b n
 |m+1=>A9 (f_ ns (n-1-m)) (av ns g (n-1-m) (f_ ns (n-1-m)) (f_ ns (n-1-m))) (i_ n ns g (n-1-m)).r (bw n ns g b m)
abbrev sol(n:Nat)(ns:QP)(g:Nat->Nat->Rat)(b:Nat->Rat):Nat->Rat:=bw n ns g b n
def vS{i j:Nat}(o:On n ns)(a:i<n)(f:j<n)(e:f_ ns i=f_ ns j):i=j :=
 (Hg (by rw[o.len];exact a) o.nd).mp ((dI o a).trans ((congrArg J e).trans (dI o f).symm))
def El.fw_st(h:El n z ns g){b:Nat->Rat}{k:Nat}(f:k<n):∀d,k+d<=n->fw n ns g b (k+d) (f_ ns k)=fw n ns g b k (f_ ns k)
 |0,_=>rfl
 |d+1,hd=>by
  have u:=El.fw_st h (b:=b) f d (by ext);show fw n ns g b (k+d) (f_ ns k)-k_ (i_ n ns g (k+d)).c (f_ ns k)*fw n ns g b (k+d) (f_ ns (k+d))=_;have c0:k_ (i_ n ns g (k+d)).c (f_ ns k)=0:=by
   rw[h.cf (by ext)];by_cases e:f_ ns (k+d)=f_ ns k
   .rw[e_ e]
   .rw[h.zero (k+d) (by ext) (f_ ns k) _ (.inl λm=>?_)]
    .grind
    .obtain⟨i,l,j⟩:=HR m;rw[L7]at j;have hl:=h.o.len;have a:k+d+i<n:=by simp at l;ext
     have:=vS h.o f a (by
      have q:=dI h.o a;rw[vE (by ext),j]at q
      exact Option.some.inj q)
     grind
  grind
def d6{f:Nat->Rat}{j a:Nat}{q:Rat}(h:a≠j):aT f j q a=f a:=hI h
def ia{f:Nat->Rat}{j:Nat}{q:Rat}:aT f j q j=q:=e_ rfl
def xh{b:Nat->Rat}{k:Nat}(o:On n ns)(a:k<n):∀m,m+k<n->bw n ns g b m (f_ ns k)=fw n ns g b n (f_ ns k)
 |0,_=>rfl
 |m+1,f=>by
  show A9 _ _ _ _ _=_;unfold A9;rw[d6 λe=>by have:=vS o a (by ext) e;ext];exact xh o a m (by ext)
def nV{b:Nat->Rat}{k:Nat}(o:On n ns)(a:k<n):∀d,n-k+d<=n->bw n ns g b (n-k+d) (f_ ns k)=bw n ns g b (n-k) (f_ ns k)
 |0,_=>rfl
 |d+1,hd=>by
  show A9 (f_ ns (n-1-(n-k+d))) _ _ (bw n ns g b (n-k+d)) _=_;unfold A9;rw[d6 λe=>by have:=vS o a (by ext) e;ext];exact nV o a d (by ext)
def Dj{k x:Nat}(o:On n ns)(h:x∈ns.drop k):∃l,k<=l/\l<n/\x=f_ ns l:=by
 obtain⟨i,f,e⟩:=HR h;have hl:=o.len;have a:k+i<n:=by simp at f;ext
 have q:=dI o a
 grind
def KH{k:Nat}{q:Pt}(h:q∈(i_ n ns g k).r):q.1∈p4 n ns k:=by have hr:=h;obtain⟨i,a,rfl⟩:=tf.mp hr;exact(AO.mp a).1
def rn{a:List Pt}{x y:Nat->Rat}(e:∀p∈a,x p.1=y p.1):io a x=io a y:=by unfold io;rw[A2 λp f=>by rw[e p f]]
def El.back(h:El n z ns g){b:Nat->Rat}{k:Nat}(a:k<n):se n (av ns g k (f_ ns k)) (sol n ns g b)=fw n ns g b k (f_ ns k):=by
 have o:=h.o;have B:=h.pv k a;have e1:sol n ns g b (f_ ns k)=bw n ns g b (n-k) (f_ ns k):=by
  have:=nV (g:=g) (b:=b) o a k (by ext)
  rwa [show n-k+k=n by ext]at this
 have e2:bw n ns g b (n-k) (f_ ns k)=(fw n ns g b k (f_ ns k)-io (i_ n ns g k).r (bw n ns g b (n-k-1)))/av ns g k (f_ ns k) (f_ ns k):=by
  have e:n-k=(n-k-1)+1:=by ext
  rw[e];show A9 _ _ _ _ _=_;rw[show n-1-(n-k-1)=k by ext];unfold A9;rw[ia,xh o a (n-k-1) (by ext)]
  have:=h.fw_st (b:=b) a (n-k) (by ext)
  rw[show k+(n-k)=n by ext]at this;rw[this,show n-k-1+1-1=n-k-1 by ext]
 have e3:io (i_ n ns g k).r (bw n ns g b (n-k-1))=io (i_ n ns g k).r (sol n ns g b):=rn λq u=>by
  obtain⟨l,y,f,e⟩:=Dj o ((ce o).mp (KH u));rw[e];have i:=nV (g:=g) (b:=b) o f (l-k-1) (by ext);have j:=nV (g:=g) (b:=b) o f l (by ext);rw[show n-l+(l-k-1)=n-k-1 by ext]at i;rw[show n-l+l=n by ext]at j;exact i.trans j.symm
 rw[h.row a,e1,e2,e3]
 grind
def El.rows(h:El n z ns g){b:Nat->Rat}:∀(m k:Nat),k+m=n->∀i,i∈ns.drop k->se n (av ns g k i) (sol n ns g b)=fw n ns g b k i
 |0,k,B,i,j=>by
  have C:=h.o.len
  grind
 |m+1,k,B,i,j=>by
  have a:k<n:=by ext
  have bk:=h.back (b:=b) a;by_cases e:i=f_ ns k
  .rw[e];exact bk
  .have u:i∈ns.drop (k+1):=by
    rw[dE (dI h.o a)]at j;exact(p_.mp j).resolve_left e
   have y:=El.rows h (b:=b) m (k+1) (by ext) i u;have l:se n (av ns g (k+1) i) (sol n ns g b)=se n (av ns g k i) (sol n ns g b)-av ns g k i (f_ ns k)/av ns g k (f_ ns k) (f_ ns k)*se n (av ns g k (f_ ns k)) (sol n ns g b):=oE n;have f:fw n ns g b (k+1) i=fw n ns g b k i-k_ (i_ n ns g k).c i*fw n ns g b k (f_ ns k):=rfl;rw[f,h.cf a]at y
   grind
def El.sol(h:El n z ns g){b:Nat->Rat}{i:Nat}(a:i<n):se n (g i) (sol n ns g b)=b i :=
 h.rows n 0 (by ext) i (by exact h.o.pm.mem_iff.mpr (Bb.mpr a))
def El.one(h:El n z ns g){x y:Nat->Rat}(e:∀i,i<n->se n (g i) x=se n (g i) y):∀i,i<n->x i=y i:=by
 have o:=h.o;have B:∀k,k<=n->∀i,i<n->se n (av ns g k i) x=se n (av ns g k i) y:=λk=>by
  induction k with
  |zero=>exact λ_=>e
  |succ k j =>
   intro u i f;have l:∀x,se n (av ns g (k+1) i) x=se n (av ns g k i) x-av ns g k i (f_ ns k)/av ns g k (f_ ns k) (f_ ns k)*se n (av ns g k (f_ ns k)) x:=λx=>oE n;rw[l,l,j (by ext) i f,j (by ext) _ (o.lt _ (Ab (dI o (by ext))))]
 have E:∀m k,k+m=n->∀i,i∈ns.drop k->x i=y i:=λm=>by
  induction m with
  |zero =>
   intro k u i f;have G:=o.len;rw[OK (by ext)]at f;cases f
  |succ m j =>
   intro k u i f;have a:k<n:=by ext
   rw[dE (dI o a)]at f;have j:=j (k+1) (by ext);rcases p_.mp f with rfl|f
   .have q:=B k (by ext) (f_ ns k) (o.lt _ (Ab (dI o a)));have F:=h.pv k a;rw[h.row a,h.row a,rn λq C=>j q.1 ((ce o).mp (KH C))]at q
    grind
   .exact j i f
 exact λi f=>E n 0 (by ext) i (by exact o.pm.mem_iff.mpr (Bb.mpr f))
end
abbrev Ov1(d:Nat)(x:Nat->Rat):Prop:=Ov d λi _=>x i
def Ov.mono{d f:Nat}{A:Nat->Nat->Rat}(h:Ov d A)(le:d<=f):Ov f A:=by obtain⟨E,e0,e1,h⟩:=h;have p:2^d<=2^f:=Es (by decide) le;refine⟨E,e0,sw e1 p,λi j=>?_⟩;obtain⟨a,l,u⟩:=h i j;exact⟨a,l,sw u p⟩
def PK{t b:Int}{D:Nat}(i:D≠0)(f:b≠0):∃a:Int,Rat.divInt t ((D:Int)*b)=Rat.divInt a ((D*b.natAbs:Nat):Int)/\a.natAbs=t.natAbs:=by refine⟨if(D:Int)*b<0 then -t else t,?_,by split<;>ext⟩;rw[C6 (Hk (by ext) f),BD,Int.natAbs_natCast]
def lQ{x y:Int}{d e:Nat}(a:x.natAbs<2^d)(f:y.natAbs<2^e):(x*y).natAbs<2^(d+e):=by rw[BD];exact bP a f
def Qg{a b q y D E:Rat}(f:D≠0)(j:E≠0)(i:b≠0):a/D-q/E/(b/E)*(y/D)=(a*b-q*y)/(D*b):=by grind
def Qh{a b y D:Rat}(f:D≠0)(i:b≠0):a/D-0*y=a*b/(D*b):=by grind
def Qi{a b S D E:Rat}(f:D≠0)(i:E≠0):a/E*(b/D)+S/(E*D)=(a*b+S)/(E*D):=by grind
def Qj{y S D E:Rat}(a:D≠0)(f:E≠0):y/D-S/(E*D)=(y*E-S)/(E*D):=by grind
def Qk{a b D E:Rat}(f:D≠0)(j:E≠0)(i:b≠0):a/(E*D)/(b/E)=a/(D*b):=by grind
def Ql{a b D:Rat}(f:D≠0)(i:b≠0):a/D=a*b/(D*b):=by grind
def Ov.fw{d e v:Nat}{x c:Nat->Rat}{A:Nat->Nat->Rat}(l:Ov1 d x)(f:Ov e A)(hv:A v v≠0)(S:∀i,c i=0\/c i=A i v/A v v):Ov1 (d+e+1) λi=>x i-c i*x v:=by
 obtain⟨D,F,W,l⟩:=l;obtain⟨E,e0,e1,f⟩:=f;obtain⟨b,L,C⟩:=f v v;obtain⟨Q,B,u⟩:=l v 0;have X:(E:Rat)≠0:=by
  have:E≠0:=by ext
  exact_mod_cast this
 have P:(D:Rat)≠0:=by
  have:D≠0:=by ext
  exact_mod_cast this
 have H:b≠0:=λz=>hv (by rw[L,z];simp);have M:(b:Rat)≠0:=by exact_mod_cast H
 refine⟨D*b.natAbs,Dy F (by ext),by have:=bP W C;ext,λi j=>?_⟩;obtain⟨a,G,O⟩:=l i 0;obtain⟨t,R,Z⟩:∃t:Int,x i-c i*x v=Rat.divInt t ((D:Int)*b)/\t.natAbs<2^(d+e+1):=by
  rcases S i with z|z
  .refine⟨a*b,?_,by have:=lQ O C;ext⟩;rw[z,show x i=_ from G];simp only[Rat.divInt_eq_div];push_cast;exact Qh P M
  .obtain⟨q,eq,U⟩:=f i v;refine⟨a*b-q*Q,?_,by have:=lQ O C;have:=lQ U u;rw[HX e d]at this;ext⟩;rw[z,show x i=_ from G,show x v=_ from B,eq,L];simp only[Rat.divInt_eq_div];push_cast;exact Qg P X M
 obtain⟨y,e1,e2⟩:=PK F H;exact⟨y,R.trans e1,by ext⟩
def rW{d e D E:Nat}{x:Nat->Rat}(H:D≠0)(M:E≠0)(j:∀i,∃a:Int,x i=Rat.divInt a D/\a.natAbs<2^d):∀f:List Pt,(∀p∈f,∃a:Int,p.2=Rat.divInt a E/\a.natAbs<2^e)->∃S:Int,io f x=Rat.divInt S ((E*D:Nat):Int)/\S.natAbs<=f.length*2^(e+d)
 |[],_=>⟨0,by rw[Rat.zero_divInt];rfl,by simp⟩
 |p::f,l=>by
  obtain⟨S,y,O⟩:=rW H M j f λq L=>l q (p5 _ L);obtain⟨a,u,G⟩:=l p (by simp);obtain⟨b,B,F⟩:=j p.1;have C:(E:Rat)≠0:=by simp_all
  have z:(D:Rat)≠0:=by
   have:D≠0:=by ext
   exact_mod_cast this
  refine⟨a*b+S,?_,?_⟩
  .rw[fh,y,u,B];simp only[Rat.divInt_eq_div];push_cast;exact Qi z C
  .have:=lQ G F
   rw[Aw,Nat.add_mul];ext
def Oe{d e:Nat}{x:Nat->Rat}{A:Nat->Nat->Rat}{v:Nat}(f:Ov1 d x)(a:Ov e A){r:List Pt}(hr:∀p∈r,p.2=A v p.1)(hl:r.length<=12):sz (io r x)<=d+e+4:=by
 obtain⟨D,j,y,f⟩:=f;obtain⟨E,e0,e1,a⟩:=a;obtain⟨S,l,z⟩:=rW j e0 (λi=>f i 0) r λp u=>by rw[hr p u];exact a v p.1
 rw[l];have B:2^(d+e+4)=16*2^(e+d):=by rw[K6,HX d e];ext
 have m:=Nat.mul_le_mul_right (2^(e+d)) hl;have q:=Nat.two_pow_pos (e+d);exact gq (Dy e0 j) (by ext) (by ext) (by have:=bP e1 y;ext)
def KI{d e v:Nat}{x:Nat->Rat}{A:Nat->Nat->Rat}(l:Ov1 d x)(B:Ov e A)(hv:A v v≠0){r:List Pt}(hr:∀p∈r,p.2=A v p.1)(hl:r.length<=12):Ov1 (d+e+4) (A9 v (A v v) r x)/\∀k,sz (x v-io (r.take k) x)<=d+e+4:=by
 obtain⟨D,u,U,l⟩:=l;obtain⟨E,e0,e1,B⟩:=B;obtain⟨b,P,R⟩:=B v v;obtain⟨xv,F,C⟩:=l v 0;have W:(E:Rat)≠0:=by
  have:E≠0:=by ext
  exact_mod_cast this
 have M:(D:Rat)≠0:=by
  have:D≠0:=by ext
  exact_mod_cast this
 have O:b≠0:=λz=>hv (by rw[P,z];simp);have Q:(b:Rat)≠0:=by exact_mod_cast O
 have p2:2^(d+e+4)=16*2^(d+e):=by rw[K6];ext
 have top:∀r:List Pt,(∀p∈r,p.2=A v p.1)->r.length<=12->∃f:Int,x v-io r x=Rat.divInt f ((E*D:Nat):Int)/\f.natAbs<2^(d+e+4):=λr hr hl=>by
  obtain⟨S,eS,Z⟩:=rW u e0 (λi=>l i 0) r λp L=>by rw[hr p L];exact B v p.1
  have m:=Nat.mul_le_mul_right (2^(e+d)) hl;rw[HX e d]at Z m;have hE:((E:Int)).natAbs<2^e:=by simpa using e1
  refine⟨xv*E-S,?_,by have:=lQ C hE;ext⟩;rw[eS,show x v=_ from F];simp only[Rat.divInt_eq_div];push_cast;exact Qj M W
 constructor
 .refine⟨D*b.natAbs,Dy u (by ext),by have:=bP U R;ext,λi j=>?_⟩;obtain⟨t,et,ht⟩:∃t:Int,A9 v (A v v) r x i=Rat.divInt t ((D:Int)*b)/\t.natAbs<2^(d+e+4):=by
   unfold A9;by_cases z:i=v
   .obtain⟨f,G,H⟩:=top r hr hl;refine⟨f,?_,H⟩;rw[z,ia,G,P];simp only[Rat.divInt_eq_div];push_cast;exact Qk M W Q
   .obtain⟨a,X,ha⟩:=l i 0;refine⟨a*b,?_,by have:=lQ ha R;ext⟩;rw[d6 z,show x i=_ from X];simp only[Rat.divInt_eq_div];push_cast;exact Ql M Q
  obtain⟨y,e1,e2⟩:=PK (t:=t) u O;exact⟨y,et.trans e1,by ext⟩
 .intro k;obtain⟨f,G,H⟩:=top (r.take k) (λp L=>hr p (LV L)) (by rw[Eu];ext);rw[G];exact gq (Dy e0 u) (by ext) H (by have:=bP e1 U;rw[HX e d]at this;ext)
section
variable{n:Nat}{ns:QP}{g:Nat->Nat->Rat}
def El.fw_ov(h:El n 120000 ns g)(a:Ov 27 g){b:Nat->Rat}(f:Ov1 300 b):∀k,k<=n->Ov1 (300+ex k) (Law.fw n ns g b k)
 |0,_=>f.mono (by ext)
 |k+1,j=>by
  have:=Ov.fw (c:=k_ (i_ n ns g k).c) (El.fw_ov h a f k (by ext)) (nJ a h.pv k (by ext)) (h.pv k (by ext)) λi=>by
   rw[h.cf (by ext)];by_cases e:f_ ns k=i
   .exact .inl (e_ e)
   .exact .inr (hI e)
  exact this.mono (by show _<=300+(2*ex k+1);ext)
def El.r_av(h:El n 120000 ns g){k:Nat}:∀p∈(i_ n ns g k).r,p.2=av ns g k (f_ ns k) p.1:=λq a=>by
 have hr:=a;obtain⟨i,f,rfl⟩:=tf.mp hr;rfl
def Eh{k:Nat}(o:On n ns):(i_ n ns g k).r.length<=12:=by unfold i_ Ar;rw[v4];exact qs (HN _ _) (uL o)
def El.bw_ov(h:El n 120000 ns g)(a:Ov 27 g){b:Nat->Rat}(f:Ov1 300 b):∀m,m<=n->∃d,d+ex (n-m)=300+2*ex n+3*m/\Ov1 d (bw n ns g b m)
 |0,_=>⟨300+ex n,by rw[Nat.sub_zero];ext,h.fw_ov a f n (mu _)⟩
 |m+1,j=>by
  obtain⟨d,l,hd⟩:=El.bw_ov h a f m (by ext);have i:n-1-m<n:=by ext
  have:=(KI hd (nJ a h.pv (n-1-m) (by ext)) (h.pv _ i) h.r_av (Eh h.o)).1
  refine⟨d+ex (n-1-m)+4,?_,this⟩;have e:ex (n-m)=2*ex (n-1-m)+1:=by rw[show n-m=(n-1-m)+1 by ext];rfl
  grind
def El.bw_le(h:El n 120000 ns g)(f:Ov 27 g){b:Nat->Rat}(i:Ov1 300 b){m:Nat}(a:m<=n):Ov1 250000 (bw n ns g b m):=by
 obtain⟨d,e,hd⟩:=h.bw_ov f i m a
 have:=(qG n h.o.n12).2
 have:=h.o.n12
 exact hd.mono (by ext)
end
abbrev mm(n:Nat)(x:Nat->Rat):D:=.lst ((List.range n).map λi=>qD (x i))
def jR{n i:Nat}{x:Nat->Rat}(h:i<n):pz ((List.range n).map λi=>qD (x i)) (i:Int)=J (qD (x i)):=L2.dX (by simp[h])
def vq{n i:Nat}{x:Nat->Rat}(h:i<n):vf ((List.range n).map λi=>qD (x i)).length (i:Int)=J i:=by simp only[v4,A_];exact MM.ie h
def sV{n i:Nat}{x:Nat->Rat}{q:Rat}(h:i<n):((List.range n).map λi=>qD (x i)).set i (qD q)=(List.range n).map λa=>qD (aT x i q a):=by
 apply Dv;intro a;by_cases f:a<n
 .by_cases e:i=a
  .subst e;simp[f,aT]
  .rw[p6 e];simp[f,aT,Ne.symm e]
 .rw[AN (by simp;ext),AN (by simp;ext)]
abbrev Ai(n:Nat)(wk rt:D)(x:Nat->Rat)(z4 z5 z6 z7 z8 z9 z10 z11:QB):aw:=[J (.int (n:Int)),J wk,J rt,J (mm n x),z4,z5,z6,z7,z8,z9,z10,z11]
def LP(v:Nat)(a:List Pt)(x:Nat->Rat):Nat->Rat:=a.foldl (λx p=>aT x p.1 (x p.1-p.2*x v)) x
def yk{v i:Nat}:∀{a:List Pt}{x:Nat->Rat},(a.map (·.1)).Nodup->v∉a.map (·.1)->LP v a x i=x i-k_ a i*x v
 |[],x,_,_=>by show x i=_;rw[eJ];grind
 |p::a,x,nd,hv=>by
  rw[n_,vL]at nd;rw[n_,p_,not_or]at hv;show LP v a (aT x p.1 (x p.1-p.2*x v)) i=_;rw[yk nd.2 hv.2,d6 hv.1,aP];by_cases e:p.1=i
  .subst e;rw[ia,cL nd.1];grind
  .rw[d6 (Ne.symm e),hI e]
def Ei{n v:Nat}{y rt:D}{C u B a f:QB}{s:d_}(hv:v<n):∀(l:List Pt)(x:Nat->Rat)(F E:QB),(∀p∈l,p.1<n/\sz p.2+sz (x v)<=900000/\sz (x p.1)+sz (p.2*x v)<=900000)->(l.map (·.1)).Nodup->v∉l.map (·.1) ->
  ∃L H,AK (tx (lR (i0 8) (lR (i0 9) ts)) 2:Xg [3]).p Ks.p (l.map lw) (Ai n y rt x (J (inD' v)) C u B F E a f) s=.nx (Ai n y rt (LP v l x) (J (inD' v)) C u B L H a f) s
 |[],x,F,E,_,_,_=>⟨F,E,rfl⟩
 |p::l,x,F,E,O,nd,G=>by
  obtain⟨M,X,W⟩:=O p (by simp);rw[n_,vL]at nd;rw[n_,p_,not_or]at G;have S:=sB (s:=s) X;have R:=qY (s:=s) W
  obtain⟨L,H,e⟩:=Ei hv l (aT x p.1 (x p.1-p.2*x v)) (J (inD' p.1)) (J (qD p.2)) (λq P=>by
   obtain⟨Q,Z,U⟩:=O q (p5 _ P);have ne:q.1≠p.1:=λz=>nd.1 (z▸tf.mpr ⟨q,P,rfl⟩);rw[d6 G.1,d6 ne]
   exact⟨Q,Z,U⟩) nd.2 G.2
  refine⟨L,H,?_⟩;have b:Ks.p (Ai n y rt x (J (inD' v)) C u B (J (inD' p.1)) (J (qD p.2)) a f) s=.nx (Ai n y rt (aT x p.1 (x p.1-p.2*x v)) (J (inD' v)) C u B (J (inD' p.1)) (J (qD p.2)) a f) s:=by
   rw[sP,lE (v:=qD (x p.1-p.2*x v)) (s1:=s) (j:=(p.1:Int)) (s2:=s) (ds:=(List.range n).map λi=>qD (x i)) (n:=p.1) (by
    simp![aE,aJ,hU,jR M,jR hv,Pf,S,R]) (by simp only[aA,aq]) rfl (vq M),sV M]
   rfl
  rw[n_,iB (show(tx (lR (i0 8) (lR (i0 9) ts)) 2:Xg [3]).p (lw p) (Ai n y rt x (J (inD' v)) C u B F E a f)=J (Ai n y rt x (J (inD' v)) C u B (J (inD' p.1)) (J (qD p.2)) a f)from rfl),b];exact e
def Ej{n v B:Nat}{wk rt:D}{z5 z6 z7 z8 z9:QB}{s:d_}(hv:v<n):∀(f:List Pt)(x:Nat->Rat)(l u:QB),(∀p∈f,p.1<n/\sz p.2+sz (x p.1)+B<=900000)->(∀k,sz (x v-io (f.take k) x)<=B)->v∉f.map (·.1) ->
  ∃y C,AK (tx (lR (i0 10) (lR (i0 11) ts)) 2:Xg [3]).p Kt.p (f.map lw) (Ai n wk rt x (J (inD' v)) z5 z6 z7 z8 z9 l u) s=.nx (Ai n wk rt (aT x v (x v-io f x)) (J (inD' v)) z5 z6 z7 z8 z9 y C) s
 |[],x,l,u,_,_,_=>⟨l,u,by
  have:aT x v (x v-io [] x)=x:=by
   funext a;unfold aT;split
   .rename_i e;rw[e,show io [] x=0 from rfl];grind
   .rfl
  rw[this];rfl⟩
 |p::f,x,l,u,O,M,F=>by
  obtain⟨S,X⟩:=O p (by simp);rw[n_,p_,not_or]at F;have z0:=M 0;have z0:sz (x v)<=B:=by
   have e:x v-io ((p::f).take 0) x=x v:=by rw[List.take_zero,show io [] x=0 from rfl];grind
   rw[e]at z0;exact z0
  have R:=sB (p:=p.2) (q:=x p.1) (s:=s) (by ext);have Q:=qY (p:=x v) (q:=p.2*x p.1) (s:=s) (by have:=kG p.2 (x p.1);ext);have L:∀G:List Pt,v∉G.map (·.1)->io G (aT x v (x v-p.2*x p.1))=io G x:=λG E=>rn λq H=>d6 λz=>E (z▸tf.mpr ⟨q,H,rfl⟩)
  obtain⟨y,C,e⟩:=Ej (B:=B) (wk:=wk) (rt:=rt) (z5:=z5) (z6:=z6) (z7:=z7) (z8:=z8) (z9:=z9) (s:=s) hv f (aT x v (x v-p.2*x p.1)) (J (inD' p.1)) (J (qD p.2)) (λq E=>by
   obtain⟨P,W⟩:=O q (p5 _ E);have ne:q.1≠v:=λz=>F.2 (z▸tf.mpr ⟨q,E,rfl⟩);rw[d6 ne]
   exact⟨P,W⟩) (λk=>by
   have:=M (k+1)
   rw[List.take_succ_cons,fh]at this;rw[ia,L _ λm=>F.2 (tf.mpr (let⟨q,E,e⟩:=tf.mp m;⟨q,LV E,e⟩))];rw[show x v-p.2*x p.1-io (f.take k) x=x v-(p.2*x p.1+io (f.take k) x) by grind]
   exact this) F.2
  refine⟨y,C,?_⟩;have b:Kt.p (Ai n wk rt x (J (inD' v)) z5 z6 z7 z8 z9 (J (inD' p.1)) (J (qD p.2))) s=.nx (Ai n wk rt (aT x v (x v-p.2*x p.1)) (J (inD' v)) z5 z6 z7 z8 z9 (J (inD' p.1)) (J (qD p.2))) s:=by
   rw[sP,lE (v:=qD (x v-p.2*x p.1)) (s1:=s) (j:=(v:Int)) (s2:=s) (ds:=(List.range n).map λi=>qD (x i)) (n:=v) (by
    simp![aE,aJ,hU,jR S,jR hv,Pf,R,Q]) (by simp only[aA,aq]) rfl (vq hv),sV hv]
   rfl
  have U:aT (aT x v (x v-p.2*x p.1)) v (aT x v (x v-p.2*x p.1) v-io f (aT x v (x v-p.2*x p.1)))=aT x v (x v-io (p::f) x):=by
   rw[ia,L _ F.2,fh];funext a;unfold aT;split
   .grind
   .rfl
  rw[U]at e;rw[n_,iB (show(tx (lR (i0 10) (lR (i0 11) ts)) 2:Xg [3]).p (lw p) (Ai n wk rt x (J (inD' v)) z5 z6 z7 z8 z9 l u)=J (Ai n wk rt x (J (inD' v)) z5 z6 z7 z8 z9 (J (inD' p.1)) (J (qD p.2)))from rfl),b];exact e
section
variable{n:Nat}{ns:QP}{g:Nat->Nat->Rat}
def El.fw_p(h:El n 120000 ns g)(B:Ov 27 g){b:Nat->Rat}(C:Ov1 300 b){k:Nat}(f:k<n){wk rt:D}{z8 z9 z10 z11:QB}{s:d_}:∃l j,(dG (bT (ac 7)) (tx (lR (i0 8) (lR (i0 9) ts)) 2) Ks:Xd [3]).p (Ai n wk rt (Law.fw n ns g b k) (J (inD' (f_ ns k))) (J (qD (i_ n ns g k).p)) (J (.tup ((i_ n ns g k).r.map lw))) (J (.tup ((i_ n ns g k).c.map lw))) z8 z9 z10 z11) s=.nx (Ai n wk rt (Law.fw n ns g b (k+1)) (J (inD' (f_ ns k))) (J (qD (i_ n ns g k).p)) (J (.tup ((i_ n ns g k).r.map lw))) (J (.tup ((i_ n ns g k).c.map lw))) l j z10 z11) s:=by
 have o:=h.o;have d:=vL.mp (KC (g:=g) o f).c;have y:=o.lt _ (Ab (dI o f));have le:=qG k (by have:=o.n12;ext);have ov:=h.fw_ov B C k (by ext);have a:=λi=>ov.sz (by ext) i 0
 obtain⟨l,j,e⟩:=Ei y (i_ n ns g k).c (Law.fw n ns g b k) z8 z9 (λp z=>by
  obtain⟨u,L⟩:=h.w_c f p (p5 _ z);have H:=a (f_ ns k);have F:=a p.1;have G:=kG p.2 (Law.fw n ns g b k (f_ ns k))
  exact⟨u,by ext,by ext⟩) d.2 d.1
 refine⟨l,j,?_⟩;have E:LP (f_ ns k) (i_ n ns g k).c (Law.fw n ns g b k)=Law.fw n ns g b (k+1):=by funext i;exact yk d.2 d.1
 rw[E]at e;rw[fA];show PR.go (PR.of (J ((i_ n ns g k).c.map lw)) s) _ _=_;exact e
def El.bk_p(h:El n 120000 ns g)(E:Ov 27 g){b:Nat->Rat}(L:Ov1 300 b){m k:Nat}(y:k<n)(O:m<n)(G:k=n-1-m){wk rt:D}{z8 z9 z10 z11:QB}{s:d_}:∃f l,(aM (dG (bT (ac 6)) (tx (lR (i0 10) (lR (i0 11) ts)) 2) Kt) N3:Xd [3]).p (Ai n wk rt (bw n ns g b m) (J (inD' (f_ ns k))) (J (qD (i_ n ns g k).p)) (J (.tup ((i_ n ns g k).r.map lw))) (J (.tup ((i_ n ns g k).c.map lw))) z8 z9 z10 z11) s=.nx (Ai n wk rt (bw n ns g b (m+1)) (J (inD' (f_ ns k))) (J (qD (i_ n ns g k).p)) (J (.tup ((i_ n ns g k).r.map lw))) (J (.tup ((i_ n ns g k).c.map lw))) z8 z9 f l) s:=by
 have o:=h.o;have d:=vL.mp (KC (g:=g) o y).r;have u:f_ ns k<n:=o.lt _ (Ab (dI o y));have C:=h.pv k y;have ov:=h.bw_le E L (m:=m) (by ext);have le:=qG k (by have:=o.n12;ext);have bk:=(KI ov (nJ E h.pv k (by ext)) C h.r_av (Eh o)).2
 obtain⟨f,l,e⟩:=Ej (B:=370004) (wk:=wk) (rt:=rt) (z5:=J (qD (i_ n ns g k).p)) (z6:=J (.tup ((i_ n ns g k).r.map lw))) (z7:=J (.tup ((i_ n ns g k).c.map lw))) (z8:=z8) (z9:=z9) (s:=s) u (i_ n ns g k).r (bw n ns g b m) z10 z11 (λp H=>by
  obtain⟨F,S⟩:=h.w_r y p (p5 _ H);have Q:sz (bw n ns g b m p.1)<=250000:=ov.sz (by ext) p.1 0
  exact⟨F,by ext⟩) (λi=>by have:=bk i;ext) d.1
 refine⟨f,l,?_⟩;have R:sz (bw n ns g b m (f_ ns k)-io (i_ n ns g k).r (bw n ns g b m))<=370004:=by
  have:=bk (i_ n ns g k).r.length
  rw[List.take_length]at this;ext
 have P:=h.si k (f_ ns k) (f_ ns k) (by ext);have q:=D_ (p:=bw n ns g b m (f_ ns k)-io (i_ n ns g k).r (bw n ns g b m)) (q:=av ns g k (f_ ns k) (f_ ns k)) (s:=s) C (by ext);rw[aH,fA,gx];show PS.then (PR.go (PR.of (J ((i_ n ns g k).r.map lw)) s) _ _) _=_;refine(congrArg (λz:PS=>z.then _) e).trans ?_
 rw[PU.ax,sP,lE (v:=qD ((bw n ns g b m (f_ ns k)-io (i_ n ns g k).r (bw n ns g b m))/av ns g k (f_ ns k) (f_ ns k))) (s1:=s) (j:=(f_ ns k:Int)) (s2:=s) (ds:=(List.range n).map λi=>qD (aT (bw n ns g b m) (f_ ns k) (bw n ns g b m (f_ ns k)-io (i_ n ns g k).r (bw n ns g b m)) i)) (n:=f_ ns k) (by
  simp![aE,aJ,hU,jR u,Pf,ia]
  exact q) (by simp only[aA,aq]) rfl (vq u),sV u]
 have M:aT (aT (bw n ns g b m) (f_ ns k) (bw n ns g b m (f_ ns k)-io (i_ n ns g k).r (bw n ns g b m))) (f_ ns k) ((bw n ns g b m (f_ ns k)-io (i_ n ns g k).r (bw n ns g b m))/av ns g k (f_ ns k) (f_ ns k))=bw n ns g b (m+1):=by
  show _=A9 _ _ _ _;rw[<-G];unfold A9;funext a;unfold aT
  split<;>rfl
 rw[M];rfl
def El.solved(h:El n 120000 ns g)(W:Ov 27 g){b:Nat->Rat}(X:Ov1 300 b){s:d_}:bp.p [.int (n:Int),.lst (((List.range n).map (i_ n ns g)).map p8),mm n b] s=.ok (mm n (Law.sol n ns g b)) s:=by
 have o:=h.o;have n12:=o.n12;generalize hw:D.lst (((List.range n).map (i_ n ns g)).map p8)=a
 have Z:=jB (ws:=[3]) (ws':=[]) (env:=[J (.int (n:Int)),J a,J (mm n b),Y,Y,Y,Y,Y,Y,Y,Y,Y]) (s:=s) (s0:=s) (fm:=[2]) (i:=cg Cp (aa (ac 0) a_)) (t:=pu) (e:=ag l7 (ac 1) (ac 0)) (l:=List.range n) (λj=>inD' j) (λj=>qD (b j)) (λ_=>I) (by
  dsimp![gu,am,az];rw[qF (by ext),Br,Pf]
  simp[eO]) (by simp;ext) (λj hj=>⟨rfl,λ_=>by
   dsimp![aJ,aA,n_,Hm,LQ,Er,Ev,hU,jR (Bb.mp hj),Pf]⟩)
 have ft:(List.range n).filter (λ_=>I)=List.range n:=KW.mpr (by simp);rw[ft]at Z;have w_get:∀{k:Nat}{d:D},(((List.range n).map (i_ n ns g)).map p8)[k]?=J d->k<n/\d=p8 (i_ n ns g k):=λ{k d} e=>by
  have L:k<n:=by have:=(qi.mp e).1;simpa using this
  rw[u_,u_,HS L]at e;exact⟨L,(Option.some.inj e).symm⟩
 obtain⟨S,s1,e1,G,H,C,F,u,f,rfl,P⟩:=fT (g:=(tx (lR (i0 4) (lR (i0 5) (lR (i0 6) (lR (i0 7) ts)))) 4:Xg [3]).p) (b:=(dG (bT (ac 7)) (tx (lR (i0 8) (lR (i0 9) ts)) 2) Ks:Xd [3]).p)
  (λk env y=>∃G H C F u f,env=Ai n a (mm n b) (Law.fw n ns g b k) G H C F u f Y Y/\y=s) (((List.range n).map (i_ n ns g)).map p8) 0 (Ai n a (mm n b) b Y Y Y Y Y Y Y Y) s ⟨_,_,_,_,_,_,rfl,rfl⟩ (λk env y d ⟨G,H,C,F,u,f,Q,M⟩ hd=>by
   subst Q;subst M;obtain⟨L,rfl⟩:=w_get hd;rw[Ex];obtain⟨y8,y9,e⟩:=h.fw_p W X L (wk:=a) (rt:=mm n b) (z8:=u) (z9:=f) (z10:=Y) (z11:=Y) (s:=y)
   exact⟨_,_,y,rfl,e,_,_,_,_,_,_,rfl,rfl⟩)
 rw[v4,v4,A_,Ex,P]at e1;obtain⟨U,s2,e2,u4,u5,u6,u7,u8,u9,al,ab,rfl,O⟩:=fT (g:=(tx (lR (i0 4) (lR (i0 5) (lR (i0 6) (lR (i0 7) ts)))) 4:Xg [3]).p) (b:=(aM (dG (bT (ac 6)) (tx (lR (i0 10) (lR (i0 11) ts)) 2) Kt) N3:Xd [3]).p)
  (λm env y=>∃G H C F u f B E,env=Ai n a (mm n b) (bw n ns g b m) G H C F u f B E/\y=s) (((List.range n).map (i_ n ns g)).map p8).reverse 0 (Ai n a (mm n b) (bw n ns g b 0) G H C F u f Y Y) s ⟨_,_,_,_,_,_,_,_,rfl,rfl⟩ (λm env y d ⟨G,H,C,F,u,f,B,E,Q,M⟩ hd=>by
   subst Q;subst M;have R:m<n:=by have:=(qi.mp hd).1;simpa using this
   rw[OL (by simpa using R)]at hd;simp only[v4,A_]at hd;obtain⟨L,rfl⟩:=w_get hd;rw[Ex];obtain⟨ai,ak,e⟩:=h.bk_p W X (m:=m) L R rfl (wk:=a) (rt:=mm n b) (z8:=u) (z9:=f) (z10:=B) (z11:=E) (s:=y)
   exact⟨_,_,y,rfl,e,_,_,_,_,_,_,_,_,rfl,rfl⟩)
 rw[LX,v4,v4,A_,Ex,O]at e2;rw[wO (by rfl)];unfold iC;rw[show m_ 12 [.int (n:Int),a,mm n b]=[J (.int (n:Int)),J a,J (mm n b),Y,Y,Y,Y,Y,Y,Y,Y,Y]from rfl];have st:(gb 3 (bx 1 [2] (cg Cp (aa (ac 0) a_)) (ws':=[]) (i0 0) pu (ag l7 (ac 1) (ac 0))):Xd [3]).p [J (.int (n:Int)),J a,J (mm n b),Y,Y,Y,Y,Y,Y,Y,Y,Y] s=.nx (Ai n a (mm n b) b Y Y Y Y Y Y Y Y) s:=by rw[Cr,Z,Pg,e_ xn];rfl
 rw[aH,st,PU.ax,aH,fA,gx];dsimp![aA];subst hw;show((PS.then (PR.go (PR.of (J (((List.range n).map (i_ n ns g)).map p8)) s) _ _) _)).fin=_;rw[Pf,Pg];refine(congrArg (λz:PS=>(z.then _).fin) e1).trans ?_;rw[PU.ax,aH,fA,gu,am];dsimp![aA,az,Kn,Pf,Pg];refine(congrArg (λz:PS=>(z.then _).fin) e2).trans ?_;rw[PU.ax,oA (d:=mm n (Law.sol n ns g b)) rfl,PU.bS]
end
def BA(k:Nat)(d:D):Prop:=∀s,(cN k).p [d,d] s=.ok (.bl I) s
def wS{k:Nat}{i:Int}:BA (k+1) (.int i):=λs=>by
 rw[kK (by rfl)];unfold eK;simp[m_,bX,PR.bl,DR]
def tX{k:Nat}{f:QQ}(d:D){s:d_}(hl:f.length<=1000)(z:(cg iZ (aa (ac 0) (aa (ac 1) a_)):Xi []).p [J d,J d] s=.ok (gF f f) s)(h:∀x∈f,BA k x):
  (qr oM (aa (bx 2 [] (cg iZ (aa (ac 0) (aa (ac 1) a_))) (ws':=[]) (tx (lR (i0 0) (lR (i0 1) ts)) 2) pu (ao (cN k) (aa (ac 0) (aa (ac 1) a_)))) a_):Xe []).p [J d,J d] s=.ok (.bl I) s:=by
 have c:=JH (ws':=[]) (fm:=[]) (t:=pu) (e:=ao (cN k) (aa (ac 0) (aa (ac 1) a_))) (λ_=>I) (λ_=>.bl I) z (by simp[gF];ext) (λx u=>by
  obtain⟨p,i,rfl⟩:=tf.mp u;have e:p.1=p.2:=by rw[List.zip_eq_zipWith,List.zipWith_self]at i;obtain⟨x,_,rfl⟩:=tf.mp i;rfl
  have y:=h p.1 (K2 i).1 s;rw[<-e]
  exact⟨_,_,rfl,rfl,λ_=>by simp[y]⟩)
 rw[xO]at c;have B:oM.p [.lst ((gF f f).map λ_=>.bl I)]=J (.bl I):=by
  have:∀l:QQ,i9 (l.map λ_=>D.bl I)=J (l.map λ_=>I):=λl=>by
   induction l with
   |nil=>rfl
   |cons a l j=>rw[n_,i9,j];rfl
  show((J ((gF f f).map λ_=>D.bl I)).bind i9).map _=_;rw[Hh,this];simp
 rw[cE,am,c];simp only[Pb,az,B,Pf]
def G1{k:Nat}{a:QQ}(hl:a.length<=1000)(h:∀x∈a,BA k x):BA (k+1) (.tup a):=λs=>by
 rw[kK (by rfl)];unfold eK;rw[show m_ 2 [D.tup a,.tup a]=[J (.tup a),J (.tup a)]from rfl];have c:=tX (D.tup a) (s:=s) hl (by simp) h;have i:(xB (ag (DR T) (ac 1) (xC .non)):Xt []).p [J (.tup a),J (.tup a)] s=.ok T s:=rfl;have f:(xB (vu (bQ ["list","tuple"]) (ac 1)):Xt []).p [J (.tup a),J (.tup a)] s=.ok I s:=by simp[bX]
 have l:(AR (du (xB (vu (bQ ["list","tuple"]) (ac 0)))) (xB (ag Al (vu (bQ ["list"]) (ac 0)) (vu (bQ ["list"]) (ac 1)))):Xt []).p [J (.tup a),J (.tup a)] s=.ok T s:=by simp[bX]
 have j:(ag Ay (qr fZ (aa (ac 0) a_)) (qr fZ (aa (ac 1) a_)):Xe []).p [J (.tup a),J (.tup a)] s=.ok (.bl I) s:=by simp
 rw[aH,bK,i];simp only[Pg,vI,if_false,bt,PU.ax];rw[aH,bK,f];simp only[Pg];rw[aH,bK,l];simp only[Pg,vI,if_false,bt,PU.ax];rw[bN,ui];rw[j,Pl,Pb,c];rfl
def G2{k:Nat}{a:QQ}(hl:a.length<=1000)(h:∀x∈a,BA k x):BA (k+1) (.lst a):=λs=>by
 rw[kK (by rfl)];unfold eK;rw[show m_ 2 [D.lst a,.lst a]=[J (.lst a),J (.lst a)]from rfl];have c:=tX (D.lst a) (s:=s) hl (by simp) h;have i:(xB (ag (DR T) (ac 1) (xC .non)):Xt []).p [J (.lst a),J (.lst a)] s=.ok T s:=rfl;have f:(xB (vu (bQ ["list","tuple"]) (ac 1)):Xt []).p [J (.lst a),J (.lst a)] s=.ok I s:=by simp[bX]
 have l:(AR (du (xB (vu (bQ ["list","tuple"]) (ac 0)))) (xB (ag Al (vu (bQ ["list"]) (ac 0)) (vu (bQ ["list"]) (ac 1)))):Xt []).p [J (.lst a),J (.lst a)] s=.ok T s:=by simp[bX]
 have j:(ag Ay (qr fZ (aa (ac 0) a_)) (qr fZ (aa (ac 1) a_)):Xe []).p [J (.lst a),J (.lst a)] s=.ok (.bl I) s:=by simp
 rw[aH,bK,i];simp only[Pg,vI,if_false,bt,PU.ax];rw[aH,bK,f];simp only[Pg];rw[aH,bK,l];simp only[Pg,vI,if_false,bt,PU.ax];rw[bN,ui];rw[j,Pl,Pb,c];rfl
def G3{k:Nat}{a b:D}(j:BA k a)(i:BA k b):BA (k+1) (.tup [a,b]):=G1 (by simp) λx f=>by
 simp only[p_,Dw,or_false]at f;rcases f with rfl|rfl
 .exact j
 .exact i
def xk{k:Nat}{q:Rat}:BA (k+2) (qD q):=G3 wS wS
def G4{q:Rat}{s:d_}:bL.p [qD q,qD q] s=.ok (.bl I) s:=xk (k:=6) s
def oj{n:Nat}{x:Nat->Rat}{s:d_}(a:n<=12):bL.p [mm n x,mm n x] s=.ok (.bl I) s :=
 G2 (by simp;ext) (λd hd=>by
  obtain⟨i,_,rfl⟩:=tf.mp hd
  exact xk) s
def ir(k:Nat)(d:D):Prop:=∃x,py d=J x/\zU d<=k/\x.canLay0=I/\x.depth<=k
def mV{i:Int}{k:Nat}:ir k (.int i):=⟨.int i,rfl,by simp[zU],rfl,by simp[PyData.depth]⟩
def qV{k:Nat}{a:QQ}(h:∀d∈a,ir k d):∃xs,A0 a=J xs/\vU a<=k/\PyData.canLayAll0 xs=I/\PyData.depthAll xs<=k:=by
 induction a with
 |nil=>exact⟨[],rfl,by simp[vU],rfl,by simp[PyData.depthAll]⟩
 |cons d a f =>
  obtain⟨xs,l,C,i,y⟩:=f λd hd=>h d (p5 _ hd);obtain⟨x,j,B,u,z⟩:=h d (by simp);exact⟨x::xs,by simp[A0,l,j],by simp only[vU];ext,by simp[PyData.canLayAll0,i,u],by simp only[PyData.depthAll];ext⟩
def jY{k:Nat}{a:QQ}(h:∀d∈a,ir k d):ir (k+1) (.tup a):=by obtain⟨xs,i,l,f,j⟩:=qV h;exact⟨.tuple xs,by simp[py,i],by simp only[zU];ext,by simpa [PyData.canLay0]using f,by simp only[PyData.depth];ext⟩
def sQ{k:Nat}{a:QQ}(h:∀d∈a,ir k d):ir (k+1) (.lst a):=by obtain⟨xs,i,l,f,j⟩:=qV h;exact⟨.list xs,by simp[py,i],by simp only[zU];ext,by simpa [PyData.canLay0]using f,by simp only[PyData.depth];ext⟩
def uH{d:D}(h:ir 60 d):Ak I d d=J (.bl T):=by obtain⟨x,i,f,a,j⟩:=h;unfold Ak;rw[i];dsimp only;rw[e_ ⟨⟨f,f⟩,iQ a (by ext),iQ a (by ext)⟩,SeqAt.eqv_refl x a];rfl
def mY{k:Nat}{t b:Int}:ir (k+1) (nD t b):=jY λd hd=>by
 simp only[p_,Dw,or_false]at hd;rcases hd with rfl|rfl<;>exact mV
def tz{k:Nat}{l:List Pt}:ir (k+3) (.tup (l.map lw)):=jY λd hd=>by
 obtain⟨p,_,rfl⟩:=tf.mp hd;refine jY λd hd=>?_;simp only[p_,Dw,or_false]at hd;rcases hd with rfl|rfl
 .exact mV
 .exact mY
def yN{a:List Wk}:ir 60 (.lst (a.map p8)):=sQ λd hd=>by
 obtain⟨w,_,rfl⟩:=tf.mp hd;refine jY λd hd=>?_;simp only[p_,Dw,or_false]at hd;rcases hd with rfl|rfl|rfl|rfl
 .exact mV
 .exact mY
 .exact tz
 .exact tz
def Dk{n:Nat}{x:Nat->Rat}:ir 60 (mm n x):=sQ λd hd=>by
 obtain⟨i,_,rfl⟩:=tf.mp hd;exact mY
abbrev AM(a b c:D)(z3 z4 z5 z6 z7 z8:QB):aw:=[J a,J b,J c,z3,z4,z5,z6,z7,z8]
def Of{a b c:D}{u y i l j:QB}{q:Rat}{s:d_}(h:sz q<=900000):N4.p (AM a b c (J (qD q)) u y i l j) s=.nx (AM a b c (J (qD q)) u y i l j) s:=by
 have lo:=iq (t:=q.num) (s:=s) q.den_nz (bA q) (by ext);rw[Rat.num_divInt_den]at lo;have G:(bQ ["tuple"]).p (qD q)=J (.bl I):=by simp[bX]
 have B:(bQ ["int"]).p (.int (q.den:Int))=J (.bl I):=by simp[bX]
 have E:FX.p (.int (q.den:Int)) (.int 1)=J (.bl T):=by
  have:=q.den_pos
  simp;ext
 have z:fZ.p [qD q]=J (.int 2):=rfl;have F:Ak I (.int 2) (.int 2)=J (.bl T):=by rfl
 have C:l7.p (qD q) (.int 0)=J (.int q.num):=rfl;have f:l7.p (qD q) (.int 1)=J (.int (q.den:Int)):=rfl;rw[aH,bK];simp![lW,dN,cq,qR,G,Pf,Pl,Bc,vI,if_false,aJ,cE,z,bJ,aU,iJ,F,f,B,E,Pg,bt,PU.ax];rw[bK];simp![dN,cq,aE,aJ,bJ,aU,C,f,Pf,lo,G4,Pl,Bc,Pg,vI,if_false,bt]
def Ek{n:Nat}{a c:D}{x:Nat->Rat}{z3 z4 z5:QB}{s:d_}:∀(f:List Pt)(w:Rat)(j i:QB),(∀p∈f,p.1<n/\sz p.2+sz (x p.1)<=300000)->(∀k,sz (w+io (f.take k) x)<=300000) ->
  ∃u l,AK (tx (lR (i0 7) (lR (i0 8) ts)) 2:Xg []).p HJ.p (f.map lw) (AM a (mm n x) c z3 z4 z5 (J (qD w)) j i) s=.nx (AM a (mm n x) c z3 z4 z5 (J (qD (w+io f x))) u l) s
 |[],w,j,i,_,_=>⟨j,i,by
  rw[show w+io [] x=w by rw[show io [] x=0 from rfl];grind];rfl⟩
 |p::f,w,j,i,z,hw=>by
  obtain⟨E,G⟩:=z p (by simp);have y:=hw 0;have y:sz w<=300000:=by rw[show w+io ((p::f).take 0) x=w by rw[List.take_zero,show io [] x=0 from rfl];grind]at y;exact y
  have C:=uP (p:=p.2) (q:=x p.1) (s:=s) (by ext);have B:=xH (p:=w) (q:=p.2*x p.1) (s:=s) (by have:=kG p.2 (x p.1);ext)
  obtain⟨u,l,e⟩:=Ek (n:=n) (a:=a) (c:=c) (x:=x) (z3:=z3) (z4:=z4) (z5:=z5) (s:=s) f (w+p.2*x p.1) (J (inD' p.1)) (J (qD p.2)) (λq F=>z q (p5 _ F)) (λk=>by
   have:=hw (k+1)
   rw[show w+p.2*x p.1+io (f.take k) x=w+(p.2*x p.1+io (f.take k) x) by grind]
   exact this)
  refine⟨u,l,?_⟩;have b:HJ.p (AM a (mm n x) c z3 z4 z5 (J (qD w)) (J (inD' p.1)) (J (qD p.2))) s=.nx (AM a (mm n x) c z3 z4 z5 (J (qD (w+p.2*x p.1))) (J (inD' p.1)) (J (qD p.2))) s:=by rw[bu];simp![aE,aJ,hU,jR E,Pf,C,B,Pg,Ae,yH]
  rw[fh,show w+(p.2*x p.1+io f x)=w+p.2*x p.1+io f x by grind];rw[n_,iB (show(tx (lR (i0 7) (lR (i0 8) ts)) 2:Xg []).p (lw p) (AM a (mm n x) c z3 z4 z5 (J (qD w)) j i)=J (AM a (mm n x) c z3 z4 z5 (J (qD w)) (J (inD' p.1)) (J (qD p.2)))from rfl),b];exact e
def uu{n:Nat}{f:Nat->Rat}{p:Pt}(h:p∈bq n f):p.1<n/\p.2=f p.1:=by obtain⟨j,a,rfl⟩:=tf.mp h;exact⟨Bb.mp (AO.mp a).1,rfl⟩
def rw_p{n i:Nat}{g:Nat->Nat->Rat}{x b:Nat->Rat}{a c:D}{z3 z6 z7 z8:QB}{s:d_}(O:n<=12)(C:Ov 27 g)(B:Ov1 250000 x)(E:se n (g i) x=b i):
  ∃H u f,N5.p (AM a (mm n x) c z3 (J (.tup ((bq n (g i)).map lw))) (J (qD (b i))) z6 z7 z8) s=.nx (AM a (mm n x) c z3 (J (.tup ((bq n (g i)).map lw))) (J (qD (b i))) H u f) s:=by
 have hr:(bq n (g i)).length<=12:=by
  unfold bq;rw[v4]
  have:=HN (λj=>!decide (g i j=0)) (List.range n)
  simp at this;ext
 obtain⟨u,f,e⟩:=Ek (n:=n) (a:=a) (c:=c) (x:=x) (z3:=z3) (z4:=J (.tup ((bq n (g i)).map lw))) (z5:=J (qD (b i))) (s:=s) (bq n (g i)) 0 z7 z8 (λp l=>by
  obtain⟨F,M⟩:=uu l;have P:=B.sz (by ext) p.1 0;have L:=C.sz (by ext) i p.1;rw[<-M]at L
  exact⟨F,by ext⟩) (λk=>by
  have:=Oe (v:=i) B C (r:=(bq n (g i)).take k) (λp l=>(uu (LV l)).2) (by rw[Eu];ext)
  rw[show(0:Rat)+io ((bq n (g i)).take k) x=io ((bq n (g i)).take k) x by grind]
  ext)
 rw[Di,E,show(0:Rat)+b i=b i by grind]at e;have G:∀{x y:D}{s:d_},(if [x,y].length<=100000 then PR.ok (D.tup [x,y]) s else .bad)=.ok (.tup [x,y]) s:=λ{x y s}=>e_ (by simp);have eq:Ak I (qD (b i)) (qD (b i))=J (.bl T):=by rw[ot];simp
 refine⟨J (qD (b i)),u,f,?_⟩;rw[aH,bu];simp only[dL,am,bJ,aU,Pb,az,G,Pg,Ae,yH,PU.ax];rw[aH,fA,gx];show PS.then (PR.go (PR.of (J ((bq n (g i)).map lw)) s) _ _) _=_;refine(congrArg (λz:PS=>z.then _) e).trans ?_;rw[PU.ax,bK];dsimp![cq,aJ,aA,iJ,eq,Pf,Pl,Pg,vI,if_false,bt]
def zk{n:Nat}{g:Nat->Nat->Rat}{x b:Nat->Rat}{s:d_}(S:n<=12)(h0:Ov 27 g)(L:Ov1 250000 x)(U:∀i,i<n->se n (g i) x=b i):cA.p [vD n g,mm n x,mm n b] s=.ok (.bl I) s:=by
 have R:(bQ ["list"]).p (mm n x)=J (.bl I):=by simp[bX]
 have cl:fZ.p [mm n x]=J (.int (n:Int)):=by simp
 have a0:l7.p (vD n g) (.int 0)=J (.int (n:Int)):=rfl;have W:l7.p (vD n g) (.int 1)=J (.tup ((List.range n).map λi=>.tup ((bq n (g i)).map lw))):=rfl;have en:Ak I (.int (n:Int)) (.int (n:Int))=J (.bl T):=by rw[im];simp
 obtain⟨M,s1,e1,j,rfl,C⟩:=fT (g:=(i0 3:Xg []).p) (b:=N4.p) (λk env f=>∃j,env=AM (vD n g) (mm n x) (mm n b) j Y Y Y Y Y/\f=s) ((List.range n).map λi=>qD (x i)) 0 (AM (vD n g) (mm n x) (mm n b) Y Y Y Y Y Y) s ⟨_,rfl,rfl⟩ (λk env f d ⟨j,G,l⟩ hd=>by
  subst G;subst l;have u:k<n:=by have:=(qi.mp hd).1;simpa using this
  rw[u_,HS u]at hd;cases hd
  exact⟨_,_,f,rfl,Of (by have b1:sz (x k)<=250000:=L.sz (by ext) k 0;ext),_,rfl,rfl⟩)
 obtain⟨O,s2,e2,y3,y4,y5,X,y7,Z,rfl,y⟩:=fT (g:=(tx (lR (i0 4) (lR (i0 5) ts)) 2:Xg []).p) (b:=N5.p) (λk env f=>∃j P Q B H F,env=AM (vD n g) (mm n x) (mm n b) j P Q B H F/\f=s) (gF ((List.range n).map λi=>.tup ((bq n (g i)).map lw)) ((List.range n).map λi=>qD (b i))) 0 (AM (vD n g) (mm n x) (mm n b) j Y Y Y Y Y) s ⟨_,_,_,_,_,_,rfl,rfl⟩ (λk env f d ⟨j,P,Q,B,H,F,G,l⟩ hd=>by
  subst G;subst l;have u:k<n:=by have:=(qi.mp hd).1;simpa [gF]using this
  have E:d=.tup [.tup ((bq n (g k)).map lw),qD (b k)]:=by
   unfold gF at hd;rw[u_]at hd
   have:(((List.range n).map λi=>D.tup ((bq n (g i)).map lw)).zip ((List.range n).map λi=>qD (b i)))[k]?=J (D.tup ((bq n (g k)).map lw),qD (b k)):=by rw[OD];simp[u]
   rw[this]at hd;exact(Option.some.inj hd).symm
  subst E;obtain⟨X,y7,Z,e⟩:=rw_p (a:=vD n g) (c:=mm n b) (z3:=j) (z6:=B) (z7:=H) (z8:=F) (s:=f) S h0 L (U k u)
  exact⟨_,_,f,rfl,e,_,_,_,_,_,_,rfl,rfl⟩)
 rw[C]at e1;rw[y]at e2;rw[pc (by rfl)];unfold dB;rw[show m_ 9 [vD n g,mm n x,mm n b]=AM (vD n g) (mm n x) (mm n b) Y Y Y Y Y Y from rfl];rw[aH,bK];simp![lW,dN,cq,qR,R,Pf,Pl,Bc,vI,if_false,aJ,cE,cl,bJ,aU,a0,iJ,en,Pg,bt,PU.ax];rw[aH,fA,gx];dsimp![aA];show((PS.then (PR.go (PR.of (J ((List.range n).map λi=>qD (x i))) s) _ _) _)).fin=_;rw[Pf,Pg];refine(congrArg (λz:PS=>(z.then _).fin) e1).trans ?_;rw[PU.ax,aH,fA,gu,am];simp![aJ,bJ,aU,W,Pf];show((PS.then (PR.go (PR.of (J (gF ((List.range n).map λi=>.tup ((bq n (g i)).map lw)) ((List.range n).map λi=>qD (b i)))) s) _ _) _)).fin=_;rw[Pf,Pg];refine(congrArg (λz:PS=>(z.then _).fin) e2).trans ?_;rw[PU.ax];rfl
def pQ{g:D->aw->Option aw}{t:aw->d_->PR Bool}{e:aw->d_->PR D}(S:aw->Prop):∀(i:QP)(env:aw)(s:d_),S env ->
  (∀x∈i,∀env s,S env->∃a,g (inD' x) env=J a/\S a/\∃q l,t a s=.ok I s/\e a s=.ok (qD q) l/\sz q<=20) ->
  ∃(j:List Rat)(G:d_),cT g t e (i.map inD') env s=.ok (j.map qD) G/\j.length=i.length/\∀q∈j,sz q<=20
 |[],env,s,z,f=>⟨[],s,rfl,rfl,λ_ h=>nomatch h⟩
 |x::i,env,s,z,f=>by
  obtain⟨a,e1,u,q,l,e2,e3,F⟩:=f x (by simp) env s z;obtain⟨j,B,e5,hl,E⟩:=pQ S i a l u λy C=>f y (p5 x C);refine⟨q::j,B,?_,by simp[hl],λp h=>?_⟩
  .rw[n_,cT,e1];dsimp only;rw[e2,Pb];simp only[if_true,e3,Pb,e5,n_]
  .rcases p_.mp h with rfl|h
   .exact F
   .exact E p h
def xu:∀{a:List Rat},(∀q∈a,sz q<=20)->GH a<=20*a.length
 |[],_=>by simp[GH]
 |q::a,h=>by
  have:=xu λx f=>h x (p5 _ f)
  have:=h q (by simp)
  rw[yR,Aw];ext
def Dl{f:List Rat}(hl:f.length<=12)(h:∀q∈f,sz q<=20):Ov1 300 λi=>f.getD i 0:=by
 have B:=yi f 1 1 (by decide);have L:=oZ f 1 (by decide);have H:=xu h;have y:kJ 1 f<2^241:=sw B (Es (by decide) (by ext));refine⟨kJ 1 f,by ext,by ext,λi _=>?_⟩;show ∃a:Int,f.getD i 0=Rat.divInt a (kJ 1 f)/\a.natAbs<2^300;by_cases u:i<f.length
 .have m:f.getD i 0=f[i]:=by rw[KO,vE u];rfl
  have l:=List.getElem_mem u;obtain⟨c,j⟩:=(uF f 1).2 _ l;have G:=h _ l;rw[m];generalize f[i]=q at *;have c0:c≠0:=λz=>by rw[z]at j;ext
  refine⟨q.num*c,?_,?_⟩
  .rw[j,Hj];rw[Rat.divInt_mul_right (by ext)];exact(Rat.num_divInt_den q).symm
  .have F:=sw (bU q) (Es (by decide) G);have C:=KY (Nat.le_mul_of_pos_left c q.den_pos) (by rw[<-j];exact y);have E:=bP F C;rw[BD];exact sw E (Es (by decide) (by decide))
 .refine⟨0,?_,by decide +kernel⟩;rw[Rat.zero_divInt,KO,AN (by ext)];rfl
def Dm{a:List Rat}{n:Nat}(h:a.length=n):mm n (λi=>a.getD i 0)=.lst (a.map qD):=by
 refine congrArg D.lst ?_;apply Dv
 grind
abbrev PL:Xe []:=bx 1 [0] (cg Cp (aa (ac 1) a_)) (ws':=[]) (i0 0) pu (ao dm (aa (ac 1) a_))
def G5{n:Nat}{env:aw}{s:d_}(y:n<=12)(e0:env[0]?=J (J .pen))(e1:env[1]?=J (J (.int (n:Int)))):∃b f,PL.p env s=.ok (mm n b) f/\Ov1 300 b:=by
 have fm:(([0]:QP).map λi=>(env[i]?).getD Y)=[J .pen]:=by simp[e0]
 obtain⟨C,f,e,hl,a⟩:=pQ (g:=(i0 0:Xg []).p) (t:=(pu:Xt []).p) (e:=(ao dm (aa (ac 1) a_):Xe []).p) (λv=>∃z,v=z::[J .pen]) (List.range n) (t_ 1 [0] env) s ⟨Y,by unfold t_;rw[fm];rfl⟩ (λx B j s ⟨z,u⟩=>by
  subst u;obtain⟨q,l,e,a⟩:=zT (s:=s)
  exact⟨_,rfl,⟨J (inD' x),rfl⟩,q,l,rfl,by simp![aE,yH,e],a⟩)
 rw[A_]at hl;refine⟨_,f,?_,Dl (by ext) a⟩;rw[Dm hl];have r:eO 0 n=(List.range n).map inD':=by simp[eO]
 rw[jE,gu,am,pB e1,Pb,az,Pb,Pb,qF (by ext),Br,Pf,Pb,e_ (by rw[rC];ext),r,e]
abbrev Og:Xd []:=aM (bn 1 (ao fS (aa (ac 0) a_)))
 (aM (bn 2 (ao cZ (aa (ac 0) (aa (ac 1) a_))))
 (aM (bn 3 (ao fe (aa (ac 0) (aa (ac 1) (aa (ac 2) (aa (ag dJ (ag dJ (xC (.int 1)) (ao bf (aa (ac 0) (aa (xC (.int 4)) a_)))) (ag br (xC (.int 2)) (qr mH (aa (ag Ay (ac 1) (xC (.int 12))) a_)))) a_))))))
 (aM (bn 4 (ao jn (aa (ac 1) (aa (ac 3) a_))))
 (bn 5 PL))))
abbrev Oh:nr:=aV 6 (qo qx (ae (af 5) b_))
abbrev Oi:nr:=aV 7 (qo qx (ae (af 3) b_))
abbrev Oj:nr:=aV 8 (ba bp.m (ae (af 1) (ae (af 3) (ae (af 6) b_))))
abbrev Ol:Xd []:=xg (AR (du (xB (ao cA (aa (ac 4) (aa (ac 8) (aa (ac 5) a_)))))) (AR (xB (ag Al (ac 6) (ac 5))) (xB (ag Al (ac 3) (ac 7))))) (aZ (xC (.bl T))) ln
abbrev Om:nr:=aV 9 (qo qx (ae (af 8) b_))
abbrev Oo:nr:=fM (AW cV (af 8) (ae (mC .non) b_))
abbrev Op:nr:=fM (AW cV (af 6) (ae (mC .non) b_))
abbrev Oq:Xe []:=bx 1 [] (cg Cp (aa (ac 1) a_)) (ws':=[]) (i0 0) pu (bE (aa (xC (.int 0)) (aa (xC (.int 1)) a_)))
abbrev PM:Xd []:=xg (AR (du (xB (ao bL (aa (ao bp (aa (ac 1) (aa (ac 3) (aa (qr gh (aa (ac 5) a_)) a_)))) (aa (ac 9) a_))))) (du (xB (ao bL (aa (ao bp (aa (ac 1) (aa (ao bv (aa (ac 4) (aa (ac 2) a_))) (aa (ac 5) a_)))) (aa (ac 9) a_)))))) (aZ (xC (.bl T))) ln
abbrev PN:Xd []:=xg (du (xB (ao bL (aa (ao bp (aa (ac 1) (aa (ac 3) (aa Oq a_)))) (aa Oq a_))))) (aZ (xC (.bl T))) ln
abbrev Qm:Xd []:=bn 10 (ao cD (aa (ac 4) (aa (ao cZ (aa (ac 0) (aa (ac 1) a_))) a_)))
abbrev Qn:Xd []:=aZ (FR (ag (DR T) (ac 10) (xC .non)) (ao bL (aa (ao bp (aa (ac 1) (aa (ac 10) (aa (ac 5) a_)))) (aa (ac 9) a_))))
abbrev Ot:Xd []:=aM PM (aM PN (aM Qm Qn))
def iT{a b c:nr}:aQ (aQ a b) c=aQ a (aQ b c):=by funext Z h;rw[aS,aS,aS];cases a Z h<;>rfl
def nh{f:QP}{a b:Xd f}:(aM a b).m=aQ a.m b.m:=rfl
def vT:vY=aQ Og.m (aQ Oh (aQ Oi (aQ Oj (aQ Ol.m (aQ Om (aQ Oo (aQ Op Ot.m))))))):=by rw[nh,iT,nh,iT,nh,iT,nh,iT];rfl
abbrev Au(n:Nat)(ws:List Wk):D:=vD n (gW ws)
abbrev rE(n:Nat)(ns:QP)(ws:List Wk)(b:Nat->Rat)(z6 z7 z8 z9 z10:QB):aw:=[J .pen,J (.int (n:Int)),J (mh ns),J (.lst (ws.map p8)),J (Au n ws),J (mm n b),z6,z7,z8,z9,z10]
def Ou{s:d_}:∃(n:Nat)(ns:QP)(a:List Wk)(b:Nat->Rat)(E:d_),Og.p [J .pen,Y,Y,Y,Y,Y,Y,Y,Y,Y,Y] s=.nx (rE n ns a b Y Y Y Y Y) E/\Tn n ns a/\Ov1 300 b:=by
 obtain⟨n,u,e1,L⟩:=GJ (s:=s);obtain⟨ns,l,e2,o⟩:=uX (n:=n) (s:=u) (by ext);obtain⟨d,f,H,M,e3⟩:=cu (s:=l) (size:=4) (by decide) (by decide);obtain⟨a,i,e4,hl,hw⟩:=C_ (n:=n) (ns:=ns) (sm:=1+d+2*(if(n:Int)=12 then 1 else 0)) (s:=f) o (by split<;>ext) (by split<;>ext);have e5:=GO (n:=n) (ws:=a) (s:=i) o.n12 (by ext) λw h=>by
  obtain⟨k,y⟩:=LS.mp h;exact(hw k w y).nn o
 obtain⟨b,G,B,C⟩:=G5 (n:=n) (env:=[J .pen,J (.int (n:Int)),J (mh ns),J (.lst (a.map p8)),J (Au n a),Y,Y,Y,Y,Y,Y]) (s:=i) o.n12 rfl rfl;refine⟨n,ns,a,b,G,?_,⟨o,hl,hw⟩,C⟩;have F:(ag br (xC (.int 2)) (qr mH (aa (ag Ay (ac 1) (xC (.int 12))) a_)):Xe []).p [J .pen,J (.int (n:Int)),J (mh ns),Y,Y,Y,Y,Y,Y,Y,Y] f=.ok (.int (2*(if(n:Int)=12 then 1 else 0))) f:=by
  by_cases z:(n:Int)=12
  .simp[z];rw[bF (j:=3) (k:=3) (by decide) (by decide)];rfl
  .rw[hI z];simp[z];rw[bF (j:=3) (k:=3) (by decide) (by decide)];rfl
 rw[aH,bu,aE,am,aq];simp only[Pb,az,e1,Pg,Ae,yH,PU.ax];rw[aH,bu,aE,am,aq];simp![e2,Pg,Ae,yH,PU.ax];rw[aH,bu,aE,am,aq];dsimp![am,aA];rw[aJ,aJ,bJ];dsimp![aU,aE,am,bJ,az,e3,dY,Pf];rw[F];simp only[Pb,dY,Pf,e4,Pg,Ae,yH,PU.ax];rw[aH,bu,aE,am];simp![e5,Pg,Ae,yH,PU.ax];rw[bu,B,Pg];simp only[Ae,yH]
section
variable{n:Nat}{ns:QP}{ws:List Wk}{b:Nat->Rat}{z0 z1 z2 z3 z4 z6 z7 z8 z9 z10:QB}{s:d_}
abbrev xW(n:Nat)(ns:QP)(ws:List Wk)(b:Nat->Rat):Nat->Rat:=sol n ns (gW ws) b
def Tn.solved(t:Tn n ns ws)(a:Ov1 300 b):bp.p [.int (n:Int),.lst (ws.map p8),mm n b] s=.ok (mm n (xW n ns ws b)) s:=by
 have:=t.el.solved t.sh.ov a (s:=s)
 rwa [t.eq]at this
def Ow(t:Tn n ns ws)(j:Ov1 300 b):Ol.p [z0,z1,z2,J (.lst (ws.map p8)),J (Au n ws),J (mm n b),J (mm n b),J (.lst (ws.map p8)),J (mm n (xW n ns ws b)),z9,z10] s=.nx [z0,z1,z2,J (.lst (ws.map p8)),J (Au n ws),J (mm n b),J (mm n b),J (.lst (ws.map p8)),J (mm n (xW n ns ws b)),z9,z10] s:=by have a:=zk (s:=s) t.o.n12 t.sh.ov (t.el.bw_le t.sh.ov j (mu n)) λi f=>t.el.sol f;rw[bK,lW,dN,cq,aE];simp![a,Pl,Bc];rw[lW,cq,aJ];dsimp![aA,iJ,uH Dk,Pf,Pl];rw[cq,aJ];dsimp![aA,iJ,uH yN,Pf,Pl,Pg,vI,if_false,bt]
def Ox(t:Tn n ns ws)(a:Ov1 300 b):PM.p (rE n ns ws b Y Y Y (J (mm n (xW n ns ws b))) Y) s=.nx (rE n ns ws b Y Y Y (J (mm n (xW n ns ws b))) Y) s:=by have n12:=t.o.n12;have cl:gh.p [mm n b]=J (mm n b):=t6 (by simp;ext);rw[bK,lW,dN,cq,aE,am,aE];simp![cE,cl,Pf,t.solved a,oj n12,Pl,Bc,vI,if_false];rw[dN,cq];simp![aE,t.struck,t.solved a,oj n12,Pl,Bc,Pg,vI,if_false,bt]
def Oy{env:aw}(y:n<=12)(e1:env[1]?=J (J (.int (n:Int)))):Oq.p env s=.ok (mm n λ_=>0) s:=by
 have a:=jB (ws:=[]) (ws':=[]) (s:=s) (s0:=s) (fm:=[]) (i:=cg Cp (aa (ac 1) a_)) (t:=pu) (e:=bE (aa (xC (.int 0)) (aa (xC (.int 1)) a_))) (l:=List.range n) (λj=>inD' j) (λj=>qD 0) (λ_=>I) (by
  rw[gu,am,pB e1];simp only[Pb,az];rw[qF (by ext)]
  simp[eO]) (by simp;ext) (λj u=>⟨rfl,λ_=>by
   rfl⟩)
 have f:(List.range n).filter (λ_=>I)=List.range n:=KW.mpr (by simp);rw[f]at a;exact a
def Ov1.zero:Ov1 300 λ_=>0:=⟨1,by decide,by decide +kernel,λ_ _=>⟨0,(Rat.zero_divInt _).symm,by decide +kernel⟩⟩
def rq{x y:Nat->Rat}(h:∀i,i<n->x i=y i):mm n x=mm n y :=
 congrArg D.lst (A2 λi a=>by rw[h i (Bb.mp a)])
def c2_p'(t:Tn n ns ws):PN.p (rE n ns ws b Y Y Y z9 Y) s=.nx (rE n ns ws b Y Y Y z9 Y) s:=by have n12:=t.o.n12;have a:=t.solved (s:=s) Ov1.zero;have e:mm n (xW n ns ws λ_=>0)=mm n λ_=>0:=rq (t.el.one λi j=>by rw[t.el.sol j,KG]);rw[e]at a;have f:=λs=>Oy (s:=s) (env:=rE n ns ws b Y Y Y z9 Y) n12 rfl;rw[bK,dN,cq,aE,am,aE];simp![f,a,oj n12,Pl,Bc,Pg,vI,if_false,bt]
def x9{a:QP}(t:Tn n ns ws)(o:On n a):cD.p [Au n ws,mh a] s=.ok .non s\/(El n 120000 a (gW ws)/\cD.p [Au n ws,mh a] s=.ok (.lst (((List.range n).map (i_ n a (gW ws))).map p8)) s):=by
 have cl:gh.p [mh a]=J (mh a):=t6 (by have:=o.len;have:=o.n12;simp;ext);have st:∀(r:PR D),bv.p [Au n ws,mh a] s=r->(bn 2 (ao bv (aa (ac 0) (aa (qr gh (aa (ac 1) a_)) a_))):Xd []).p [J (Au n ws),J (mh a),J .non] s=r.go [J (Au n ws),J (mh a),J .non] λd env s=>.nx (env.set 2 (J d)) s:=λr hr=>by
  rw[bu];simp![aE,cE,cl,Pf,hr]
 have go:∀d,(qL "NoPivot" 2 (bn 2 (ao bv (aa (ac 0) (aa (qr gh (aa (ac 1) a_)) a_)))):Xd []).p [J (Au n ws),J (mh a),J .non] s=.nx [J (Au n ws),J (mh a),J d] s->cD.p [Au n ws,mh a] s=.ok d s:=λd hd=>by
  rw[tP (by rfl)];unfold fN;rw[show m_ 3 [Au n ws,mh a]=[J (Au n ws),J (mh a),Y]from rfl,aH,bu]
  simp_all
 rcases t.sh.struck o with e|⟨el,e⟩
 .left;refine go _ ?_
  show (match (bn 2 (ao bv (aa (ac 0) (aa (qr gh (aa (ac 1) a_)) a_))):Xd []).p [J (Au n ws),J (mh a),J .non] s with
   |.exc x e s=>if x="NoPivot" then PS.nx (e.set 2 (J .non)) s else .bad
   |.rse _ _ _=>.bad
   |r=>r)=_
  rw[st _ e];exact e_ rfl
 .right;refine⟨el,go _ ?_⟩
  show (match (bn 2 (ao bv (aa (ac 0) (aa (qr gh (aa (ac 1) a_)) a_))):Xd []).p [J (Au n ws),J (mh a),J .non] s with
   |.exc x e s=>if x="NoPivot" then PS.nx (e.set 2 (J .non)) s else .bad
   |.rse _ _ _=>.bad
   |r=>r)=_
  rw[st _ e];rfl
def Oz(t:Tn n ns ws)(l:Ov1 300 b):∃y,Ot.p (rE n ns ws b Y Y Y (J (mm n (xW n ns ws b))) Y) s=.rt (.bl I) y:=by
 have n12:=t.o.n12;obtain⟨a,f,e1,B⟩:=uX (s:=s) n12;refine⟨f,?_⟩;rw[aH,Ox t l,PU.ax,aH,c2_p' t,PU.ax,aH,bu];simp![aE,e1];rcases x9 (s:=f) t B with e|⟨el,e⟩
 .simp only[e];rfl
 .simp only[e,Pg,Ae,yH,PU.ax];have u:=el.solved t.sh.ov l (s:=f);have z:mm n (sol n a (gW ws) b)=mm n (xW n ns ws b):=rq (t.el.one λi j=>by rw[t.el.sol j,el.sol j]);rw[z]at u;rw[bN,F0,aJ];have C:(DR T).p (.lst (((List.range n).map (i_ n a (gW ws))).map p8)) .non=J (.bl T):=rfl;simp![bJ,show Cn.non.d=D.non from rfl,C,Pf,Pl,vI,if_false,aE,u,oj n12,Pg]
end
def G6{Z:n8}(h:Z.length=11):∃S u U F i G y P L M a,Z=[S,u,U,F,i,G,y,P,L,M,a]:=by
 match Z,h with
 |[B,H,C,E,R,O,Q,l,j,z,f],_=>exact⟨B,H,C,E,R,O,Q,l,j,z,f,rfl⟩
def G7{c:Mx Bool}{m:Mx PV}{Z f:n8}{h j:MH}(e:Ax c (bO m) n7 Z h=.nx f j):f=Z:=by
 unfold Ax vC at e
 cases q:c Z h with
 |ok v a =>
  rw[q]at e
  cases v with
  |true =>
   have e:bO m Z a=.nx f j:=e;unfold bO at e
   cases i:m Z a with
   |ok v l=>rw[i]at e;cases e
   |exc x l=>rw[i]at e;cases e
   |bad=>rw[i]at e;cases e
  |false=>cases e;rfl
 |exc x a=>rw[q]at e;cases e
 |bad=>rw[q]at e;cases e
def Dn{i:QP}{c:Xt i}{a:Xe i}{Z f:n8}{h j:MH}(e:(xg c (aZ a) ln).m Z h=.nx f j):f=Z:=G7 e
def pw{h:MH}{o:MO}{n:Nat}(a:n<h.length):(h++[o])[n]?=h[n]?:=q7 a
def Do(ns:QP):c_ (ns.map inD')=I:=dw λd hd=>by
 obtain⟨x,_,rfl⟩:=tf.mp hd;rfl
def jJ(a:List Wk):c_ (a.map p8)=I:=dw λd hd=>by
 obtain⟨x,_,rfl⟩:=tf.mp hd;exact pe x
def hX{n:Nat}{x:Nat->Rat}:c_ ((List.range n).map λi=>qD (x i))=I:=dw λd hd=>by
 obtain⟨i,_,rfl⟩:=tf.mp hd;rfl
def dD{p u q:Nat}{h l:MH}{O i:QP}{a:QQ}{xs:QL}(f:c_ a=I)(j:q∉O)(g:h[q]?=J (.lst xs))(r:Rps u l i a xs):Rp p h O (.lst a) (.loc q):=⟨q,xs,rfl,j,g,Rps.fq f r⟩
def OA:bp.fr=I:=rfl
def vA{H:MH}{p:Nat}{s:d_}(pn:aW H p s):∃h',eX [.loc p] H=.ok (.bl I) h'/\∀m:Nat,m<H.length->m≠p->h'[m]?=H[m]?:=by
 have a2:p<H.length:=au pn;obtain⟨n,ns,M,b,s1,q1,t,hb⟩:=Ou (s:=s);have c0:PU.Cx p H H.length [p] [p] [] [J (.loc p),Y,Y,Y,Y,Y,Y,Y,Y,Y,Y] [J .pen,Y,Y,Y,Y,Y,Y,Y,Y,Y,Y] s:=by
  refine⟨λo ho=>?_,λ_ h=>h,λo ho=>?_,by simp,mu _,pn,⟨rfl,λi d e _=>?_,λi d e W=>by cases W⟩⟩
  .rw[HU.mp ho];exact a2
  .rw[HU.mp ho];exact a2
  .match i,e with
   |0,e=>cases e;exact⟨_,rfl,rfl⟩
   |1,e=>cases e
   |2,e=>cases e
   |3,e=>cases e
   |4,e=>cases e
   |5,e=>cases e
   |6,e=>cases e
   |7,e=>cases e
   |8,e=>cases e
   |9,e=>cases e
   |10,e=>cases e
   |n+11,e=>simp at e
 have k1:=Og.ok c0 λi j W=>by cases W
 rw[q1]at k1;obtain⟨Z1,f,e1,O1,a5,R,_⟩:=k1;have cd:∀m,m<H.length->m≠p->f[m]?=H[m]?:=a5.base;have l1:Z1.length=11:=R.sr.len;obtain⟨v0,w0,r0⟩:=R.sr.fz 0 .pen rfl (by simp);obtain⟨v1,w1,r1⟩:=R.sr.fz 1 (.int (n:Int)) rfl (by simp);obtain⟨v2,w2,F,y2,rfl,a7,g2,r2⟩:=R.sr.fz 2 (mh ns) rfl (by simp);obtain⟨v3,w3,C,y3,rfl,ch,g3,r3⟩:=R.sr.fz 3 (.lst (M.map p8)) rfl (by simp);obtain⟨G,w4,r4⟩:=R.sr.fz 4 (Au n M) rfl (by simp);obtain⟨v5,w5,E,U,rfl,a8,g5,r5⟩:=R.sr.fz 5 (mm n b) rfl (by simp);have r0:v0=.loc p:=r0;subst r0;have r1:v1=.int (n:Int):=r1;subst r1;have n12:=t.o.n12;have ol:=t.o.len;have cB:y3.length<=16:=by rw[r3.length,v4,t.hl];ext
 have cv:U.length<=16:=by rw[r5.length,v4,A_];ext
 have cx:=au g2;have cp:=au g3;have ci:=au g5;have cs:p<f.length:=au R.pen;have HK:F≠p:=λz=>a7 (z▸R.pO);have X:C≠p:=λz=>ch (z▸R.pO);have ak:E≠p:=λz=>a8 (z▸R.pO);obtain⟨b0,b1,b2,b3,b4,b5,b6,b7,b8,b9,l,rfl⟩:=G6 l1;cases w0;cases w1;cases w2;cases w3;cases w4;cases w5;have e2:Oh [J (.loc p),J (.int (n:Int)),J (.loc F),J (.loc C),J G,J (.loc E),b6,b7,b8,b9,l] f=.nx [J (.loc p),J (.int (n:Int)),J (.loc F),J (.loc C),J G,J (.loc E),J (.loc f.length),b7,b8,b9,l] (f++[.lst U]):=by
  have:=lm g5 (by ext)
  unfold Oh;simp -implicitDefEqProofs [this]
 have l2:(f++[MO.lst U]).length=f.length+1:=by simp
 have k2:∀{m:Nat}{o:MO},f[m]?=J o->(f++[MO.lst U])[m]?=J o:=λg=>(pw (au g)).trans g;have g6:(f++[MO.lst U])[f.length]?=J (.lst U):=nU;generalize f++[MO.lst U]=u at e2 l2 k2 g6;have e3:Oi [J (.loc p),J (.int (n:Int)),J (.loc F),J (.loc C),J G,J (.loc E),J (.loc f.length),b7,b8,b9,l] u=.nx [J (.loc p),J (.int (n:Int)),J (.loc F),J (.loc C),J G,J (.loc E),J (.loc f.length),J (.loc u.length),b8,b9,l] (u++[.lst y3]):=by
  have:=lm (k2 g3) (by ext)
  unfold Oi;simp -implicitDefEqProofs [this]
 have l3:(u++[MO.lst y3]).length=f.length+2:=by simp[l2]
 have k3:∀{m:Nat}{o:MO},u[m]?=J o->(u++[MO.lst y3])[m]?=J o:=λg=>(pw (au g)).trans g;have g7:(u++[MO.lst y3])[u.length]?=J (.lst y3):=nU;generalize u++[MO.lst y3]=h3 at e3 l3 k3 g7;have a1:aW h3 p s1:=k3 (k2 R.pen);have ab:∀{h:MH},aW h p s1->∀o∈[p],o<h.length:=λg o ho=>by rw[HU.mp ho];exact au g
 have S:∀{q:Nat},q≠p->q∉[p]:=λz m=>z (HU.mp m);have P:f.length≠p:=by ext
 have a0:u.length≠p:=by ext
 have k4:=bp.ok (q:=p) (h:=h3) (O:=[p]) (vs:=[.int (n:Int),.loc C,.loc f.length]) (ds:=[.int (n:Int),.lst (M.map p8),mm n b]) (s:=s1) (ab a1) (by simp) a1 ⟨_,_,rfl,rfl,_,_,rfl,dD (jJ M) (S X) (k3 (k2 g3)) r3,_,_,rfl,dD hX (S P) (k3 g6) r5,rfl⟩;rw[t.solved hb]at k4;obtain⟨v8,h4,e4,a6,al,cm,ca⟩:=k4;obtain⟨y,Z,rfl,l8,g8,r8⟩:=ca OA Y _ rfl;have g8:h4[y]?=J (.lst Z):=g8;have Q:∀{m:Nat}{o:MO},m≠p->h3[m]?=J o->h4[m]?=J o:=λz g=>(a6.keep _ (au g) z).trans g;have an:y≠p:=by ext
 have cn:Z.length<=16:=by rw[r8.length,v4,A_];ext
 have a9:Oj [J (.loc p),J (.int (n:Int)),J (.loc F),J (.loc C),J G,J (.loc E),J (.loc f.length),J (.loc u.length),b8,b9,l] h3=.nx [J (.loc p),J (.int (n:Int)),J (.loc F),J (.loc C),J G,J (.loc E),J (.loc f.length),J (.loc u.length),J (.loc y),b9,l] h4:=by unfold Oj;simp -implicitDefEqProofs [e4]
 have c4:PU.Cx p h4 h4.length [p] [p] [] [J (.loc p),J (.int (n:Int)),J (.loc F),J (.loc C),J G,J (.loc E),J (.loc f.length),J (.loc u.length),J (.loc y),b9,l] [J .pen,Y,Y,J (.lst (M.map p8)),J (Au n M),J (mm n b),J (mm n b),J (.lst (M.map p8)),J (mm n (xW n ns M b)),Y,Y] s1:=by
  refine⟨ab al,λ_ h=>h,ab al,by simp,mu _,al,⟨rfl,λi d e _=>?_,λi d e W=>by cases W⟩⟩
  match i,e with
  |0,e=>cases e;exact⟨_,rfl,rfl⟩
  |1,e=>cases e
  |2,e=>cases e
  |3,e=>cases e;exact⟨_,rfl,dD (jJ M) (S X) (Q X (k3 (k2 g3))) r3⟩
  |4,e=>cases e;exact⟨_,rfl,Rp.fq pC r4⟩
  |5,e=>cases e;exact⟨_,rfl,dD hX (S ak) (Q ak (k3 (k2 g5))) r5⟩
  |6,e=>cases e;exact⟨_,rfl,dD hX (S P) (Q P (k3 g6)) r5⟩
  |7,e=>cases e;exact⟨_,rfl,dD (jJ M) (S a0) (Q a0 g7) r3⟩
  |8,e=>cases e;exact⟨_,rfl,dD hX (S an) g8 r8⟩
  |9,e=>cases e
  |10,e=>cases e
  |n+11,e=>simp at e
 have k5:=Ol.ok c4 λi j W=>by cases W
 rw[Ow t hb]at k5;obtain⟨Z5,B,e5,O5,cc,c5,_⟩:=k5
 have:=Dn e5
 subst this;have ar:∀{m:Nat}{o:MO},m≠p->h4[m]?=J o->B[m]?=J o:=λz g=>(cc.base _ (au g) z).trans g;have ai:=ar an g8;have c2:=au ai;have a3:=ar P (Q P (k3 g6));have ck:=au a3;have e6:Om [J (.loc p),J (.int (n:Int)),J (.loc F),J (.loc C),J G,J (.loc E),J (.loc f.length),J (.loc u.length),J (.loc y),b9,l] B=.nx [J (.loc p),J (.int (n:Int)),J (.loc F),J (.loc C),J G,J (.loc E),J (.loc f.length),J (.loc u.length),J (.loc y),J (.loc B.length),l] (B++[.lst Z]):=by
  have:=lm ai (by ext)
  unfold Om;simp -implicitDefEqProofs [this]
 have k6:∀{m:Nat}{o:MO},B[m]?=J o->(B++[MO.lst Z])[m]?=J o:=λg=>(pw (au g)).trans g;have g9:(B++[MO.lst Z])[B.length]?=J (.lst Z):=nU;generalize B++[MO.lst Z]=h6 at e6 k6 g9;have e7:Oo [J (.loc p),J (.int (n:Int)),J (.loc F),J (.loc C),J G,J (.loc E),J (.loc f.length),J (.loc u.length),J (.loc y),J (.loc B.length),l] h6=.nx [J (.loc p),J (.int (n:Int)),J (.loc F),J (.loc C),J G,J (.loc E),J (.loc f.length),J (.loc u.length),J (.loc y),J (.loc B.length),l] (h6.set y (.lst (Z++[.non]))):=by have ix:af 8 [J (.loc p),J (.int (n:Int)),J (.loc F),J (.loc C),J G,J (.loc E),J (.loc f.length),J (.loc u.length),J (.loc y),J (.loc B.length),l] h6=.ok (.loc y) h6:=rfl;have ap:=gS (v:=.non) (k6 ai) (by ext);unfold Oo;rw[iu,vb ix (k6 ai)];simp only[cO,DK,dW,Out.bind_ok,ap,Out.ne_ok,aB,sJ]
 have k7:∀{m:Nat}{o:MO},m≠y->h6[m]?=J o->(h6.set y (.lst (Z++[.non])))[m]?=J o:=λhm g=>(p6 λz=>hm z.symm).trans g;generalize h6.set y (.lst (Z++[.non]))=h7 at e7 k7;have aF:h7[f.length]?=J (.lst U):=k7 (by ext) (k6 a3);have e8:Op [J (.loc p),J (.int (n:Int)),J (.loc F),J (.loc C),J G,J (.loc E),J (.loc f.length),J (.loc u.length),J (.loc y),J (.loc B.length),l] h7=.nx [J (.loc p),J (.int (n:Int)),J (.loc F),J (.loc C),J G,J (.loc E),J (.loc f.length),J (.loc u.length),J (.loc y),J (.loc B.length),l] (h7.set f.length (.lst (U++[.non]))):=by have ix:af 6 [J (.loc p),J (.int (n:Int)),J (.loc F),J (.loc C),J G,J (.loc E),J (.loc f.length),J (.loc u.length),J (.loc y),J (.loc B.length),l] h7=.ok (.loc f.length) h7:=rfl;have ap:=gS (v:=.non) aF (by ext);unfold Op;rw[iu,vb ix aF];simp only[cO,DK,dW,Out.bind_ok,ap,Out.ne_ok,aB,sJ]
 have k8:∀{m:Nat}{o:MO},m≠f.length->h7[m]?=J o->(h7.set f.length (.lst (U++[.non])))[m]?=J o:=λhm g=>(p6 λz=>hm z.symm).trans g;generalize h7.set f.length (.lst (U++[.non]))=h8 at e8 k8;have old:∀{m:Nat}{o:MO},m≠y->m≠f.length->B[m]?=J o->h8[m]?=J o:=λa b q=>k8 b (k7 a (k6 q));have L:∀{m:Nat}{o:MO},m≠p->f[m]?=J o->h8[m]?=J o:=λz g=>by
  have:=au g
  exact old (by ext) (by ext) (ar z (Q z (k3 (k2 g))))
 have as:aW h8 p s1:=old (λz=>an z.symm) (λz=>P z.symm) c5.pen;have bm:h8[B.length]?=J (.lst Z):=k8 (by ext) (k7 (by ext) g9);have a4:B.length≠p:=by have:=au c5.pen;ext
 have c8:PU.Cx p h8 h8.length [p] [p] [] [J (.loc p),J (.int (n:Int)),J (.loc F),J (.loc C),J G,J (.loc E),J (.loc f.length),J (.loc u.length),J (.loc y),J (.loc B.length),l] (rE n ns M b Y Y Y (J (mm n (xW n ns M b))) Y) s1:=by
  refine⟨ab as,λ_ h=>h,ab as,by simp,mu _,as,⟨rfl,λi d e _=>?_,λi d e W=>by cases W⟩⟩
  match i,e with
  |0,e=>cases e;exact⟨_,rfl,rfl⟩
  |1,e=>cases e;exact⟨_,rfl,rfl⟩
  |2,e=>cases e;exact⟨_,rfl,dD (Do ns) (S HK) (L HK g2) r2⟩
  |3,e=>cases e;exact⟨_,rfl,dD (jJ M) (S X) (L X g3) r3⟩
  |4,e=>cases e;exact⟨_,rfl,Rp.fq pC r4⟩
  |5,e=>cases e;exact⟨_,rfl,dD hX (S ak) (L ak g5) r5⟩
  |6,e=>cases e
  |7,e=>cases e
  |8,e=>cases e
  |9,e=>cases e;exact⟨_,rfl,dD hX (S a4) bm r8⟩
  |10,e=>cases e
  |n+11,e=>simp at e
 have k9:=Ot.ok c8 λi j W=>by cases W
 obtain⟨s9,q9⟩:=Oz (s:=s1) t hb;rw[q9]at k9;obtain⟨v,h',e9,_,kb,_,rv,_⟩:=k9;rw[show v=PV.bl I from rv]at e9;refine⟨h',?_,λm hm np=>?_⟩
 case refine_2 =>
  have g0:=(cd m hm np).trans (vE hm);have gc:=L np g0;exact((kb m (au gc) np).trans gc).trans (vE hm).symm
 unfold eX;rw[d3 (by rfl),vT];rw[show bh 11 [PV.loc p]=[J (.loc p),Y,Y,Y,Y,Y,Y,Y,Y,Y,Y]from rfl];rw[aS,e1,MM.ax,aS,e2,MM.ax,aS,e3,MM.ax,aS,a9,MM.ax,aS,e5,MM.ax,aS,e6,MM.ax,aS,e7,MM.ax,aS,e8,MM.ax,e9];rfl
def vO{lo:Int}{c:Nat}{x:PV}(h:x∈bH lo c):∃i:Int,x=.int i/\lo<=i/\i<lo+c:=by obtain⟨k,a,rfl⟩:=tf.mp h;rw[Bb]at a;exact⟨_,rfl,by ext,by ext⟩
def tZ{ns:QN}{k:Nat}(a:k<ns.length):pz (ns.map PV.int) (k:Int)=J (.int ns[k]):=L2.dX (by simp[a])
def rN{h:MH}:rk (.int 10) (.int 18) h=.ok (.int (10^18)) h:=sx (by decide)
def yS{h:MH}:rk (.int 10) (.int 15) h=.ok (.int (10^15)) h:=sx (by decide)
def zm{h:MH}{ns:QN}{k:Nat}(X:k<64):∃m c:Int,jD [.frl (ns.map .int),.int k] h=.ok (.loc h.length) (h++[.lst [.int m,.int c,.int 0]]):=by
 have E:∀{i:Int}{h:MH},ki (.int 7919) (.int i) h=.ok (.int (7919*i)) h:=ic (by decide);have W:∀{i:Int}{h:MH},ki (.int 48271) (.int i) h=.ok (.int (48271*i)) h:=ic (by decide);have U:∀{i:Int}{h:MH},ki (.int 40009) (.int i) h=.ok (.int (40009*i)) h:=ic (by decide);have L:∀{a b c:PV}{h:MH},tr [a,b,c] h=.ok (.loc h.length) (h++[.lst [a,b,c]]):=gR (by simp)
 have fin:∀cell:Int,∃m c:Int,(aQ (Ax (mB (ay AV (qo Ao (ae (af 2) b_)) (ay rk (mC (.int 10)) (mC (.int 18))))) (bO (fV (ae (mC (.int 1)) (ae (qo Ao (ae (af 2) b_)) (ae (mC (.int 0)) b_))))) n7)
   (bO (fV (ae (mC (.int 0)) (ae (ay jj (ay n4 (af 2) (mC (.int 2147483587))) (ay ki (mC (.int 40009)) (af 1))) (ae (mC (.int 0)) b_)))))) [J (.frl (ns.map .int)),J (.int k),J (.int cell)] h=.rt (.loc h.length) (h++[.lst [.int m,.int c,.int 0]]):=λcell=>by
  by_cases z:(10:Int)^18<=(if cell<0 then -cell else cell)
  .exact⟨1,(if cell<0 then -cell else cell),by simp[rN,L,z,-Int.reducePow]⟩
  .exact⟨0,cell.fmod 2147483587+40009*k,by simp[rN,L,z,U,fU,-Int.reducePow]⟩
 have l:∀cell:Int,∃m c:Int,((aQ (Ax (mB (ay AV (qo Ao (ae (af 2) b_)) (ay rk (mC (.int 10)) (mC (.int 18))))) (bO (fV (ae (mC (.int 1)) (ae (qo Ao (ae (af 2) b_)) (ae (mC (.int 0)) b_))))) n7)
   (bO (fV (ae (mC (.int 0)) (ae (ay jj (ay n4 (af 2) (mC (.int 2147483587))) (ay ki (mC (.int 40009)) (af 1))) (ae (mC (.int 0)) b_)))))) [J (.frl (ns.map .int)),J (.int k),J (.int cell)] h).fin=.ok (.loc h.length) (h++[.lst [.int m,.int c,.int 0]]):=λcell=>by
  obtain⟨m,c,q⟩:=fin cell;exact⟨m,c,by rw[q];rfl⟩
 have j:∀cell:Int,(aQ (aV 2 (ay jj (ay ki (mC (.int 7919)) (af 1)) (mC (.int 11))))
 (Ax (mB (ay Bg (af 1) (qo zb (ae (qo q_ (ae (af 0) b_)) (ae (mC (.int 63)) b_))))) (aV 2 (ay bc (af 0) (af 1))) (Ax (mB (ay Bh (qo q_ (ae (af 0) b_)) (mC (.int 0)))) (aV 2 (ay jj (ay n4 (ay bc (af 0) (ay n4 (af 1) (qo zb (ae (qo q_ (ae (af 0) b_)) (ae (mC (.int 63)) b_))))) (ay rk (mC (.int 10)) (mC (.int 15)))) (ay ki (mC (.int 48271)) (af 1)))) n7))) [J (.frl (ns.map .int)),J (.int k),Y] h=.nx [J (.frl (ns.map .int)),J (.int k),J (.int cell)] h ->
   ∃m c:Int,cr 3 2 x_ [.frl (ns.map .int),.int k] h=.ok (.loc h.length) (h++[.lst [.int m,.int c,.int 0]]):=λcell q=>by
  obtain⟨m,c,R⟩:=l cell;refine⟨m,c,(d3 (by rfl)).trans ?_⟩;rw[<-R];unfold x_;simp only[aS]at q ⊢;have e0:bh 3 [PV.frl (ns.map .int),PV.int k]=[J (.frl (ns.map .int)),J (.int k),Y]:=rfl;rw[e0];generalize (aV 2 (ay jj (ay ki (mC (.int 7919)) (af 1)) (mC (.int 11)))) [J (.frl (ns.map .int)),J (.int k),Y] h=Q at q ⊢
  cases Q with
  |nx Z G =>
   simp only[MM.ax,aS]at q ⊢;rw[q];rfl
  |_=>cases q
 have u:∃f:Nat,(if(63:Int)<(ns.length:Int)then(63:Int)else(ns.length:Int))=(f:Int)/\f<=ns.length/\(0<ns.length->0<f):=by
  by_cases z:(63:Int)<(ns.length:Int)
  .exact⟨63,by rw[e_ z];rfl,by ext,by ext⟩
  .exact⟨ns.length,by rw[hI z],by ext,by ext⟩
 obtain⟨f,el,F,y⟩:=u;by_cases G:k<f
 .refine j (ns[k]'(by ext)) ?_;simp[E,el,G,tZ (show k<ns.length by ext)]
 .by_cases B:0<ns.length
  .have C:(f:Int)≠0:=by have:=y B;ext
   have M:k % f<ns.length:=sw (Nat.mod_lt _ (y B)) F;have O:(k:Int).fmod (f:Int)=((k % f:Nat):Int):=by rw[KN _ (by ext)];rfl
   refine j ((ns[k % f]'M).fmod (10^15)+48271*k) ?_;have S:((10:Int)^15)≠0:=by decide
   have H:=tZ M;rw[Int.natCast_emod]at H;simp[E,el,G,B,fU C,O,H,yS,fU S,W,-Int.reducePow]
  .have P:ns=[]:=List.length_eq_zero_iff.mp (by ext);refine j (7919*k+11) ?_;have z:¬((k:Int)<(f:Int)):=by ext
   simp[E,el,z,B]
def Dp{h:MH}{n:Nat}{o a:MO}(e:h[n]?=J a):(h.set n o)[n]?=J o:=zO (qi.mp e).1
def su{ns:QN}{it:MIt}{n:Nat}(l:∀h,it.ok h):∀(xs:QL)(m:Nat)(z:QE)(h:MH),(∀x∈xs,∃k:Nat,x=.int (k:Int)/\k<64)->h[n]?=J (.lst (List.replicate m (.bl I)))->m+xs.length<=100->∃f,zo it n (mA 0) nw (ba eX (ae (ba jD (ae (af 1) (ae (af 0) b_))) b_)) xs [z,J (.frl (ns.map .int))] h=.ok () f/\f[n]?=J (.lst (List.replicate (m+xs.length) (.bl I)))
 |[],m,z,h,j,e,hl=>⟨h,lT (l h),e⟩
 |x::xs,m,z,h,j,e,hl=>by
  have u:m+(xs.length+1)<=100:=hl;obtain⟨k,rfl,F⟩:=j x (by simp);obtain⟨a,b,B⟩:=zm (h:=h) (ns:=ns) (k:=k) F;obtain⟨i,C,kb⟩:=vA (H:=h++[.lst [.int a,.int b,.int 0]]) (p:=h.length) (s:=(a,b,0)) (by show(h++[MO.lst [.int a,.int b,.int 0]])[h.length]?=J (.lst [.int a,.int b,.int 0]);exact nU);have L:n<h.length:=(qi.mp e).1;have e3:i[n]?=J (.lst (List.replicate m (.bl I))):=by rw[kb n (by simp;ext) (by ext)];exact Jh e
  obtain⟨f,q,G⟩:=su (ns:=ns) l xs (m+1) (J (.int (k:Int))) (i.set n (.lst (List.replicate m (.bl I)++[.bl I]))) (λy E=>j y (p5 _ E)) (by rw[Dp e3,List.replicate_succ']) (by ext);refine⟨f,?_,by rw[G,Aw,show m+1+xs.length=m+(xs.length+1) by ext]⟩;rw[lz (Z:=[z,J (.frl (ns.map .int))]) (Z1:=[J (.int (k:Int)),J (.frl (ns.map .int))]) (h1:=h) (h2:=h) (v:=.bl I) (h3:=i) (ys:=List.replicate m (.bl I)) (l h) rfl rfl (by simp -implicitDefEqProofs [B,C]) e3 (by simp;ext)];exact q
def Bp(ns:QN)(G:ns.length<=63):∃F,AT [.frl (ns.map .int)] []=.ok (.bl I) F:=by
 unfold AT;rw[d3 (by rfl)];unfold Bo;rw[show bh 1 [PV.frl (ns.map .int)]=[J (.frl (ns.map .int))]from rfl];obtain⟨c,H,y⟩:∃c:Nat,c<=63/\(ae (qo AI (ae (mC (.int 1)) (ae (qo zb (ae (qo q_ (ae (af 0) b_)) (ae (mC (.int 10)) b_))) b_))) b_) [J (.frl (ns.map .int))] []=.ok [.int (c:Int)] []:=by
  have e:(ae (qo AI (ae (mC (.int 1)) (ae (qo zb (ae (qo q_ (ae (af 0) b_)) (ae (mC (.int 10)) b_))) b_))) b_) [J (.frl (ns.map .int))] []=.ok [.int (if(if(10:Int)<(ns.length:Int)then 10 else(ns.length:Int))>1 then(if(10:Int)<(ns.length:Int)then 10 else(ns.length:Int))else 1)] []:=by simp -implicitDefEqProofs
  have a:0<=(if(if(10:Int)<(ns.length:Int)then 10 else(ns.length:Int))>1 then(if(10:Int)<(ns.length:Int)then 10 else(ns.length:Int))else 1)/\(if(if(10:Int)<(ns.length:Int)then 10 else(ns.length:Int))>1 then(if(10:Int)<(ns.length:Int)then 10 else(ns.length:Int))else 1)<=63:=by constructor<;>(repeat' split)<;>ext
  generalize (if(if(10:Int)<(ns.length:Int)then 10 else(ns.length:Int))>1 then(if(10:Int)<(ns.length:Int)then 10 else(ns.length:Int))else 1)=i at e a;obtain⟨c,rfl⟩:=jx a.1;exact⟨c,by ext,e⟩
 have l:=FI y (by ext)
 obtain⟨f,u,B⟩:=su (ns:=ns) (it:=⟨bH 0 c,[]⟩) (n:=0) (λ_=>d7.mpr trivial) (bH 0 c) 0 Y ([]++[.lst []]) (λx C=>by
  obtain⟨i,rfl,E,a⟩:=vO C;obtain⟨k,rfl⟩:=jx E
  exact⟨k,rfl,by ext⟩) rfl (by rw[MM.dQ];ext)
 have j:bI 1 [0] (cQ (ae (qo AI (ae (mC (.int 1)) (ae (qo zb (ae (qo q_ (ae (af 0) b_)) (ae (mC (.int 10)) b_))) b_))) b_)) (mA 0) nw (ba eX (ae (ba jD (ae (af 1) (ae (af 0) b_))) b_)) [J (.frl (ns.map .int))] []=.ok (.loc 0) f:=by rw[iF,l,Out.bind_ok];refine(congrArg (λo:Out Unit=>o.bind _) u).trans ?_;rfl
 have z:=wt B;refine⟨f,?_⟩;rw[uW,FA,cO,j,Out.bind_ok,dW,Out.bind_ok,Out.bind_ok,z];rfl
end Law
namespace Law
open PySem.Spec PyProof.Rows L2 MM
set_option maxHeartbeats 4000000
def top(i:Nat):Stmt:=PySem.Challenge.pw_fewfills_k33_answers_of_works.main.body.getD i (.Pass ⟨0,0,0,0⟩)
abbrev m4:Stmt:=Qe (top 4) 0
abbrev PP:QM:=["self","place"]
abbrev OB:Str:="the pivot of the place "
abbrev HK:Str:=" is nought"
def Dq{X:Cx}{C F z:Addr}(a:X.env.scope=aj m4)(hN:X.N=PP)(y:Gs X.K X.mg "FillError" F)(i:Aq X.K X.mg "NoPivot" C F z "place"):PSs X (aG m4) (tI C OB HK):=by
 have u:X.N[0]?=J ("self":Str):=by rw[hN];rfl
 have l:X.N[1]?=J ("place":Str):=by rw[hN];rfl
 have j:Ho X.env.scope "self":=by rw[a];exact .inl rfl
 have f:Ho X.env.scope "place":=by rw[a];exact .inl rfl
 have hg:Gl X "FillError":=by unfold Gl Env.kindOf;rw[a];rfl
 exact rm (uB (yI hg y i (dC (kM u j) (dC (Gu (by decide +kernel) (kM l f)) jG)) rfl rfl rfl rfl) rfl) (pd (yF i (kM u j) (kM l f) rfl))
def KJ{P:Program}{w:World}{K:hH}{mg:QA}{base:Heap}{C F a:Addr}{fd:FuncData}{k:Nat}(j:Fun K "__init__" "NoPivot.__init__" m4 a fd)(f:Gs K mg "FillError" F)(l:Aq K mg "NoPivot" C F a "place"):FnOk P w K mg base Hs (k+1) a fd PP (LL C OB HK) :=
 CO j ⟨rfl,rfl,rfl,by decide +kernel,rfl,by decide +kernel,by decide +kernel⟩ λX e3 e4 i hN=>Dq i hN (e3▸e4▸f) (e3▸e4▸l)
def yZ{K:hH}{F:Addr}{n:String}(q:PySem.W.excIn K F ig n=I):PySem.W.tailIn K ig (.ref F::ig)=I:=by
 unfold PySem.W.excIn at q
 split at q
 .rename_i dd l j f
  split at q
  .simp only[Av,beq_iff_eq,Bool.not_eq_true']at q;obtain⟨⟨_,i⟩,a⟩:=q;unfold PySem.W.tailIn;rw[Bool.or_eq_true_iff];refine .inr ?_;dsimp only;rw[f];dsimp only;rw[i,a];rfl
  .cases q
 .cases q
def OC(K:hH):Prop:=∀(P:Program) (w:World) (mg:A4) (base:Heap),K.In base->base.Ns mainGlobals mg->NY P w K mg base "NoPivot" OB HK/\NZ K mg "NoPivot"
def G8{K:hH}{C F f N:Addr}{E W:Str}{bs:QS}{L:QM}{sub:QS}{S:Bool}{i:Option Bool}{dd:QD}{R G U Q B:QU}{oc:Value}{Z u an:QD}{sl y:Array (QU)}{kV dc pm M ct:Value}{H:Array DictEntry}{ep:Nat}(a:PySem.W.nsIn K mainGlobals "NoPivot"=J (J (.ref C)))(aF:PySem.W.nsIn K mainGlobals "FillError"=J (J (.ref F)))(l:K.lookup C=J (excClassObj E W C N bs (.ref F::ig) I L sub S i dd R G U Q B "ValueError.__new__"))(lN:K.lookup N=J ⟨oc,u,.dict H ep,y⟩)(z:(H.all λe=>match e.key with|.str _ _=>I|_=>T)=I)(ni:PySem.W.nsIn K N "__init__"=J (J (.ref f)))(eF:PySem.W.excIn K F ig "ValueError.__new__"=I)(sa:PySem.W.findIn K (.ref C) "__setattr__"=J (J (.builtin "object.__setattr__")))(tk:PySem.W.takerIn K C "place"=J Y)(hg:PySem.W.specialIn K (.ref F) "__getattribute__"=J (J (.builtin "type.__getattribute__")))(hr:PySem.W.readsIn K F (.type "type")=I)(fc:PySem.W.findCls K (.ref F) (.type "type") "__init__"=J (.val (.builtin "ValueError.__init__")))(O:K.lookup f=J ⟨.type "function",Z,.func (PySem.W.fnOf "__init__" "NoPivot.__init__" (fY m4) (aG m4) (aj m4) .none kV dc pm an M ct),sl⟩)(cI:PySem.W.codeIn K M "NoPivot.__init__"=I)(kp:PySem.W.keepIn K (.ref f)=I):OC K:=λP w mg base kin ns=>by
 have no:PySem.W.nsOkIn K N=I:=by unfold PySem.W.nsOkIn;rw[lN];exact z
 have tl:PySem.W.tailIn K ig (.ref F::ig)=I:=yZ eF;have j:Aq K mg "NoPivot" C F f "place":=⟨PySem.W.mg_of kin ns a,⟨E,W,N,bs,L,sub,S,i,dd,R,G,U,Q,B,l,no,ni⟩,tl,sa,tk⟩;have X:=yf (x:="__init__") (qual:="NoPivot.__init__") (st:=m4) O cI kp;exact⟨⟨C,F,f,"place","self","place",_,_,j,KJ (k:=0) X ⟨PySem.W.mg_of kin ns aF,hg,hr,fc⟩ j,X.binds λ_ _ _ _ _ _ us hl=>match us,hl with|[_,_],_=>rfl,O,rfl⟩,C,F,f,"place",j⟩
local macro_rules | `(tactic| contradiction)=>do let q <-[`w_var,`JO,`Nr,`JP,`JX,`Gb,`Nt,`Gc,`NI,`J1,`NF,`Ka,`Gh,`J8,`JQ,`JR,`JS,`F_,`CD,`JT,`Ga,`w_ifE,`JU,`JV,`JW,`Nu,`Nv,`Nw,`Gk,`Ke,`Kg,`NG,`J4,`Gi,`w_tchain,`Gj,`NJ,`Kb,`w_or,`Kc,`Kd,`NM,`NK,`NL,`NN,`NO,`NQ,`Ki,`Ko,`Kh,`NR,`gK,`d8,`Kj,`Go,`NS,`Kl,`NT,`w_set,`w_setO,`Gn,`w_sub,`NH,`zg,`yv,`Gp,`w_pass,`Kk,`yt,`Gz,`JY,`JZ,`J0,`NC,`J2,`J3,`Nx,`Ny,`Nz,`NA,`ND,`NE,`NB,`j_InD,`j_InnD,`J5,`J6,`J7,`Ge,`CF,`J9,`yE,`J_,`Gf,`CG,`Gg].foldrM (λn t=>`(tactic| first | apply $(Lean.mkIdent n) | $t:tactic)) (<-`(tactic| fail));`(tactic| (first | assumption | ((with_reducible apply Gm);assumption;(intro env h;cases env;cases h;rfl)) | ((with_reducible apply Gq);assumption;(intro env h;cases env;cases h;rfl)) | ((with_reducible apply CH);assumption;(intro env h;cases env;cases h;rfl)) | ((with_reducible apply CJ);assumption;(intro env h;cases env;cases h;rfl)) | ((with_reducible apply Km);assumption;(intro env h;cases env;cases h;rfl)) | with_reducible $q:tactic | exact rfl | decide +kernel | refine λY c=>⟨?_,?_,?_⟩ | (intro _;rfl) | exact λ_ _=>rfl | exact AF _ | omega | exact⟨⟨rfl,rfl⟩,rfl,rfl,rfl⟩ | with_unfolding_all rfl | intro Y c d) <;> contradiction)
abbrev gP:Stmt:=top 7
abbrev cP:Stmt:=top 8
abbrev f9:Stmt:=top 9
abbrev nI:Stmt:=top 10
abbrev lG:Stmt:=top 11
abbrev ly:Stmt:=top 12
abbrev nj:Stmt:=top 13
abbrev gO:Stmt:=top 15
abbrev gL:Stmt:=top 16
abbrev eD:Stmt:=top 17
abbrev gp:Stmt:=top 19
abbrev gZ:Stmt:=top 20
abbrev iK:Stmt:=top 21
abbrev eE:Stmt:=top 22
abbrev kA:QM:=["sheet","order","known","rows","work","k","v","step","i","factor"]
abbrev kB:QM:=["enumerate","step_of","sorted","add_times","minus","NOUGHT"]
abbrev qw:QM:=["sheet","order","known"]
def qz(i:Sc X eE)(g:Gd X kA kB k)(E:h_ X)(C:Cal X "minus" ["a","b"] eV.m k)(f:Cal X "add_times" ["row","factor","parts"] i8 k)(j:Cal X "step_of" ["rows","v","later"] eW.m k)(z:Nn X "enumerate")(l:Nn X "sorted")(B:Nn X "dict")(a:ng X.K X.mg "NOUGHT" 0 1):Aj X (aG eE) pf :=
 (n5.h (vi (zL (PC g i 3 ["row"] [] ["dict"] [] (ii (AC (kV g 0) aC)) λu y g=>⟨(z_ g 0),dZ,(DW g 0 (Ci g) (y.n B) Cw (ah (kV g 0) aD))⟩))
 (vi (Az g 4 (qd (wI aD)))
 (vi (zL (js g (PB g 0 z (ah (kV g 1) aD)) (iz g (bD (z_ g 5) (bD (z_ g 6) f8))) (n5.h (vi (Az g 7 (qd (Fe (Cu (yd T) (kV g 6) (kV g 2)) (xp (kV g 2) (kV g 6)) (wh g 1 j (ah (kV g 3) (ah (kV g 6) (ah (A7 g 2 pS l pK (ah (DL (kV g 1) (u0 (aN cw (kV g 5) aC)) t8) aD)) aD)))))))
 (vi (zL (js g (ii (AC (kV g 7) aC)) (iz g (bD (z_ g 8) (bD (z_ g 9) f8))) (n5.h (Ah (zL (hR (Cu (yd I) (kV g 8) (kV g 2)) (n5.h (Ah (zL (hZ (wh g 3 f (ah (AC (kV g 3) (kV g 8)) (ah (wh g 4 C (ah (wo g (q:=5) rfl a) (ah (kV g 9) aD))) (ah (AC (kV g 7) aC) aD)))))))) eZ))))))
 (Ah (zL (hZ (qK iM iY iR (kV g 4) (ah (kV g 7) aD))))))))))
 (Ah (A1 (qd (kV g 4))))))))
abbrev j5:Stmt:=top 23
abbrev jQ:Stmt:=top 24
abbrev lL:Stmt:=top 26
abbrev ud:QM:=["_law_script","_law_k","_law_cell"]
abbrev ux:QM:=["min","len","abs"]
abbrev Dr:QM:=["_law_script","_law_k"]
def Ds(j:Sc X lL)(g:Gd X ud ux k)(l:h_ X)(i:Nn X "abs")(f:Nn X "len")(a:Nn X "min"):Aj X (aG lL) x_ :=
 (n5.h (vi (Az g 2 (qd (aN cw (aN fB aC (kV g 1)) aC)))
 (vi (zL (hR (Cu DE (kV g 1) (A7 g 0 (sj g) a sO (ah (A7 g 1 kU f kN (ah (kV g 0) aD)) (ah aC aD)))) (n5.h (Ah (Az g 2 (qd (AC (kV g 0) (kV g 1)))))) (n5.h (Ah (zL (hR (Cu DF (A7 g 1 kU f kN (ah (kV g 0) aD)) aC) (n5.h (Ah (Az g 2 (qd (aN cw (aN dP (AC (kV g 0) (aN dP (kV g 1) (A7 g 0 (sj g) a sO (ah (A7 g 1 kU f kN (ah (kV g 0) aD)) (ah aC aD))))) (aN rY aC aC)) (aN fB aC (kV g 1))))))) eZ))))))
 (vi (zL (hR (Cu DG (A7 g 2 rO i sY (ah (kV g 2) aD)) (aN rY aC aC)) (n5.h (Ah (A1 (Np (aY (qd aC) (aY (qd (A7 g 2 rO i sY (ah (kV g 2) aD))) (aY (qd aC) cF))))))) eZ))
 (Ah (A1 (Np (aY (qd aC) (aY (qd (aN cw (aN dP (kV g 2) aC) (aN fB aC (kV g 1)))) (aY (qd aC) cF))))))))))
abbrev jL:Stmt:=top 27
abbrev rf:QM:=["_law_pen_here","_law_size","_law_number_here","_law_drawn"]
abbrev qX:QM:=[]
abbrev yQ:QM:=["_law_pen_here","_law_size"]
def zh(a:Sc X jL)(g:Gd X rf qX k)(f:h_ X):Aj X (aG jL) vv :=
 (n5.h (vi (zL (nR (aN cw (AC (kV g 0) aC) aC) (nT (kV g 0) aC)))
 (vi (zL (hR (Cu (ve g.room) (AC (kV g 0) aC) aC) (n5.h (vi (Az g 3 (qd (aN dP (AC (kV g 0) aC) (kV g 1))))
 (vi (zL (nR (aN (vK g.room) (AC (kV g 0) aC) (kV g 1)) (nT (kV g 0) aC)))
 (Ah (A1 (qd (kV g 3))))))) eZ))
 (vi (Az g 2 (qd (aN dP (aN fB (aN cw (aN cw (AC (kV g 0) aC) (aN fB aC (AC (kV g 0) aC))) aC) aC) aC)))
 (vi (Az g 2 (qd (aN dP (aN fB (kV g 2) (aN cw (aN cw (aN dP (kV g 2) aC) (AC (kV g 0) aC)) aC)) aC)))
 (Ah (A1 (qd (aN dP (aN (vK g.room) (aN dP (aN fB (kV g 2) (aN cw (aN dP (kV g 2) aC) aC)) aC) aC) (kV g 1))))))))))
abbrev hV:Stmt:=top 28
abbrev sS:Stmt:=top 29
abbrev hG:Stmt:=top 30
abbrev jX:Stmt:=top 31
abbrev i4:Stmt:=top 32
abbrev jW:Stmt:=top 33
abbrev iS:Stmt:=top 34
abbrev iP:Stmt:=top 35
abbrev iX:Stmt:=top 36
abbrev dR:Stmt:=top 37
abbrev jF:QM:=["_law_n","_law_work","_law_grid","_law_v","_law_pivot","_law_row","_law_column","_law_i","_law_factor","_law_j","_law_number_here"]
abbrev jl:QM:=["range","_law_plus","_law_times","tuple"]
abbrev ox:QM:=["_law_n","_law_work"]
def pg(a:Sc X dR)(g:Gd X jF jl k)(C:h_ X)(l:Cal X "_law_times" ["_law_a","_law_b"] dM.m k)(u:Cal X "_law_plus" ["_law_a","_law_b"] eQ.m k)(B:Nn X "enumerate")(j:Nn X "tuple")(i:Nn X "range"):Aj X (aG dR) qp :=
 (n5.h (vi (zL (Qb g a 2 ["_law_i"] ["_law_n"] ["range"] [0] (HG g 0 i (ah (kV g 0) aD)) λf y a g=>⟨(z_ g 0),dZ,(JM g a ["_law_j"] [] [] [] (HG g 0 (y.n i) (ah (kV g 1) aD)) λf z g=>⟨(z_ g 0),dZ,(kr.h (A8 (aY (qd aC) (aY (qd aC) cF))))⟩)⟩))
 (vi (zL (js g (ii (kV g 1)) (iz g (bD (z_ g 3) (bD (z_ g 4) (bD (z_ g 5) (bD (z_ g 6) f8))))) (n5.h (Ah (zL (js g (ii (aN cw (kr.h (A8 (aY (A8 (aY (qd (kV g 3)) (aY (A8 (aY (qd aC) (aY (qd aC) cF))) cF))) cF))) (kV g 6))) (iz g (bD (z_ g 7) (bD (z_ g 8) f8))) (n5.h (Ah (zL (js g (ii (aN cw (kr.h (A8 (aY (A8 (aY (qd (kV g 3)) (aY (qd (kV g 4)) cF))) cF))) (kV g 5))) (iz g (bD (z_ g 9) (bD (z_ g 10) f8))) (n5.h (Ah (zL (nR (wh g 1 u (ah (AC (AC (kV g 2) (kV g 7)) (kV g 9)) (ah (wh g 2 l (ah (kV g 8) (ah (kV g 10) aD))) aD))) (nT (AC (kV g 2) (kV g 7)) (kV g 9))))))))))))))))
 (Ah (A1 (A8 (aY (qd (kV g 0)) (aY (qd (DW g 3 mZ j j4 (ah (Qa g a ["_law_own"] [] ["tuple","enumerate"] [] (ii (kV g 2)) λf y a g=>⟨(z_ g 0),dZ,(DW g 0 mZ (y.n j) j4 (ah (JM g a ["_law_j","_law_one"] [] [] [] (PB g 1 (y.n B) (ah (kV g 0) aD)) λf z g=>⟨(iz g (bD (z_ g 0) (bD (z_ g 1) f8))),(uM (Cu (qE g.room) (kV g 1) (kr.h (A8 (aY (qd aC) (aY (qd aC) cF)))))),(kr.h (A8 (aY (qd (kV g 0)) (aY (qd (kV g 1)) cF))))⟩) aD))⟩) aD))) cF))))))))
abbrev eG:Stmt:=top 38
abbrev gX:Stmt:=top 39
abbrev iV:Stmt:=top 40
abbrev qh:QM:=["_law_pen_here","_law_n","_law_order_here","_law_work","_law_sheet","_law_right_here","_law_handed","_law_kept","_law_found","_law_x","_law_other"]
abbrev pM:QM:=["_law_many","_law_order","_law_built","_law_draw","int","_law_multiplied","range","list","solved","_law_is_answer","_law_same","struck","_law_struck"]
abbrev xL:QM:=["_law_pen_here"]
def yh(i:Sc X iV)(g:Gd X qh pM k)(P:h_ X)(a:Cal X "solved" ["n","work","right"] bp.m k)(f:Cal X "_law_same" ["_law_found","_law_due"] bL.m k)(u:Cal X "_law_order" ["_law_pen_here","_law_n"] cZ.m k)(B:Cal X "_law_struck" ["_law_sheet","_law_order_here"] cD.m k)(G:Cal X "struck" ["sheet","order"] bv.m k)(L:Cal X "_law_is_answer" ["_law_sheet","_law_x","_law_right_here"] cA.m k)(M:Cal X "_law_number" ["_law_pen_here"] dm.m k)(E:Cal X "_law_multiplied" ["_law_n","_law_work"] cX k)(H:Cal X "_law_draw" ["_law_pen_here","_law_size"] cM k)(F:Cal X "_law_built" ["_law_pen_here","_law_n","_law_order_here","_law_some"] fe.m k)(C:Cal X "_law_many" ["_law_pen_here"] fS.m k)(j:Nn X "range")(z:Nn X "list")(O:Nn X "int"):Aj X (aG iV) vY :=
 (n5.h (vi (Az g 1 (qd (wh g 0 C (ah (kV g 0) aD))))
 (vi (Az g 2 (qd (wh g 1 u (ah (kV g 0) (ah (kV g 1) aD)))))
 (vi (Az g 3 (qd (wh g 2 F (ah (kV g 0) (ah (kV g 1) (ah (kV g 2) (ah (aN cw (aN cw aC (wh g 3 H (ah (kV g 0) (ah aC aD)))) (aN fB aC (DW g 4 xj O rG (ah (Pz (ve g.room) (kV g 1) aC) aD)))) aD)))))))
 (vi (Az g 4 (qd (wh g 5 E (ah (kV g 1) (ah (kV g 3) aD)))))
 (vi (zL (PC g i 5 ["_law_i"] ["_law_pen_here"] ["_law_number"] [0] (HG g 6 j (ah (kV g 1) aD)) λl y g=>⟨(z_ g 0),dZ,(wh g 0 (y.c M) (ah (kV g 1) aD))⟩))
 (vi (Az g 6 (qd (DW g 7 jA z ib (ah (kV g 5) aD))))
 (vi (Az g 7 (qd (DW g 7 jA z ib (ah (kV g 3) aD))))
 (vi (Az g 8 (qd (wh g 8 a (ah (kV g 1) (ah (kV g 3) (ah (kV g 6) aD))))))
 (vi (zL (hR (MW.mt (qH (kQ (li (wh g 9 L (ah (kV g 4) (ah (kV g 8) (ah (kV g 5) aD)))))) (qH (Cu (qE g.room) (kV g 6) (kV g 5)) (qS (Cu (qE g.room) (kV g 3) (kV g 7)))))) (n5.h (Ah (A1 (qd qN)))) eZ))
 (vi (Az g 9 (qd (DW g 7 jA z ib (ah (kV g 8) aD))))
 (vi (zL (hZ (qK iM iY iR (kV g 8) (ah n6 aD))))
 (vi (zL (hZ (qK iM iY iR (kV g 6) (ah n6 aD))))
 (vi (zL (hR (MW.mt (qH (kQ (li (wh g 10 f (ah (wh g 8 a (ah (kV g 1) (ah (kV g 3) (ah (DW g 7 jA z ib (ah (kV g 5) aD)) aD)))) (ah (kV g 9) aD))))) (qS (kQ (li (wh g 10 f (ah (wh g 8 a (ah (kV g 1) (ah (wh g 11 G (ah (kV g 4) (ah (kV g 2) aD))) (ah (kV g 5) aD)))) (ah (kV g 9) aD)))))))) (n5.h (Ah (A1 (qd qN)))) eZ))
 (vi (zL (hR (kQ (li (wh g 10 f (ah (wh g 8 a (ah (kV g 1) (ah (kV g 3) (ah (JM g i ["_law_j"] [] [] [] (HG g 6 j (ah (kV g 1) aD)) λl y g=>⟨(z_ g 0),dZ,(kr.h (A8 (aY (qd aC) (aY (qd aC) cF))))⟩) aD)))) (ah (JM g i ["_law_j"] [] [] [] (HG g 6 j (ah (kV g 1) aD)) λl y g=>⟨(z_ g 0),dZ,(kr.h (A8 (aY (qd aC) (aY (qd aC) cF))))⟩) aD))))) (n5.h (Ah (A1 (qd qN)))) eZ))
 (vi (Az g 10 (qd (wh g 12 B (ah (kV g 4) (ah (wh g 1 u (ah (kV g 0) (ah (kV g 1) aD))) aD)))))
 (Ah (A1 (qd (IR (Pz DH (kV g 10) n6) (wu (wh g 10 f (ah (wh g 8 a (ah (kV g 1) (ah (kV g 10) (ah (kV g 5) aD)))) (ah (kV g 9) aD))))))))))))))))))))))))
abbrev oq:Stmt:=top 41
abbrev En:QM:=["_law_script"]
abbrev Eo:QM:=["all","range","max","min","len"]
abbrev Bq:QM:=["_law_script"]
def KL(f:Sc X oq)(g:Gd X En Eo k)(E:h_ X)(j:Cal X "_law_pen" ["_law_script","_law_k"] jD k)(a:Cal X "_law_right" ["_law_pen_here"] eX k)(i:Nn X "range")(B:Nn X "len")(l:Nn X "min")(C:Nn X "max")(u:Nn X "all"):Aj X (aG oq) Bo :=
 (n5.h (Ah (A1 (qd (A7 g 0 (xM g) u wU (ah (JM g f ["_law_k"] ["_law_script"] ["_law_right","_law_pen"] [0] (HG g 1 i (ah (A7 g 2 (Ft g) C F8 (ah aC (ah (A7 g 3 (sj g) l sO (ah (A7 g 4 kU B kN (ah (kV g 0) aD)) (ah aC aD))) aD))) aD)) λz y g=>⟨(z_ g 0),dZ,(wh g 0 (y.c a) (ah (wh g 1 (y.c j) (ah (kV g 1) (ah (kV g 0) aD))) aD))⟩) aD))))))
def G9:fQ "law" oq Bq:=λ_ _ _ _ _ _=>JL λ_=>rfl
abbrev jZ:QM:=["thing"]
def vH{K:hH}(c:Wc X P w K mg base jZ jZ 0 (aj gP))(d:h_ X)(f:Zn K "isinstance")(a:Zn K "bool")(i:Zn K "int"):n5 X (aG gP) jN.m:=by unfold jN;apply gK<;>contradiction
abbrev d9:QM:=["a","b","rest"]
def lY{K:hH}(c:Wc X P w K mg base d9 d9 0 (aj cP))(d:h_ X):n5 X (aG cP) bV.m:=by unfold bV;apply d8<;>contradiction
abbrev i6:QM:=["top","bottom","shared"]
def tE{K:hH}(c:Wc X P w K mg base i6 i6 1 (aj f9))(d:h_ X)(z0:Zn K "abs")(a:FnAt P w K mg base "greatest_shared" Ps1 bW.m 1)(f:FnAt P w K mg base "is_whole" Ps0 dg.m 1):n5 X (aG f9) eB.m:=by unfold eB;apply d8<;>contradiction
abbrev sU:QM:=["a","b"]
def G_{K:hH}(c:Wc X P w K mg base sU sU 2 (aj nI))(d:h_ X)(a:FnAt P w K mg base "number_of" Ps2 bB.m 2):n5 X (aG nI) kO.m:=by unfold kO;apply gK<;>contradiction
abbrev oT:QM:=["a","b"]
def Dt{K:hH}(c:Wc X P w K mg base oT oT 2 (aj lG))(d:h_ X)(a:FnAt P w K mg base "number_of" Ps2 bB.m 2):n5 X (aG lG) ju.m:=by unfold ju;apply gK<;>contradiction
abbrev oK:QM:=["a","b"]
def Du{K:hH}(c:Wc X P w K mg base oK oK 2 (aj ly))(d:h_ X)(a:FnAt P w K mg base "number_of" Ps2 bB.m 2):n5 X (aG ly) jm.m:=by unfold jm;apply gK<;>contradiction
abbrev rc:QM:=["a","b"]
def Ha{K:hH}(c:Wc X P w K mg base rc rc 2 (aj nj))(d:h_ X)(a:FnAt P w K mg base "number_of" Ps2 bB.m 2):n5 X (aG nj) kL.m:=by unfold kL;apply gK<;>contradiction
abbrev kx:QM:=["n","thing"]
def vV{K:hH}(c:Wc X P w K mg base kx kx 1 (aj gO))(d:h_ X)(a:FnAt P w K mg base "is_whole" Ps0 dg.m 1):n5 X (aG gO) fH.m:=by unfold fH;apply gK<;>contradiction
abbrev jO:QM:=["web","thing"]
def vQ{K:hH}(c:Wc X P w K mg base jO jO 2 (aj gL))(d:h_ X)(a:Zn K "sorted")(l:Zn K "list")(f:Zn K "range")(z1:Zn K "all")(j:Zn K "isinstance")(i:FnAt P w K mg base "is_place" Ps7 dU.m 2):n5 X (aG gL) fO.m:=by unfold fO;apply d8<;>contradiction
abbrev gJ:QM:=["web","thing"]
def qA{K:hH}(c:Wc X P w K mg base gJ gJ 3 (aj eD))(d:h_ X)(a:FnAt P w K mg base "is_order" Ps8 fK.m 3):n5 X (aG eD) dA.m:=by unfold dA;apply gK<;>contradiction
abbrev jc:QM:=["row","factor","parts","j","number"]
def tD{K:hH}(c:Wc X P w K mg base jc jc 3 (aj gp))(d:h_ X)(a:ng K mg "NOUGHT" 0 1)(i:FnAt P w K mg base "times" Ps5 cC.m 3)(f:FnAt P w K mg base "plus" Ps3 fu.m 3):n5 X (aG gp) cb.m:=by unfold cb;apply gK<;>contradiction
abbrev jV:QM:=["row","places"]
def vW{K:hH}(c:Wc X P w K mg base jV jV 0 (aj gZ))(d:h_ X)(f:Zn K "tuple")(a:ng K mg "NOUGHT" 0 1):n5 X (aG gZ) fL.m:=by unfold fL;apply gK<;>contradiction
abbrev kH:QM:=["rows","v","later","pivot","column"]
def wm{K:hH}(c:Wc X P w K mg base kH kH 3 (aj iK))(d:h_ X)(i:Zn K "tuple")(a:ng K mg "NOUGHT" 0 1)(j:NY P w K mg base "NoPivot" "the pivot of the place " " is nought")(f:FnAt P w K mg base "parts_at" Ps11 fy.m 1)(l:FnAt P w K mg base "over" Ps6 fG.m 3):n5 X (aG iK) ff.m:=by unfold ff;apply d8<;>contradiction
abbrev mP:QM:=["sheet","order"]
def yV{K:hH}(c:Wc X P w K mg base mP mP 5 (aj j5))(d:h_ X)(a:FnAt P w K mg base "struck_with" Ps13 cz 5)(f:FnAt P w K mg base "check_order" Ps9 dz.m 4):n5 X (aG j5) iA.m:=by unfold iA;apply d8<;>contradiction
abbrev mr:QM:=["n","work","right","x","v","pivot","row","column","i","factor","j","number"]
def zI{K:hH}(c:Wc X P w K mg base mr mr 3 (aj jQ))(d:h_ X)(f:Zn K "reversed")(a:Zn K "range")(l:FnAt P w K mg base "over" Ps6 fG.m 3)(j:FnAt P w K mg base "times" Ps5 cC.m 3)(i:FnAt P w K mg base "minus" Ps4 eV.m 3):n5 X (aG jQ) iC.m:=by unfold iC;apply d8<;>contradiction
abbrev jT:QM:=["_law_top","_law_bottom","_law_one","_law_other"]
def vN{K:hH}(c:Wc X P w K mg base jT jT 0 (aj hV))(d:h_ X)(z0:Zn K "abs"):n5 X (aG hV) fJ.m:=by unfold fJ;apply d8<;>contradiction
abbrev jI:QM:=["_law_pen_here","_law_way"]
def vz{K:hH}(c:Wc X P w K mg base jI jI 1 (aj hG))(d:h_ X)(f:FnAt P w K mg base "_law_draw" Ps17 cM 1)(a:FnAt P w K mg base "_law_lowest" Ps18 be.m 1):n5 X (aG hG) fE.m:=by unfold fE;apply d8<;>contradiction
abbrev mJ:QM:=["_law_pen_here"]
def zd{K:hH}(c:Wc X P w K mg base mJ mJ 1 (aj jX))(d:h_ X)(a:FnAt P w K mg base "_law_draw" Ps17 cM 1):n5 X (aG jX) iH.m:=by unfold iH;apply d8<;>contradiction
abbrev kX:QM:=["_law_pen_here","_law_n","_law_found","_law_k"]
def xV{K:hH}(c:Wc X P w K mg base kX kX 1 (aj i4))(d:h_ X)(a:Zn K "range")(f:FnAt P w K mg base "_law_draw" Ps17 cM 1):n5 X (aG i4) gD.m:=by unfold gD;apply d8<;>contradiction
abbrev mU:QM:=["_law_a","_law_b"]
def zl{K:hH}(c:Wc X P w K mg base mU mU 1 (aj jW))(d:h_ X)(a:FnAt P w K mg base "_law_lowest" Ps18 be.m 1):n5 X (aG jW) ik.m:=by unfold ik;apply gK<;>contradiction
abbrev lq:QM:=["_law_a","_law_b"]
def wH{K:hH}(c:Wc X P w K mg base lq lq 1 (aj iS))(d:h_ X)(a:FnAt P w K mg base "_law_lowest" Ps18 be.m 1):n5 X (aG iS) gz.m:=by unfold gz;apply gK<;>contradiction
abbrev lj:QM:=["_law_pen_here","_law_wide","_law_top"]
def xG{K:hH}(c:Wc X P w K mg base lj lj 1 (aj iP))(d:h_ X)(i:Zn K "int")(f:FnAt P w K mg base "_law_draw" Ps17 cM 1)(a:FnAt P w K mg base "_law_lowest" Ps18 be.m 1):n5 X (aG iP) gC.m:=by unfold gC;apply d8<;>contradiction
abbrev kY:QM:=["_law_pen_here","_law_n","_law_order_here","_law_some","_law_wide","_law_most","_law_work","_law_at","_law_v","_law_later","_law_row","_law_column"]
def xq{K:hH}(c:Wc X P w K mg base kY kY 2 (aj iX))(d:h_ X)(l:Zn K "enumerate")(i:Zn K "tuple")(a:Zn K "sorted")(u:Zn K "int")(f:FnAt P w K mg base "_law_small" Ps25 cG.m 2)(j:FnAt P w K mg base "_law_draw" Ps17 cM 1):n5 X (aG iX) gB.m:=by unfold gB;apply d8<;>contradiction
abbrev gH:QM:=["_law_sheet","_law_x","_law_right_here","_law_one","_law_row","_law_due","_law_here","_law_j","_law_number_here"]
def qy{K:hH}(c:Wc X P w K mg base gH gH 9 (aj eG))(d:h_ X)(j:Zn K "zip")(y:Zn K "isinstance")(B:Zn K "int")(C:Zn K "len")(i:Zn K "tuple")(z:Zn K "list")(u:FnAt P w K mg base "_law_times" Ps24 dM.m 2)(a:FnAt P w K mg base "_law_plus" Ps23 eQ.m 2)(l:FnAt P w K mg base "_law_lowest" Ps18 be.m 1)(f:FnAt P w K mg base "_law_same" Ps19 bL.m 9):n5 X (aG eG) dB.m:=by unfold dB;apply d8<;>contradiction
abbrev jM:QM:=["_law_sheet","_law_order_here","_law_found"]
def vy{K:hH}(c:Wc X P w K mg base jM jM 6 (aj gX))(d:h_ X)(i:Zn K "list")(f:NZ K mg "NoPivot")(a:FnAt P w K mg base "struck" Ps14 bv.m 6):n5 X (aG gX) fN.m:=by unfold fN;apply d8<;>contradiction
def Hb{K:hH}(b:Ba P w K mg base)(D0:eT K "is_whole" gP)(D1:eT K "greatest_shared" cP)(D2:eT K "number_of" f9)(D3:eT K "plus" nI)(D4:eT K "minus" lG)(D5:eT K "times" ly)(D6:eT K "over" nj)(D7:eT K "is_place" gO)(D8:eT K "is_order" gL)(D9:eT K "check_order" eD)(b1:eT K "add_times" gp)(cB:eT K "parts_at" gZ)(c1:eT K "step_of" iK)(ca:eT K "struck_with" eE)(ck:eT K "struck" j5)(c2:eT K "solved" jQ)(cv:eT K "_law_pen" lL)(ak:eT K "_law_draw" jL)(an:eT K "_law_lowest" hV)(O:eT K "_law_same" sS)(ai:eT K "_law_number" hG)(b2:eT K "_law_many" jX)(b4:eT K "_law_order" i4)(b9:eT K "_law_plus" jW)(cn:eT K "_law_times" iS)(ab:eT K "_law_small" iP)(W:eT K "_law_built" iX)(ch:eT K "_law_multiplied" dR)(cc:eT K "_law_is_answer" eG)(b6:eT K "_law_struck" gX)(as:eT K "_law_right" iV)(bm:eT K "law" oq)(z0:Zn K "abs")(z1:Zn K "all")(z2:Zn K "bool")(z3:Zn K "dict")(z4:Zn K "enumerate")(C:Zn K "int")(z6:Zn K "isinstance")(z7:Zn K "len")(Q:Zn K "list")(z9:Zn K "max")(H:Zn K "min")(i:Zn K "range")(Z:Zn K "reversed")(z:Zn K "sorted")(l:Zn K "tuple")(aF:Zn K "zip")(j:oi K "NOUGHT" 0 1)(S:OC K):FnAt P w K mg base "law" Bq AT 12:=by
 have S:=S P w mg base b.kin b.ns;have a:=j.mg b.kin b.ns;have a0:=x3 (F:=dg) jZ b D0 λX c d=>vH c d z6 z2 C;have a1:=x3 (F:=bW) d9 b D1 λX c d=>lY c d;have R:=x3 (F:=bB) i6 b D2 λX c d=>tE c d z0 a1 a0;have a3:=x3 (F:=fu) sU b D3 λX c d=>G_ c d  R;have a4:=x3 (F:=eV) oT b D4 λX c d=>Dt c d  R;have a5:=x3 (F:=cC) oK b D5 λX c d=>Du c d  R;have a6:=x3 (F:=fG) rc b D6 λX c d=>Ha c d  R;have a7:=x3 (F:=dU) kx b D7 λX c d=>vV c d  a0;have a8:=x3 (F:=fK) jO b D8 λX c d=>vQ c d z Q i z1 z6 a7;have a9:=x3 (F:=dz) gJ b D9 λX c d=>qA c d  a8;have cm:=NV (B:=cb) (np:=3) jc b b1 λX c d=>tD c d a a5 a3;have b3:=x3 (F:=fy) jV b cB λX c d=>vW c d l a;have cs:=x3 (F:=eW) kH b c1 λX c d=>wm c d l a S.1 b3 a6;have U:=HE (k:=4) (N:=kA) (G:=kB) (ps:=qw) b ca λX e h g d=>qz h g d (a4.c e) (cm.c e) (cs.c e) (e.n z4) (e.n z) (e.n z3) (e.e3▸e.e4▸a);have M:=x3 (F:=bv) mP b ck λX c d=>yV c d  U a9;have cp:=x3 (F:=bp) mr b c2 λX c d=>zI c d Z i a6 a5 a4;have ci:=HE (k:=0) (N:=ud) (G:=ux) (ps:=Dr) b cv λX e h g d=>Ds h g d (e.n z0) (e.n z7) (e.n H);have f:=HE (k:=0) (N:=rf) (G:=qX) (ps:=yQ) b ak λX e h g d=>zh h g d;have u:=x3 (F:=be) jT b an λX c d=>vN c d z0;have y:∀n,FnAt P w K mg base "_law_same" _ (cN n).m (0+n+1):=λn=>by
  induction n with
  |zero=>exact NU (np:=2) ["_law_found","_law_due"] b O
  |succ n ih=>exact x3 (F:=cN (n+1)) (B:=eK (cN n)) ["_law_found","_law_due"] b O λX c d=>by unfold eK;apply d8<;>contradiction
 have y:FnAt P w K mg base "_law_same" _ bL.m 9:=y 8;have b5:=x3 (F:=dm) jI b ai λX c d=>vz c d  f u;have al:=x3 (F:=fS) mJ b b2 λX c d=>zd c d  f;have b7:=x3 (F:=cZ) kX b b4 λX c d=>xV c d i f;have L:=x3 (F:=eQ) mU b b9 λX c d=>zl c d  u;have E:=x3 (F:=dM) lq b cn λX c d=>wH c d  u;have ap:=x3 (F:=cG) lj b ab λX c d=>xG c d C f u;have b8:=x3 (F:=fe) kY b W λX c d=>xq c d z4 l z C ap f;have b0:=HE (k:=2) (N:=jF) (G:=jl) (ps:=ox) b ch λX e h g d=>pg h g d (E.c e) (L.c e) (e.n z4) (e.n l) (e.n i);have ar:=x3 (F:=cA) gH b cc λX c d=>qy c d aF z6 C z7 l Q E L u y;have cd:=x3 (F:=cD) jM b b6 λX c d=>vy c d Q S.2 M;have cx:=HE (k:=10) (N:=qh) (G:=pM) (ps:=xL) b as λX e h g d=>yh h g d (cp.c e) (y.c e) (b7.c e) (cd.c e) (M.c e) (ar.c e) (b5.c e) (b0.c e) (f.c e) (b8.c e) (al.c e) (e.n i) (e.n Q) (e.n C);have c3:=HE (k:=11) (N:=En) (G:=Eo) (ps:=Bq) b bm λX e h g d=>KL h g d (ci.c e) (cx.c e) (e.n i) (e.n z7) (e.n H) (e.n z9) (e.n z1);exact c3
end Law
namespace PySem.W.Fast
def tw11043529320580157372:=0
def tw13087132785717704482:=0
def tw5221530899950856928:=0
def tw9126531455221288734:=0
def tw1420204161156050698:=0
def tw8808603298845560385:=0
def tw17532743817774662140:=0
def tw17010122615533058586:=0
def tw15742940874382199926:=0
def tw12337625234928949807:=0
def tw11928646411166930211:=0
def tw6612499512377115753:=0
def tw17879647635923494632:=0
def tw7464359268680822704:=0
def tw5907552355721235798:=0
def tw902933926663263483:=0
def tw5907123832610706112:=0
def tw14285526922494656022:=0
def tw11701604906378994598:=0
def tw869299480145123557:=0
def tw4073111897877853484:=0
def tw9145814413370044767:=0
def tw2234459747176182499:=0
def tw15513196260384781207:=0
def tw4460825327905619073:=0
def tw17717895412827457834:=0
def tw18404197973899685936:=0
def tw17211499466306693410:=0
def tw15277004412028231761:=0
def tw7275983951992383136:=0
def tw15127844137390842075:=0
def tw12201138411458568697:=0
def tw16967417288235398077:=0
def tw3579561353037510953:=0
def tw882274358626976024:=0
def tw11974508675833523357:=0
def tw3633062325311749879:=0
def tw2078459389904589612:=0
def tw16475513846200554322:=0
def tw1939751033378394687:=0
def tw9100021174403545548:=0
def tw11251313016622012076:=0
def tw9152501143480876626:=0
def tw7419091588633341647:=0
def tw3348343990470570763:=0
def tw14623080735475735607:=0
def tw2482456934086770375:=0
def tw13468970722355502267:=0
def tw11141414549348032258:=0
def tw17931310168009687735:=0
def tw5132514101955981648:=0
def tw16831760307609337939:=0
def tw9320955663105564127:=0
def tw17612955131023943480:=0
def tw1502834129749257576:=0
def tw14921713778948081283:=0
def tw3790349489564104177:=0
def tw11878035256255764016:=0
def tw12299709911720708273:=0
def tw11479872907366293138:=0
def tw12589630512453683664:=0
def tw1431195883042953938:=0
def tw9861212334451557962:=0
def tw5374555867290708849:=0
def tw6822469906818727462:=0
def tw13479296858501112967:=0
def tw16308895316175518333:=0
def tw12083865757460992526:=0
def tw2404336718932594109:=0
def tw17699196872977884019:=0
def tw4215269289338187241:=0
def tw11106083118330680817:=0
def tw8347903030304032817:=0
def tw10927089274965891203:=0
def tw6331175169708608563:=0
def tw7608133958795928695:=0
def tw9204733718146927883:=0
def tw7503354982372612404:=0
def tw6693728892510193983:=0
def tw3514371152972851687:=0
def tw15706112688117400222:=0
def tw15190095339367749652:=0
def tw4035450023515093603:=0
def tw2982353476184336961:=0
def tw17603205898518106764:=0
def tw17570675679308293866:=0
def tw8112657051692587372:=0
def tw17479612877333628826:=0
def tw5795820794650391766:=0
def tw4399935507253485666:=0
def tw2907635433184214888:=0
def tw9466826751379039565:=0
def tw7196407712152317696:=0
def tw15856230027443221720:=0
def tw7992432249764032488:=0
def tw9525067823748736911:=0
def tw984844613362153044:=0
def tw5657201440127611642:=0
def tw18226486458409416383:=0
def tw11705392269659839977:=0
def tw11375251175867683154:=0
def tw9936730752322060961:=0
def tw12752172905292122423:=0
def tw14699614453390280661:=0
def tw718323284192169829:=0
def tw10511347120415617088:=0
def tw6102377344085133895:=0
def tw3563870209026140669:=0
def tw10351415218771297592:=0
def tw4652109384191315236:=0
def tw9382150852462538417:=0
def tw6840696377704896209:=0
def tw14614491185692680739:=0
def tw16358018222191328025:=0
def tw15491342782902636723:=0
def tw4886002982807461314:=0
def tw9535517584012864835:=0
def tw17516036140678412038:=0
def tw6350738866616215251:=0
def tw16652488581977634359:=0
def tw4870776694966001898:=0
def tw10320855716553016544:=0
def tw4990738567795565489:=0
def tw1712751766852260079:=0
def tw1898526853108002147:=0
def tw13677890397396427741:=0
def tw7690390955119639937:=0
def tw14963703852888615079:=0
def tw10017406858156797596:=0
def tw14873351027667442312:=0
def tw10413815665279705259:=0
def tw16546640210155820242:=0
def tw776618243781516214:=0
def tw3957600633617011410:=0
def tw2164652829437092324:=0
def tw3014579717040440035:=0
def tw10206294907646762161:=0
def tw2835701116016927111:=0
def tw9458266393957744963:=0
def tw18110843556841939936:=0
def tw15321155145486856116:=0
def tw15289341691023273945:=0
def tw11609460704531063869:=0
def tw11561233170359951055:=0
def tw3987883823751597284:=0
def tw4162690534153952683:=0
def tw12085463309879531889:=0
def tw9817449132586390948:=0
def tw14478670692221834651:=0
def tw11372680373196339822:=0
def tw2602717468411588569:=0
def tw8725654349398313648:=0
def tw5217102604309261221:=0
def tw12765086415117340594:=0
end PySem.W.Fast
open PySem PySem.W PyProof.Rows
local macro_rules | `(tactic| and_intros) => `(tactic| (dsimp only [L2.pk]; first | k_is | (refine' MM.Bl ?a ?l ?c ?k; (case a => k_is); (case l => k_is); (case c => k_is); (case k => k_is))))
set_option maxRecDepth 100000 in
set_option maxHeartbeats 0 in
theorem PySem.Challenge.cw_fewfills_k33_answers_of_works_holds : PySem.Challenge.rw_fewfills_k33_answers_of_works.Holds := by
  w_on; o_law; k_head; (case hw=>w_witness2)
  k_fill
  refine MM.Fz (l:=PySem.Challenge.rw_fewfills_k33_answers_of_works) (k:=12) (x:="_law_script") (F:=Law.AT) rfl rfl ⟨rfl,by decide,by decide,rfl⟩ (by decide +kernel) rfl (fun w h Y=>PySem.W.kIn_of Y) ?F Law.Bp
  case F=>
    intro w mg fa h KX G hmg
    have Dlaw:MM.eT (L2.pk KX) "law" Law.oq:=by and_intros
    have D0:MM.eT (L2.pk KX) "is_whole" Law.gP:=by and_intros
    have D1:MM.eT (L2.pk KX) "greatest_shared" Law.cP:=by and_intros
    have D2:MM.eT (L2.pk KX) "number_of" Law.f9:=by and_intros
    have D3:MM.eT (L2.pk KX) "plus" Law.nI:=by and_intros
    have D4:MM.eT (L2.pk KX) "minus" Law.lG:=by and_intros
    have D5:MM.eT (L2.pk KX) "times" Law.ly:=by and_intros
    have D6:MM.eT (L2.pk KX) "over" Law.nj:=by and_intros
    have D7:MM.eT (L2.pk KX) "is_place" Law.gO:=by and_intros
    have D8:MM.eT (L2.pk KX) "is_order" Law.gL:=by and_intros
    have D9:MM.eT (L2.pk KX) "check_order" Law.eD:=by and_intros
    have D10:MM.eT (L2.pk KX) "add_times" Law.gp:=by and_intros
    have D11:MM.eT (L2.pk KX) "parts_at" Law.gZ:=by and_intros
    have D12:MM.eT (L2.pk KX) "step_of" Law.iK:=by and_intros
    have D13:MM.eT (L2.pk KX) "struck_with" Law.eE:=by and_intros
    have D14:MM.eT (L2.pk KX) "struck" Law.j5:=by and_intros
    have D15:MM.eT (L2.pk KX) "solved" Law.jQ:=by and_intros
    have D16:MM.eT (L2.pk KX) "_law_pen" Law.lL:=by and_intros
    have D17:MM.eT (L2.pk KX) "_law_draw" Law.jL:=by and_intros
    have D18:MM.eT (L2.pk KX) "_law_lowest" Law.hV:=by and_intros
    have D19:MM.eT (L2.pk KX) "_law_same" Law.sS:=by and_intros
    have D20:MM.eT (L2.pk KX) "_law_number" Law.hG:=by and_intros
    have D21:MM.eT (L2.pk KX) "_law_many" Law.jX:=by and_intros
    have D22:MM.eT (L2.pk KX) "_law_order" Law.i4:=by and_intros
    have D23:MM.eT (L2.pk KX) "_law_plus" Law.jW:=by and_intros
    have D24:MM.eT (L2.pk KX) "_law_times" Law.iS:=by and_intros
    have D25:MM.eT (L2.pk KX) "_law_small" Law.iP:=by and_intros
    have D26:MM.eT (L2.pk KX) "_law_built" Law.iX:=by and_intros
    have D27:MM.eT (L2.pk KX) "_law_multiplied" Law.dR:=by and_intros
    have D28:MM.eT (L2.pk KX) "_law_is_answer" Law.eG:=by and_intros
    have D29:MM.eT (L2.pk KX) "_law_struck" Law.gX:=by and_intros
    have D30:MM.eT (L2.pk KX) "_law_right" Law.iV:=by and_intros
    have Z31:PySem.W.nsIn (L2.pk KX) mainGlobals "abs" = some none:=by and_intros
    have Z32:PySem.W.nsIn (L2.pk KX) mainGlobals "all" = some none:=by and_intros
    have Z33:PySem.W.nsIn (L2.pk KX) mainGlobals "bool" = some none:=by and_intros
    have Z34:PySem.W.nsIn (L2.pk KX) mainGlobals "dict" = some none:=by and_intros
    have Z35:PySem.W.nsIn (L2.pk KX) mainGlobals "enumerate" = some none:=by and_intros
    have Z36:PySem.W.nsIn (L2.pk KX) mainGlobals "int" = some none:=by and_intros
    have Z37:PySem.W.nsIn (L2.pk KX) mainGlobals "isinstance" = some none:=by and_intros
    have Z38:PySem.W.nsIn (L2.pk KX) mainGlobals "len" = some none:=by and_intros
    have Z39:PySem.W.nsIn (L2.pk KX) mainGlobals "list" = some none:=by and_intros
    have Z40:PySem.W.nsIn (L2.pk KX) mainGlobals "max" = some none:=by and_intros
    have Z41:PySem.W.nsIn (L2.pk KX) mainGlobals "min" = some none:=by and_intros
    have Z42:PySem.W.nsIn (L2.pk KX) mainGlobals "range" = some none:=by and_intros
    have Z43:PySem.W.nsIn (L2.pk KX) mainGlobals "reversed" = some none:=by and_intros
    have Z44:PySem.W.nsIn (L2.pk KX) mainGlobals "sorted" = some none:=by and_intros
    have Z45:PySem.W.nsIn (L2.pk KX) mainGlobals "tuple" = some none:=by and_intros
    have Z46:PySem.W.nsIn (L2.pk KX) mainGlobals "zip" = some none:=by and_intros
    have YNOUGHT:MM.oi (L2.pk KX) "NOUGHT" 0 1:=by
      dsimp only [L2.pk]
      refine' MM.Ce ?h ?l
      (case h=>k_is)
      (case l=>k_is)
    have NP:Law.OC (L2.pk KX):=by
      dsimp only [L2.pk]
      refine' Law.G8 ?a ?aF ?l ?lN ?hes ?ni ?eF ?sa ?tk ?hg ?hr ?fc ?lf ?cI ?kp
      (case a=>k_is)
      (case aF=>k_is)
      (case l=>k_is)
      (case lN=>k_is)
      (case hes=>first | with_unfolding_all rfl | simp)
      (case ni=>k_is)
      (case eF=>k_exc)
      (case sa=>k_is)
      (case tk=>k_is)
      (case hg=>k_is)
      (case hr=>k_is)
      (case fc=>k_is)
      (case lf=>k_is)
      (case cI=>k_is)
      (case kp=>k_is)
    exact MM.Fy Dlaw Law.G9 hmg KX G fun base kb nb=>Law.Hb ⟨kb,nb⟩ D0 D1 D2 D3 D4 D5 D6 D7 D8 D9 D10 D11 D12 D13 D14 D15 D16 D17 D18 D19 D20 D21 D22 D23 D24 D25 D26 D27 D28 D29 D30 Dlaw Z31 Z32 Z33 Z34 Z35 Z36 Z37 Z38 Z39 Z40 Z41 Z42 Z43 Z44 Z45 Z46 YNOUGHT NP
