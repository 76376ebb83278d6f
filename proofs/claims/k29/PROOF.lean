import PyProof.Rows.All
import Wide.All
import OpenK.AllK
import Wide.FinOn
import Lean
import PyProof.EqAt
import PyProof.EqKinds
import PyProof.TupleCall
import PyProof.ReprRoads
import PyProof.FitsInt
import PyProof.FitsBits
import PyProof.Rows.IntMath
import PyProof.ConsumeWalk
import PyProof.WalkInts
import PyProof.ListRange
import PySem.SetTable
import PyProof.SetKind
import PyProof.TupleKey
import PyProof.DictKinds
import PyProof.IsRules
import PyProof.Rows.SetFrom
import PyProof.CollectIter
import PyProof.ForAny
import PyProof.Rows.SortRuns
import PyProof.Rows.SortKey
import KE.KSortTup
import PyProof.ZipIter
import PyProof.Draws
import PyProof.EnumMake
import PyProof.TupleIter
import PyProof.P3Eq
import PyProof.StrCalls2
import PyProof.StrCalls3
import PyProof.FString
import PyProof.AttrMissHeap
import PyProof.DictUpdate
import PyProof.DictRoads
import KE.KDictOf
import PyProof.Walks
import PyProof.SetRoads
import PyProof.Rows.SeqMore
import KE.KDictList
import PyProof.DictItems
import KE.KPairComp
import PyProof.MeetsSeq
import PyProof.Rows.Chain
import PyProof.ListMulRoad
import PyProof.FactsAll.tuple_2
import PySem.Challenge.RW_fewfills_k29_showing_sheets
set_option Elab.async false
set_option bootstrap.genMatcherCode false
set_option compiler.extract_closed false
set_option genSizeOf false
set_option linter.all false
set_option maxRecDepth 100000
noncomputable section
local macro_rules|`(command|def $i:declId $s:optDeclSig $v:declVal)=>`(command|noncomputable def $i:declId $s:optDeclSig $v:declVal)
local macro_rules|`(command|abbrev $i:declId $s:optDeclSig $v:declVal)=>`(command|noncomputable abbrev $i:declId $s:optDeclSig $v:declVal)
open PySem
abbrev _root_.TM:=List Str
abbrev _root_.TN:=List Int
abbrev _root_.TQ:=List (List Int)
abbrev _root_.TR:=List Nat
abbrev _root_.TV:=List Addr
abbrev _root_.TW:=List Value
abbrev _root_.TX:=List (Addr×Obj)
abbrev _root_.TZ:=Option Value
abbrev _root_.TB:=Option Int
abbrev _root_.TC:=List Expr
abbrev _root_.TF:=Value->Shared->Prop
abbrev _root_.TH:=Str->Option Value
abbrev _root_.Ti:=List Stmt
abbrev g_:=@wpAny_bind
abbrev hH:=@PySem.W.Frag
abbrev lR:=@Heap.get?_push_of_some
abbrev l7:=@List.mem_cons_of_mem
abbrev o_:=@List.getElem?_eq_some_iff
abbrev b_:=@if_pos
abbrev qi:=@List.getElem?_append_left
abbrev pu:=@List.getElem?_set_ne
abbrev n7:=@Bool.false_eq_true
abbrev i_:=@Nat.le_refl
abbrev e_:=@if_neg
abbrev u_:=@List.mem_append_right
abbrev mx:=@List.mem_cons
abbrev nc:=@List.map_cons
abbrev qo:=@List.getElem?_map
abbrev xg:=@List.getElem?_eq_getElem
abbrev j_:=@wpAny_pure
abbrev mm:=@List.mem_map
abbrev m_:=@Heap.lt_size
abbrev tt:=@List.size_toArray
abbrev x6:=@List.getElem?_set_self
abbrev w_:=@Heap.get?_push_size
abbrev pf:=@Nat.le_trans
abbrev As:=@Option.map_eq_some_iff
abbrev Br:=@List.getElem?_append_right
abbrev xj:=@Nat.lt_of_lt_of_le
abbrev wj:=@List.mem_append
abbrev x_:=@List.mem_cons_self
abbrev y4:=@List.set_cons_zero
abbrev y6:=@List.set_cons_succ
abbrev wv:=@List.length_map
abbrev q7:=@List.map_map
abbrev AL:=@List.mem_of_getElem?
abbrev xk:=@List.nodup_cons
abbrev Bs:=@List.mem_append_left
abbrev BJ:=@Array.getElem?_toList
abbrev y_:=@List.mem_filter
abbrev ww:=@Nat.ne_of_lt
abbrev B6:=@List.mem_iff_getElem?
abbrev BP:=@List.length_append
abbrev BK:=@Int.toNat_natCast
abbrev wB:=@Nat.zero_le
abbrev BA:=@Bool.and_eq_true
abbrev Ce:=@List.getElem?_eq_none
abbrev B7:=@List.replicate_succ
abbrev AA:=@Bool.not_true
abbrev Fd:=@List.getD_eq_getElem?_getD
abbrev Cf:=@List.pairwise_cons
abbrev CV:=@List.take_of_length_le
abbrev AO:=@Nat.zero_add
abbrev B8:=@List.length_cons
abbrev BQ:=@List.mem_range
abbrev CW:=@List.length_filter_le
abbrev CH:=@List.map_congr_left
abbrev Cg:=@List.lookup_cons
abbrev F1:=@List.pairwise_iff_getElem
abbrev BR:=@Nat.lt_irrefl
abbrev BL:=@Nat.ne_of_gt
abbrev F2:=@List.getElem?_replicate
abbrev CY:=@List.mem_filterMap
abbrev Ch:=@Heap.size_push
abbrev CJ:=@List.not_mem_nil
abbrev CZ:=@List.append_assoc
abbrev C0:=@List.pairwise_map
abbrev JV:=@Option.bind_eq_some_iff
abbrev JW:=@List.getElem?_cons_zero
abbrev C1:=@Array.toList_inj
abbrev Kj:=@Array.getElem?_eq_some_iff
abbrev Fe:=@List.flatten_cons
abbrev Ff:=@Array.toList_push
abbrev F3:=@Array.toList_append
abbrev F4:=@Heap.get?_update_ne
abbrev F5:=@List.getD_cons_succ
abbrev F6:=@Bool.false_ne_true
abbrev Fg:=@Option.getD_some
abbrev C2:=@Int.natAbs_mul
abbrev F7:=@List.drop_sublist
abbrev F8:=@List.ext_getElem?
abbrev JX:=@Array.length_toList
abbrev Fh:=@Option.map_some
abbrev Fi:=@Array.size_push
abbrev Kk:=@List.drop_eq_nil_of_le
abbrev Kl:=@List.pairwise_lt_range
abbrev NJ:=@Int.fmod_eq_emod_of_nonneg
abbrev Km:=@List.length_replicate
abbrev Kn:=@Bool.beq_eq_decide_eq
abbrev NK:=@List.drop_eq_getElem_cons
abbrev Ko:=@List.mem_of_mem_drop
abbrev Kq:=@List.getElem?_zipIdx
abbrev Kr:=@List.getD_cons_zero
abbrev Ks:=@List.getElem?_range
abbrev JY:=@Option.bind_some
abbrev Kt:=@List.mem_singleton
abbrev Ku:=@Int.emod_lt_of_pos
abbrev Fj:=@Nat.le_of_lt
abbrev JZ:=@List.append_nil
abbrev NL:=@List.take_append_drop
abbrev Kv:=@List.nodup_append
abbrev Kw:=@Array.size_append
abbrev Kx:=@Bool.not_eq_true'
abbrev F9:=@List.sum_cons
abbrev ON:=@Array.perm_iff_toList_perm
abbrev OO:=@List.perm_ext_iff_of_nodup
abbrev NM:=@List.pairwise_append
abbrev NN:=@Array.toList_extract
abbrev OP:=@List.extract_eq_take_drop
abbrev Ky:=@List.length_take
abbrev NO:=@List.filter_eq_self
abbrev OQ:=@List.getElem?_take_of_lt
abbrev F_:=@List.map_nil
abbrev Kz:=@Nat.min_eq_left
abbrev OS:=@List.filter_cons_of_pos
abbrev OT:=@List.filter_cons_of_neg
abbrev KA:=@List.map_append
abbrev KC:=@Int.emod_nonneg
abbrev KD:=@Nat.mul_ne_zero
abbrev KG:=@Int.natCast_mul
abbrev KH:=@Int.mul_ne_zero
abbrev OU:=@Array.getElem?_extract
abbrev Ga:=@Nat.le_succ
abbrev NP:=@List.length_range
abbrev KI:=@List.drop_zero
abbrev OV:=@List.perm_append_comm
abbrev NQ:=@List.length_drop
abbrev NR:=@Nat.lt_succ_self
abbrev NS:=@List.cons_append
abbrev NT:=@List.nodup_range
abbrev KJ:=@List.map_drop
abbrev OW:=@List.filterMap_cons
abbrev NU:=@List.of_mem_zip
abbrev NV:=@List.nil_append
abbrev NW:=@List.find?_cons
abbrev NX:=@List.length_nil
abbrev Rw:=@Array.getElem?_eq_none_iff
abbrev OX:=@Nat.eq_zero_or_pos
abbrev OY:=@List.getElem?_drop
abbrev OZ:=@Bool.not_eq_false'
abbrev O0:=@List.zip_cons_cons
abbrev NY:=@Bool.not_false
abbrev O3:=@Nat.lt_succ_of_lt
abbrev Rx:=@Nat.gcd_pos_of_pos_right
abbrev O4:=@List.filter_congr
abbrev Ry:=@List.pairwise_mergeSort
abbrev Rz:=@List.length_eq_zero_iff
abbrev RB:=@List.pairwise_filterMap
abbrev RC:=@Int.eq_ofNat_of_zero_le
abbrev RD:=@List.getElem?_cons_succ
abbrev O5:=@List.perm_middle
abbrev O6:=@List.zipIdx_cons
abbrev O7:=@List.map_snd_zip
abbrev O9:=@Heap.size_update
abbrev O_:=@Nat.mul_lt_mul''
abbrev RE:=@Heap.get?_update_other
abbrev RF:=@List.range_succ_eq_map
abbrev RG:=@List.drop_of_length_le
abbrev RI:=@Heap.get?_update_self
abbrev Pa:=@List.length_set
abbrev NZ:=@Nat.lt_trans
abbrev Pc:=@List.forIn_cons
abbrev RJ:=@List.getElem?_toArray
abbrev Ph:=@List.range_succ
abbrev Pj:=@List.forIn_nil
abbrev Pk:=@List.take_succ
abbrev N0:=@List.map_id
abbrev Pm:=@List.any_cons
abbrev Po:=@Nat.le_of_eq
abbrev Pp:=@Nat.pow_succ
noncomputable section
local macro_rules | `(tactic| ext) => `(tactic| omega)
local instance (priority:=1) cdec (p:Prop):Decidable p:=Classical.propDecidable p
local macro_rules | `(⋯) => `(by lia)
open Option renaming some->J,none->Y
open Bool renaming true->I,false->T
local macro_rules | `(tactic| ac_rfl)=>`(tactic| first | exact λ_ _ _ _ _ _=>$(Lean.mkIdent `Mu) λ_=>rfl | exact λ_ _ _ _ _ _=>$(Lean.mkIdent `Oz) λ_ _=>rfl | exact λ_ _ _ _ _ _=>$(Lean.mkIdent `OA) λ_ _ _=>rfl | exact λ_ _ _ _ _ _=>$(Lean.mkIdent `ar4) λ_ _ _ _=>rfl | exact λ_ _ _ _ _ _=>$(Lean.mkIdent `ar5) λ_ _ _ _ _=>rfl)
local macro_rules | `(tactic| nofun)=>`(tactic| exact⟨rfl,rfl,rfl,by decide +kernel,rfl,by decide +kernel,by decide +kernel⟩)
namespace L2
open PySem.Spec PyProof.Rows
abbrev ql:=Sum Int Str
def sk:ql->Value->Bool
 |.inl k,v=>Value.isInt k v
 |.inr x,v=>Value.isStrOf x v
def Pq(w:World):ql->Int
 |.inl k=>hashInt k
 |.inr x=>hashStr w x
def bR:∀{k:ql}{v:Value},sk k v=I->(∃i t,k=Sum.inl i/\v=Value.int i t)\/(∃x t,k=Sum.inr x/\v=Value.str x t)
 |.inl i,v,h=>by
  obtain⟨t,e⟩:=Value.isInt_shape (k:=i) (v:=v) h;exact .inl ⟨i,t,rfl,e⟩
 |.inr x,v,h=>by
  obtain⟨t,e⟩:=Value.isStrOf_shape (x:=x) (v:=v) h;exact .inr ⟨x,t,rfl,e⟩
def zl(i:Int)(t:Tok):sk (.inl i) (.int i t)=I:=by simp[sk,Value.isInt]
def Gb(a b:Int):decide ((Sum.inl a:ql)=Sum.inl b)=(a==b):=by
 by_cases e:a=b
 .subst e;simp
 .have h:¬(Sum.inl a:ql)=Sum.inl b:=λq=>e (Sum.inl.inj q);rw[decide_eq_false h];exact(beq_eq_false_iff_ne.mpr e).symm
def Gc(a b:Str):decide ((Sum.inr a:ql)=Sum.inr b)=decide (a=b):=by
 by_cases e:a=b
 .subst e;simp
 .have h:¬(Sum.inr a:ql)=Sum.inr b:=λq=>e (Sum.inr.inj q);rw[decide_eq_false h,decide_eq_false e]
def Ge(a:Int)(b:Str):decide ((Sum.inl a:ql)=Sum.inr b)=T:=decide_eq_false (λq=>nomatch q)
def Gf(a:Str)(b:Int):decide ((Sum.inr a:ql)=Sum.inl b)=T:=decide_eq_false (λq=>nomatch q)
def fN(prog:Program)(w:World):PySem.KeyKind prog w ql where
 is:=sk
 hash:=Pq w
 inj:=λv a b z f=>by
  rcases bR z with⟨i,t,rfl,rfl⟩|⟨x,t,rfl,rfl⟩
  .rcases bR f with⟨j,u,rfl,e⟩|⟨y,u,rfl,e⟩
   .injection e with e1 _;rw[e1]
   .exact nomatch e
  .rcases bR f with⟨j,u,rfl,e⟩|⟨y,u,rfl,e⟩
   .exact nomatch e
   .injection e with e1 _;rw[e1]
 byValue:=λk v h=>by
  rcases bR h with⟨i,t,rfl,rfl⟩|⟨x,t,rfl,rfl⟩<;>rfl
 pyHash:=λhv h=>by
  rcases bR hv with⟨i,t,rfl,rfl⟩|⟨x,t,rfl,rfl⟩
  .exact wpAny_pyHash_int h
  .exact wpAny_pyHash_str h
 eqBool:=λl hv h=>by
  rcases bR l with⟨i,t,rfl,rfl⟩|⟨x,t,rfl,rfl⟩
  .rcases bR hv with⟨j,u,rfl,rfl⟩|⟨y,u,rfl,rfl⟩
   .rw[Gb]at h;exact wpAny_eqBool_int h
   .rw[Ge]at h;exact SeqAt.EqAt.int_str i t y u _ _ _ _ h
  .rcases bR hv with⟨j,u,rfl,rfl⟩|⟨y,u,rfl,rfl⟩
   .rw[Gf]at h;exact SeqAt.EqAt.str_int x t j u _ _ _ _ h
   .rw[Gc]at h;exact wpAny_eqBool_str h
 «strs»:=λk x t v h=>by
  rcases bR h with⟨i,u,rfl,e⟩|⟨y,u,rfl,e⟩
  .exact nomatch e
  .injection e with e1 _
   subst e1;cases v<;>rfl
def d3(prog:Program)(w:World)(i:Int)(t:Tok):(fN prog w).is (.inl i) (.int i t)=I:=zl i t
inductive V where
 |non | bl (b:Bool) | int (i:Int) | str (x:Str) | byt (b:Array UInt8) | flt (b:UInt64) | ref (a:Addr) | ty (n:String)
 deriving DecidableEq
def aJ:V->Value->Prop
 |.non,u=>u=Value.none
 |.bl b,u=>u=Value.bool b
 |.int i,u=>∃t,u=Value.int i t
 |.str x,u=>∃t,u=Value.str x t
 |.byt b,u=>∃t,u=Value.bytes b t
 |.flt b,u=>∃t,u=Value.float b t
 |.ref a,u=>u=Value.ref a
 |.ty n,u=>u=Value.type n
abbrev aG:List V->TW->Prop:=Paired aJ
def aG.length{xs:List V}{a:TW}(r:aG xs a):xs.length=a.length:=Paired.length r
def aG.get{xs:List V}{a:TW}{i:Nat}{x:V}(r:aG xs a)(e:xs[i]?=J x):∃u,a[i]?=J u/\aJ x u:=by
 induction r generalizing i with
 |nil=>cases e
 |cons r t f =>
  cases i with
  |zero=>cases e;exact⟨_,rfl,r⟩
  |succ i=>have z:=@f i e;exact z
def aG.set{x:V}{u:Value}(r:aJ x u){xs:List V}{f:TW}(i:Nat)(q:aG xs f):aG (xs.set i x) (f.set i u):=by
 induction q generalizing i with
 |nil=>exact .nil
 |cons a t j =>
  cases i with
  |zero=>exact .cons r t
  |succ i=>exact .cons a (j i)
def aG.append{xs ys:List V}{a f:TW}(r:aG xs a)(s:aG ys f):aG (xs++ys) (a++f):=by
 induction r with
 |nil=>exact s
 |cons r t i=>exact .cons r i
def aG.take{xs:List V}{f:TW}(n:Nat)(r:aG xs f):aG (xs.take n) (f.take n):=by
 induction r generalizing n with
 |nil=>cases n<;>exact .nil
 |cons a t i =>
  cases n with
  |zero=>exact .nil
  |succ n=>exact .cons a (i n)
def aG.drop{xs:List V}{f:TW}(n:Nat)(r:aG xs f):aG (xs.drop n) (f.drop n):=by
 induction r generalizing n with
 |nil=>cases n<;>exact .nil
 |cons a t i =>
  cases n with
  |zero=>exact .cons a t
  |succ n=>exact i n
def gG:Option V->TZ->Prop
 |some v,J u=>aJ v u
 |none,Y=>True
 |_,_=>False
def KV{κ:Type}:List (κ×V)->List (κ×Value)->Prop:=Paired λ(p:κ×V)(q:κ×Value)=>p.1=q.1/\aJ p.2 q.2
def kV:ql->V
 |.inl i=>.int i
 |.inr x=>.str x
inductive HO where
 |lst(xs:List V)
 |tup(xs:List V)
 |dK(kvs:List (ql×V)) | dT (kvs:List (List ql×V))
 |set(S:Int->Bool)(n:Nat)
 |ins(C dx:Addr)(fs:List (Str×V))
 |own(x:Addr)
 |xd(fs:List (Str×V))
 |met(f x:Addr)
 |rng(lo hi:Int)
 |frz(o:Obj)(u:HO)
 |tbl(ps:Array Value)
 |ext(φ:Heap->Prop)
abbrev Hp:=Addr->Option HO
def mf(H:Hp)(a:Addr)(o:HO):Hp:=λb=>if b=a then J o else H b
def bW{H:Hp}{a:Addr}{o:HO}:mf H a o a=J o:=by unfold mf;rw[b_ rfl]
def aV{H:Hp}{a b:Addr}{o:HO}(h:b≠a):mf H a o b=H b:=by unfold mf;rw[e_ h]
def bG{H:Hp}{a b:Addr}{o:HO}(h:H a=J o)(f:H b=Y):a≠b:=by intro e;subst e;rw[h]at f;cases f
def iP(h:Heap)(a:Addr)(f:Array Value):Prop:=∃o,h.get? a=J o/\o.cls=.type "tuple"/\(∃n,o.data=.seq f n)/\o.dict=Y
def iP.tup{h:Heap}{a:Addr}{f:Array Value}(t:iP h a f):IsTup h a f:=let⟨o,e,c,d,_⟩:=t;⟨o,e,c,d⟩
def iP.lt{h:Heap}{a:Addr}{f:Array Value}(t:iP h a f):a<h.objs.size:=t.tup.lt
def iP.new(h:Heap)(a:Array Value):iP (h.push { cls:=.type "tuple",data:=.seq a}) h.objs.size a:=⟨_,w_ h rfl,rfl,⟨_,rfl⟩,rfl⟩
section
variable(P:Program)(w:World)
def ObjOk(H:Hp)(h:Heap)(a:Addr):HO->Prop
 |.lst xs=>xs.length<=sizeLine/\∃(j:TW) (n:Nat),aG xs j/\h.get? a=J { cls:=.type "list",data:=.seq j.toArray n}
 |.tup xs=>xs.length<=sizeLine/\∃j:TW,aG xs j/\iP h a j.toArray
 |.dK i=>i.length<=sizeLine/\(a==sysModules)=T/\∃B,KV i B/\h.DictOf (fN P w) a B
 |.dT i=>i.length<=sizeLine/\(a==sysModules)=T/\∃xs:List (List ql×Addr×Value),
   Paired (λ(p:List ql×V)(q:List ql×Addr×Value)=>p.1=q.1/\H q.2.1=J (.tup (p.1.map kV))/\aJ p.2 q.2.2) i xs /\
   ∃o F M,h.get? a=J o/\o.ExactDict/\o.data=.dict F M/\F.toList=xs.map (entryOfKey (tupleKind (fN P w)))/\(xs.map (·.1)).Nodup
 |.set S n=>h.SetOf (intKind P w) a S n
 |.ins C y fs=>H y=J (.own a)/\fs.length<=1000/\y≠a/\h.get? a=J (PySem.W.instObj C y) /\
   ∃l,h.Ns1 y l/\(∀f,gG (fs.lookup f) (l f))/\PySem.Within l (fs.map (·.1))
 |.own _=>∃o,h.get? a=J o
 |.xd fs=>∃l,h.Ns1 a l/\∀f,gG (fs.lookup f) (l f)
 |.rng lo G=>∃t u v,h.get? a=J { cls:=.type "range",data:=.fields #[.int lo t,.int G u,.int 1 v]}
 |.frz o u=>h.get? a=J o/\ObjOk H h a u
 |.tbl L=>h.get? a=J { cls:=.none,data:=.fields L}
 |.met f x=>h.get? a=J (PySem.W.methodObj (.ref f) (.ref x))
 |.ext φ=>φ h/\(∃o,h.get? a=J o)/\∀z E:Heap,φ z->(∀o,z.get? a=J o->E.get? a=J o)->φ E
def HOk(H:Hp)(h:Heap):Prop:=∀a o,H a=J o->ObjOk P w H h a o
end
section
variable{P:Program}{w:World}{H H':Hp}{h h':Heap}{a:Addr}{o:HO}
def ObjOk.lt(x:ObjOk P w H h a o):a<h.objs.size:=by
 cases o with
 |lst xs=>obtain⟨_,_,_,_,e⟩:=x;exact m_ e
 |tup xs=>obtain⟨_,_,_,p⟩:=x;exact p.lt
 |dK i=>obtain⟨_,_,_,_,o,_,_,e,_⟩:=x;exact m_ e
 |dT i=>obtain⟨_,_,_,_,o,_,_,e,_⟩:=x;exact m_ e
 |set S n=>obtain⟨o,_,_,_,e,_⟩:=x;exact m_ e
 |ins C l fs=>obtain⟨_,_,_,e,_⟩:=x;exact m_ e
 |own y=>obtain⟨_,e⟩:=x;exact m_ e
 |xd fs=>obtain⟨_,⟨_,_,_,e,_⟩,_⟩:=x;exact m_ e
 |rng lo j=>obtain⟨_,_,_,e⟩:=x;exact m_ e
 |frz B u=>obtain⟨e,_⟩:=x;exact m_ e
 |tbl z=>exact m_ (show h.get? a=J _ from x)
 |met f y=>exact m_ (show h.get? a=J _ from x)
 |ext φ=>obtain⟨_,⟨_,e⟩,_⟩:=x;exact m_ e
def Paired.mapP{α β:Type}{F G:α->β->Prop}{i:List α}{j:List β}(r:Paired F i j)(f:∀a b,F a b->G a b):Paired G i j:=by
 induction r with
 |nil=>exact .nil
 |cons r t l=>exact .cons (f _ _ r) l
def ObjOk.stay(x:ObjOk P w H h a o)(k:∀b u,(b=a\/H b=J (.own a))->h.get? b=J u->h'.get? b=J u)(Q:∀b,H b=J (.own a)->H' b=J (.own a))(R:∀b xs,H b=J (.tup xs)->H' b=J (.tup xs)):ObjOk P w H' h' a o:=by
 induction o with
 |lst xs=>obtain⟨z,B,n,r,e⟩:=x;exact⟨z,B,n,r,k _ _ (.inl rfl) e⟩
 |tup xs=>obtain⟨z,B,r,i,e,c⟩:=x;exact⟨z,B,r,i,k _ _ (.inl rfl) e,c⟩
 |dK F=>obtain⟨z,y,M,r,i,l,j,e,c⟩:=x;exact⟨z,y,M,r,i,l,j,k _ _ (.inl rfl) e,c⟩
 |dT F =>
  obtain⟨z,y,xs,r,i,l,j,e,c⟩:=x;exact⟨z,y,xs,Paired.mapP r λp q z=>⟨z.1,R _ _ z.2.1,z.2.2⟩,i,l,j,k _ _ (.inl rfl) e,c⟩
 |set S n=>obtain⟨i,l,j,t,e,c⟩:=x;exact⟨i,l,j,t,k _ _ (.inl rfl) e,c⟩
 |ins C W fs =>
  obtain⟨d,z,ne,e,G,⟨E,l,j,e2,c⟩,r⟩:=x;exact⟨Q _ d,z,ne,k _ _ (.inl rfl) e,G,⟨E,l,j,k _ _ (.inr d) e2,c⟩,r⟩
 |own y=>obtain⟨i,e⟩:=x;exact⟨i,k _ _ (.inl rfl) e⟩
 |xd fs=>obtain⟨G,⟨E,l,j,e,c⟩,r⟩:=x;exact⟨G,⟨E,l,j,k _ _ (.inl rfl) e,c⟩,r⟩
 |rng lo U=>obtain⟨t,u,v,e⟩:=x;exact⟨t,u,v,k _ _ (.inl rfl) e⟩
 |frz i u O=>obtain⟨e,q⟩:=x;exact⟨k _ _ (.inl rfl) e,O q⟩
 |tbl L =>
  have e:h.get? a=J { cls:=.none,data:=.fields L}:=x;show h'.get? a=J { cls:=.none,data:=.fields L};exact k a _ (.inl rfl) e
 |met f y =>
  have e:h.get? a=J (PySem.W.methodObj (.ref f) (.ref y)):=x;show h'.get? a=J (PySem.W.methodObj (.ref f) (.ref y));exact k a _ (.inl rfl) e
 |ext φ=>obtain⟨p,⟨o,e⟩,st⟩:=x;exact⟨st _ _ p λo q=>k _ _ (.inl rfl) q,⟨o,k _ _ (.inl rfl) e⟩,st⟩
def HOk.lt(x:HOk P w H h)(e:H a=J o):a<h.objs.size:=(x a o e).lt
def HOk.fresh(x:HOk P w H h)(e:h.objs.size<=a):H a=Y:=by
 cases q:H a with
 |none=>rfl
 |some u=>exact absurd (xj (x.lt q) e) (BR _)
def HOk.kept(x:HOk P w H h)(k:∀b u,h.get? b=J u->h'.get? b=J u):HOk P w H h':=λa o e =>
 (x a o e).stay (λb u _ q=>k b u q) (λ_ q=>q) λ_ _ q=>q
def HOk.laid(x:HOk P w H h)(k:∀b u,h.get? b=J u->h'.get? b=J u)(j:h.objs.size<=a)(new:ObjOk P w (mf H a o) h' a o):HOk P w (mf H a o) h':=λb u e=>by
 have i:=x.fresh j;by_cases f:b=a
 .subst f;rw[bW]at e;cases e;exact new
 .rw[aV f]at e;exact(x b u e).stay (λc v _ q=>k c v q) (λc q=>by rw[aV (bG q i)];exact q) λc xs q=>by rw[aV (bG q i)];exact q
end
def Rd(H:Hp)(a:Addr)(u:HO):Prop:=H a=J u\/∃o,H a=J (.frz o u)
def Rd.ok{P:Program}{w:World}{H:Hp}{h:Heap}{a:Addr}{u:HO}(r:Rd H a u)(x:HOk P w H h):ObjOk P w H h a u:=by
 rcases r with r|⟨o,r⟩
 .exact x a u r
 .obtain⟨_,q⟩:=x a _ r;exact q
def N1:Option HO->Prop
 |some (.lst _)=>True
 |some (.dK _)=>True
 |some (.dT _)=>True
 |some (.set _ _)=>True
 |some (.ins _ _ _)=>True
 |some (.ext _)=>True
 |_=>False
section
variable{P:Program}{w:World}{H:Hp}{h h':Heap}{x e:Addr}{o':HO}
def HOk.write(ok:HOk P w H h)(mu:N1 (H x))(E:e=x\/H e=J (.own x))(k:∀b u,b≠e->h.get? b=J u->h'.get? b=J u)(B:∃u,h'.get? e=J u)(new:ObjOk P w (mf H x o') h' x o'):HOk P w (mf H x o') h':=λb u q=>by
 have f:∀c y,H c=J (.own y)->c≠x:=λc y r z=>by subst z;rw[r]at mu;exact mu
 have i:∀c xs,H c=J (.tup xs)->c≠x:=λc xs r z=>by subst z;rw[r]at mu;exact mu
 by_cases l:b=x
 .subst l;rw[bW]at q;cases q;exact new
 .rw[aV l]at q;by_cases a:b=e
  .have C:H b=J (.own x):=by
    rcases E with z|z
    .exact absurd (a.trans z) l
    .rw[a];exact z
   rw[q]at C;cases C;obtain⟨v,hv⟩:=B;exact⟨v,by rw[a];exact hv⟩
  .refine (ok b u q).stay (λc v j r=>k c v ?_ r) (λc r=>by rw[aV (f c b r)];exact r) λc xs r=>by rw[aV (i c xs r)];exact r
   rcases j with rfl|j
   .exact a
   .rintro rfl;rcases E with z|z
    .exact f c b j z
    .rw[j]at z;cases z;exact l rfl
end
structure Un(fs ex:TV)(H H':Hp)(h h':Heap):Prop where
 keep:∀b o,h.get? b=J o->H b=Y->b∉fs->b∉ex->h'.get? b=J o
 slot:∀b o,h.get? b=J o->H b=Y->b∈fs->b∉ex->∃sl,h'.get? b=J { o with slots:=sl}
 free:∀b o,h.get? b=J o->H b=Y->b∉ex->H' b=Y
 there:∀b o,h.get? b=J o->b∉ex->∃o',h'.get? b=J o'
 tups:∀b xs,H b=J (.tup xs)->H' b=J (.tup xs)
 frzs:∀b o u,H b=J (.frz o u)->H' b=J (.frz o u)
 tbls:∀b ps,H b=J (.tbl ps)->∃more,H' b=J (.tbl (ps++more))
section
variable{fs fs' ex ex':TV}{H H1 H2:Hp}{h h1 h2 h':Heap}{a x e:Addr}{o:HO}
def Un.any(u:Un fs ex H H1 h h1){b:Addr}{f:Obj}(q:h.get? b=J f)(n:H b=Y)(i:b∉ex):∃l,h1.get? b=J { f with slots:=l}:=by
 by_cases j:b∈fs
 .exact u.slot b f q n j i
 .exact⟨f.slots,u.keep b f q n j i⟩
def Un.kept(k:∀b u,h.get? b=J u->h'.get? b=J u):Un fs ex H H h h' :=
 ⟨λb f q _ _ _=>k b f q,λb f q _ _ _=>⟨f.slots,k b f q⟩,λ_ _ _ n _=>n,λb f q _=>⟨f,k b f q⟩,λ_ _ q=>q,λ_ _ _ q=>q,λ_ i q=>⟨#[],by rw[q];simp⟩⟩
def Un.refl:Un fs ex H H h h:=Un.kept λ_ _ q=>q
def Un.laid(k:∀b u,h.get? b=J u->h'.get? b=J u)(i:h.objs.size<=a)(f:H a=Y):Un fs ex H (mf H a o) h h' where
 keep:=λb u q _ _ _=>k b u q
 slot:=λb u q _ _ _=>⟨u.slots,k b u q⟩
 free:=λb u q n _=>by rw[aV (ww (xj (m_ q) i))];exact n
 there:=λb u q _=>⟨u,k b u q⟩
 tups:=λb xs q=>by rw[aV (bG q f)];exact q
 frzs:=λb u xs q=>by rw[aV (bG q f)];exact q
 tbls:=λb j q=>⟨#[],by rw[aV (bG q f),q];simp⟩
def Un.write(mu:N1 (H x))(C:e=x\/H e=J (.own x))(k:∀b u,b≠e->h.get? b=J u->h'.get? b=J u)(i:∃u,h'.get? e=J u):Un fs ex H (mf H x o) h h':=by
 have l:∀b,H b=Y->b≠x:=λb n z=>by subst z;rw[n]at mu;exact mu
 have y:∀b,H b=Y->b≠e:=λb n z=>by
  subst z;rcases C with r|r
  .exact l b n r
  .rw[n]at r;cases r
 have j:∀b u,H b=J u->¬N1 (J u)->b≠x:=λb u q B z=>by subst z;rw[q]at mu;exact B mu
 refine⟨λb u q n _ _=>k b u (y b n) q,λb u q n _ _=>⟨u.slots,k b u (y b n) q⟩,λb u q n _=>by rw[aV (l b n)];exact n,λb u q _=>?_,
  λb xs q=>by rw[aV (j b _ q λz=>z)];exact q,λb u xs q=>by rw[aV (j b _ q λz=>z)];exact q,λb E q=>⟨#[],by rw[aV (j b _ q λz=>z),q];simp⟩⟩
 by_cases f:b=e
 .subst f;exact i
 .exact⟨u,k b u f q⟩
end
def N2(h:Heap)(H:Hp):TV:=(List.range h.objs.size).filter λa=>(H a).isSome
def ku(h:Heap)(H:Hp):Heap:=PySem.W.hideAll h (N2 h H)
def zx(h:Heap)(H:Hp):(ku h H).objs.size=h.objs.size:=PySem.W.hideAll_size _ _
def zP{h:Heap}{H:Hp}{b:Addr}{o:Obj}(e:h.get? b=J o)(n:H b=Y):(ku h H).get? b=J o :=
 PySem.W.hideAll_get _ e λa=>by
  have q:(H b).isSome=I:=(y_.mp a).2;rw[n]at q;simp at q
def C3{h:Heap}{H:Hp}{b:Addr}{o:Obj}(e:(ku h H).get? b=J o):h.get? b=J o/\H b=Y:=by
 have a:h.get? b=J o:=PySem.W.of_hideAll (N2 h H) e;refine⟨a,?_⟩
 cases q:H b with
 |none=>rfl
 |some x =>
  have f:b∈N2 h H:=y_.mpr ⟨BQ.mpr (m_ a),by simp[q]⟩;have z:(ku h H).get? b=Y:=PySem.W.hideAll_none (N2 h H) f;rw[z]at e;cases e
structure Mod(K:hH)(mg:TH)(base:Heap):Prop where
 kin:K.In base
 glob:base.Ns mainGlobals mg
 blt:∃mb,base.Ns builtinsNs mb/\∀x:Str,x≠"__name__"->mb x=bootBuiltins x
 nolimit:base.NoLimit
 seer:base.NoSeer
structure Cx where
 prog:Program
 w:World
 K:hH
 mg:Str->TZ
 base:Heap
 A:Around
 N:TM
 s₀:Shared
 H₀:Hp
 env:Env
 outer:List Env
 stack:List Env
 ex:TV
 fn:Str->Bool
 calm:Bool
 pn:TX
 xe:Value->Shared->Prop
def zK(l:List Env):TV:=l.filterMap (·.frame)
abbrev Cx.fs(X:Cx):TV:=zK X.outer
def N3(a:Scope)(x:Str):Prop:=a.names.lookup x=J .local\/a.names.lookup x=J .cell\/a.names.lookup x=J .free
def Loc(a:Scope)(x:Str):Prop:=a.names.lookup x=J .local\/a.names.lookup x=J .cell
def Look(env:Env)(h:Heap)(m:TH)(x:Str)(u:Value):Prop :=
 (env.kindOf x=J .local/\m x=J u)\/((env.kindOf x=J .cell\/env.kindOf x=J .free)/\∃c,env.cells.lookup x=J c/\h.IsCell c (J u))
structure Cx.Ok(X:Cx):Prop where
 mod:Mod X.K X.mg X.base
 kind:X.env.scope.kind=.function
 glob:X.env.globals=mainGlobals
 blt:X.env.builtins=builtinsNs
 above:X.s₀.heap.objs.size<=X.env.locals
 inj:∀x y c,X.env.cells.lookup x=J c->X.env.cells.lookup y=J c->x=y
 has:∀x,(X.env.kindOf x=J .cell\/X.env.kindOf x=J .free)->∃c,X.env.cells.lookup x=J c
 cab:∀x c,X.fn x=I->X.env.cells.lookup x=J c->X.s₀.heap.objs.size<=c
 hd:X.calm=I->X.A.handled=Y
 frames:X.A.frames=J X.stack
 stk:X.stack=X.outer\/(X.stack=X.env::X.outer/\X.env.frame=J X.env.locals)
 exf:∀b∈X.ex,b≠X.env.locals/\∀x c,X.env.cells.lookup x=J c->c≠b
 bs:∀b o,X.base.get? b=J o->X.s₀.heap.get? b=J o/\X.H₀ b=Y
 bsz:X.base.objs.size<=X.s₀.heap.objs.size
 noex:∀b o,X.base.get? b=J o->b∉X.ex
 exfs:∀b∈X.ex,b∉X.fs
 funs:X.s₀.heap.FunFrames X.base X.outer
 frf:∀b∈X.fs,X.H₀ b=Y
 tree:X.prog.given.tree=Y
 top:∃e l,X.stack=e::l/\e.scope.isGenerator=T/\e.scope.isCoroutine=T/\e.builtins=builtinsNs/\e.globals=mainGlobals
structure Inv(X:Cx)(Lz:TX)(Z:List (Option V))(H:Hp)(s:Shared):Prop where
 ok:X.Ok
 os:s.os=X.s₀.os
 bare:AllBare s.gens
 base:Un X.fs X.ex X.H₀ H X.s₀.heap s.heap
 loc:∃m,s.heap.Ns X.env.locals m/\∀(i:Nat)(x:Str)(v:V),X.N[i]?=J x->Z[i]?=J (J v)->N3 X.env.scope x->∃u,aJ v u/\Look X.env s.heap m x u
 cell:∀x c,X.env.cells.lookup x=J c->∃v,s.heap.IsCell c v
 free:H X.env.locals=Y
 freeC:∀x c,X.env.cells.lookup x=J c->H c=Y
 pin:∀p∈X.pn++Lz,s.heap.get? p.1=J p.2/\H p.1=Y/\p.1≠X.env.locals/\p.1∉X.fs/\∀v,p.2.data≠.cell v
 hok:HOk X.prog X.w H s.heap
 len:Z.length=X.N.length
section
variable{X:Cx}{Lz:List (Addr × Obj)}{Z:List (Option V)}{H H':Hp}{s:Shared}{h':Heap}
def Cx.Ok.nofr(ok:X.Ok){b:Addr}{o:Obj}(e:X.base.get? b=J o):b∉X.fs:=λa=>by
 have:=(ok.funs.mem a).1
 rw[e]at this;cases this
def Inv.bs(a:Inv X Lz Z H s):∀b o,X.base.get? b=J o->s.heap.get? b=J o/\H b=Y:=λb o e =>
 ⟨a.base.keep b o (a.ok.bs b o e).1 (a.ok.bs b o e).2 (a.ok.nofr e) (a.ok.noex b o e),a.base.free b o (a.ok.bs b o e).1 (a.ok.bs b o e).2 (a.ok.noex b o e)⟩
def Inv.bk(a:Inv X Lz Z H s):∀b o,X.base.get? b=J o->s.heap.get? b=J o:=λb o e=>(a.bs b o e).1
def Inv.mod(a:Inv X Lz Z H s):Mod X.K X.mg X.base:=a.ok.mod
def Inv.kIn(a:Inv X Lz Z H s):X.K.In s.heap:=a.ok.mod.kin.keeps a.bk
def Inv.nolimit(a:Inv X Lz Z H s):s.heap.NoLimit:=a.ok.mod.nolimit.keeps a.bk
def Inv.lt(a:Inv X Lz Z H s):X.env.locals<s.heap.objs.size:=let⟨_,f,_⟩:=a.loc;f.lt
def Inv.sz(a:Inv X Lz Z H s):X.s₀.heap.objs.size<=s.heap.objs.size:=pf a.ok.above (Fj a.lt)
def Inv.nofs(f:Inv X Lz Z H s){a:Addr}(h:s.heap.objs.size<=a):a∉X.fs:=λj=>by
 obtain⟨_,o,i,_⟩:=f.ok.funs.mem j;exact absurd (xj (m_ i) (pf f.sz h)) (BR _)
def Inv.cne(a:Inv X Lz Z H s):∀x c,X.env.cells.lookup x=J c->c≠X.env.locals:=λx c e z=>by
 obtain⟨v,o,j,hd⟩:=a.cell x c e;obtain⟨m,⟨u,y,l,i,f,_⟩,_⟩:=a.loc;rw[z,i]at j;cases j;rw[f]at hd;cases hd
def Inv.funs(a:Inv X Lz Z H s):s.heap.FunFrames X.base X.outer:=by
 have all:∀(l:List Env),(∀b∈zK l,b∈X.fs)->X.s₀.heap.FunFrames X.base l->s.heap.FunFrames X.base l:=by
  intro l
  induction l with
  |nil=>intro _ _;trivial
  |cons env r u =>
   intro i C;obtain⟨y,⟨L,o,hf,E,B,hd⟩,j⟩:=C;have hL:L∈X.fs:=i L (by unfold zK;rw[OW,hf];exact x_);obtain⟨F,e⟩:=a.base.slot L o B (a.ok.frf L hL) hL λz=>a.ok.exfs L z hL;exact⟨y,⟨L,_,hf,E,e,hd⟩,u (λb f=>i b (by unfold zK;rw[OW,hf];exact l7 _ f)) j⟩
 exact all X.outer (λ_ f=>f) a.ok.funs
def Inv.stack(a:Inv X Lz Z H s):s.heap.FunFrames X.base X.stack:=by
 rcases a.ok.stk with e|⟨e,hf⟩
 .rw[e];exact a.funs
 .rw[e];obtain⟨m,f,_⟩:=a.loc;refine .cons (by rw[a.ok.kind];decide) hf f ?_ a.funs;exact Heap.get?_none_of_le (pf a.ok.bsz a.ok.above)
def Inv.stkSub(f:Inv X Lz Z H s):∀b∈zK X.stack,b∈X.env.locals::X.fs:=λb a=>by
 rcases f.ok.stk with e|⟨e,hf⟩
 .rw[e]at a;exact l7 _ a
 .rw[e]at a;unfold zK at a;rw[OW,hf]at a;exact a
def Inv.stkFree(a:Inv X Lz Z H s):∀b∈zK X.stack,H b=Y:=λb f=>by
 rcases mx.mp (a.stkSub b f)with e|f
 .rw[e];exact a.free
 .obtain⟨_,o,i,_⟩:=a.ok.funs.mem f;exact a.base.free b o i (a.ok.frf b f) λz=>a.ok.exfs b z f
def Inv.step{g':Array GenState}{t':Nat}{d':Drawn}{ch:TV}(a:Inv X Lz Z H s)(y:∀b∈ch,(b∈X.ex\/X.s₀.heap.objs.size<=b)/\b≠X.env.locals/\(∀x c,X.env.cells.lookup x=J c->c≠b)/\∀p∈X.pn++Lz,p.1≠b)(keep:∀b o,b≠X.env.locals->b∉X.fs->b∉ch->s.heap.get? b=J o->H b=Y->h'.get? b=J o)(slot:∀b o,b≠X.env.locals->b∈X.fs->b∉ch->s.heap.get? b=J o->H b=Y->∃P,h'.get? b=J { o with slots:=P})(free:∀b o,b∉ch->s.heap.get? b=J o->H b=Y->H' b=Y)(there:∀b o,b∉ch->s.heap.get? b=J o->∃G,h'.get? b=J G)(tups:∀b xs,H b=J (.tup xs)->H' b=J (.tup xs))(frzs:∀b o u,H b=J (.frz o u)->H' b=J (.frz o u))(tbls:∀b O,H b=J (.tbl O)->∃M,H' b=J (.tbl (O++M)))(ns:∀m,s.heap.Ns X.env.locals m->h'.Ns X.env.locals m)(hok:HOk X.prog X.w H' h')(W:AllBare g'):
  Inv X Lz Z H' { s with heap:=h',gens:=g',drawn:=d',toks:=t'}:=by
 have L:∀b o,X.s₀.heap.get? b=J o->b≠X.env.locals:=λb o e=>ww (xj (m_ e) a.ok.above);have C:∀b o,X.s₀.heap.get? b=J o->b∉X.ex->b∉ch:=λb o e f E=>by
  rcases(y b E).1 with z|z
  .exact f z
  .exact absurd (xj (m_ e) z) (BR _)
 have B:∀x c,X.env.cells.lookup x=J c->∀v,s.heap.IsCell c v->h'.IsCell c v:=λx c e v ⟨o,F,hd⟩=>by
  have j:c∉ch:=λz=>(y c z).2.2.1 x c e rfl;by_cases R:c∈X.fs
  .obtain⟨P,q⟩:=slot c o (a.cne x c e) R j F (a.freeC x c e);exact⟨_,q,hd⟩
  .exact⟨o,keep c o (a.cne x c e) R j F (a.freeC x c e),hd⟩
 refine⟨a.ok,a.os,W,⟨λb o e n E f=>?_,λb o e n E f=>?_,λb o e n f=>?_,λb o e f=>?_,λb xs e=>tups b xs (a.base.tups b xs e),λb o xs e=>frzs b o xs (a.base.frzs b o xs e),λb O e=>?_⟩,?_,λx c e=>?_,?_,λx c e=>?_,λp U=>?_,hok,a.len⟩
 .exact keep b o (L b o e) E (C b o e f) (a.base.keep b o e n E f) (a.base.free b o e n f)
 .obtain⟨P,e1⟩:=a.base.slot b o e n E f;obtain⟨Q,e2⟩:=slot b _ (L b o e) E (C b o e f) e1 (a.base.free b o e n f);exact⟨Q,e2⟩
 .obtain⟨G,e1⟩:=a.base.there b o e f;exact free b G (C b o e f) e1 (a.base.free b o e n f)
 .obtain⟨G,e1⟩:=a.base.there b o e f;exact there b G (C b o e f) e1
 .obtain⟨m1,e1⟩:=a.base.tbls b O e;obtain⟨m2,e2⟩:=tbls b _ e1;exact⟨m1++m2,by rw[e2,Array.append_assoc]⟩
 .obtain⟨m,hn,hl⟩:=a.loc;refine⟨m,ns m hn,λi x v e1 e2 e3=>?_⟩;obtain⟨u,r,l⟩:=hl i x v e1 e2 e3;refine⟨u,r,?_⟩;rcases l with l|⟨k,c,e,z⟩
  .exact .inl l
  .exact .inr ⟨k,c,e,B x c e _ z⟩
 .obtain⟨v,z⟩:=a.cell x c e;exact⟨v,B x c e v z⟩
 .obtain⟨m,⟨o,_,_,F,_⟩,_⟩:=a.loc;exact free _ o (λz=>(y _ z).2.1 rfl) F a.free
 .obtain⟨v,o,F,hd⟩:=a.cell x c e;exact free c o (λz=>(y c z).2.2.1 x c e rfl) F (a.freeC x c e)
 .obtain⟨e,n,ne,S,d⟩:=a.pin p U;have j:p.1∉ch:=λz=>(y p.1 z).2.2.2 p U rfl;exact⟨keep p.1 p.2 ne S j e n,free p.1 p.2 j e n,ne,S,d⟩
def Inv.un{t':Nat}(a:Inv X Lz Z H s)(u:Un X.fs [] H H' s.heap h')(hok:HOk X.prog X.w H' h'):Inv X Lz Z H' { s with heap:=h',toks:=t'}:=by
 obtain⟨m,⟨o,L,G,y,r⟩,_⟩:=id a.loc;obtain⟨E,hL⟩:=u.any y a.free (by simp)
 exact a.step (g':=s.gens) (d':=s.drawn) (ch:=[]) (λ_ z=>nomatch z) (λb o _ j _ e n=>u.keep b o e n j (by simp)) (λb o _ j _ e n=>u.slot b o e n j (by simp)) (λb o _ e n=>u.free b o e n (by simp)) (λb o _ e=>u.there b o e (by simp)) u.tups u.frzs u.tbls (λM B=>by
  obtain⟨F,l,i,f,C⟩:=B;rw[y]at f;cases f
  exact⟨_,l,i,hL,C⟩) hok a.bare
def Inv.call{g':Array GenState}{t':Nat}{d':Drawn}{ch:TV}(a:Inv X Lz Z H s)(u:Un (zK X.stack) ch H H' s.heap h')(hok:HOk X.prog X.w H' h')(C:AllBare g')(i:∀b∈ch,(b∈X.ex\/X.s₀.heap.objs.size<=b)/\b≠X.env.locals/\(∀x c,X.env.cells.lookup x=J c->c≠b)/\∀p∈X.pn++Lz,p.1≠b):
  Inv X Lz Z H' { s with heap:=h',gens:=g',drawn:=d',toks:=t'}:=by
 obtain⟨m,⟨o,P,O,B,r⟩,_⟩:=id a.loc;obtain⟨L,hL⟩:=u.any B a.free λz=>(i _ z).2.1 rfl
 exact a.step (ch:=ch) i (λb o hL F f e n=>u.keep b o e n (λz=>(mx.mp (a.stkSub b z)).elim hL F) f) (λb o _ _ f e n=>u.any e n f) (λb o f e n=>u.free b o e n f) (λb o f e=>u.there b o e f) u.tups u.frzs u.tbls (λQ E=>by
  obtain⟨M,y,l,j,G⟩:=E;rw[B]at j;cases j
  exact⟨_,y,l,hL,G⟩) hok C
def Inv.turned{t':Nat}{it:Addr}(f:Inv X Lz Z H s)(k:∀b o,b≠it->s.heap.get? b=J o->h'.get? b=J o)(L:H it=Y)(hL:it≠X.env.locals)(l:it∈X.ex\/X.s₀.heap.objs.size<=it)(C:∀x c,X.env.cells.lookup x=J c->c≠it)(G:∀p∈X.pn++Lz,p.1≠it):Inv X Lz Z H { s with heap:=h',toks:=t'}:=by
 have i:∀b u,H b=J u->b≠it:=λb u e z=>by rw[z,L]at e;cases e
 refine f.step (g':=s.gens) (d':=s.drawn) (ch:=[it]) (λb y=>?_) (λb o _ _ a e _=>k b o (λz=>a (by simp[z])) e) (λb o _ _ a e _=>⟨o.slots,k b o (λz=>a (by simp[z])) e⟩) (λ_ _ _ _ n=>n)
  (λb o a e=>⟨o,k b o (λz=>a (by simp[z])) e⟩) (λ_ _ e=>e) (λ_ _ _ e=>e) (λb M e=>⟨#[],by rw[e];simp⟩) (λm j=>?_) (λb u e=>?_) f.bare
 .have e:b=it:=by simpa using y
  subst e;exact⟨l,hL,C,G⟩
 .obtain⟨o,F,B,E,r⟩:=j;exact⟨o,F,B,k _ o (Ne.symm hL) E,r⟩
 .refine (f.hok b u e).stay (λc v a q=>k c v ?_ q) (λ_ q=>q) λ_ _ q=>q;rcases a with z|z
  .rw[z];exact i b u e
  .exact i c _ z
def Inv.tok(a:Inv X Lz Z H s)(t:Nat):Inv X Lz Z H { s with toks:=t}:=a.un (h':=s.heap) (t':=t) Un.refl a.hok
def Inv.kept{t':Nat}(a:Inv X Lz Z H s)(k:∀b u,s.heap.get? b=J u->h'.get? b=J u):Inv X Lz Z H { s with heap:=h',toks:=t'}:=a.un (Un.kept k) (a.hok.kept k)
def Inv.laid{a:Addr}{o:HO}{t':Nat}(f:Inv X Lz Z H s)(k:∀b u,s.heap.get? b=J u->h'.get? b=J u)(i:s.heap.objs.size<=a)(new:ObjOk X.prog X.w (mf H a o) h' a o):
  Inv X Lz Z (mf H a o) { s with heap:=h',toks:=t'}:=f.un (Un.laid k i (f.hok.fresh i)) (f.hok.laid k i new)
def Inv.write{x e:Addr}{o:HO}{j:Nat}(f:Inv X Lz Z H s)(mu:N1 (H x))(i:e=x\/H e=J (.own x))(k:∀b u,b≠e->s.heap.get? b=J u->h'.get? b=J u)(a:∃u,h'.get? e=J u)(new:ObjOk X.prog X.w (mf H x o) h' x o):Inv X Lz Z (mf H x o) { s with heap:=h',toks:=j}:=f.un (Un.write mu i k a) (f.hok.write mu i k a new)
def Inv.pins_of{f:TX}(a:Inv X Lz Z H s)(h:∀p∈f,s.heap.get? p.1=J p.2/\H p.1=Y/\p.1≠X.env.locals/\p.1∉X.fs/\∀v,p.2.data≠.cell v):Inv X f Z H s :=
 ⟨a.ok,a.os,a.bare,a.base,a.loc,a.cell,a.free,a.freeC,λp i=>(wj.mp i).elim (λz=>a.pin p (Bs _ z)) (h p),a.hok,a.len⟩
def tL{N:TM}(hN:N.Nodup){i j:Nat}{x:Str}(a:N[i]?=J x)(b:N[j]?=J x):i=j:=by obtain⟨f,e1⟩:=o_.mp a;obtain⟨l,e2⟩:=o_.mp b;exact(List.getElem_inj hN).mp (e1.trans e2.symm)
def xO{M:Model}{A:Around}{E:TF}{i:Nat}{x:Str}{v:V}{u:Value}{Q:Unit->Shared->Prop}(f:Inv X Lz Z H s)(hN:X.N.Nodup)(hi:X.N[i]?=J x)(F:Loc X.env.scope x)(r:aJ v u)(h:∀s',Inv X Lz (Z.set i (J v)) H s'->(∃a,Heap.SameBut a s.heap s'.heap/\(a=X.env.locals\/X.env.cells.lookup x=J a))->Q () s')(hf:X.fn x=I\/X.env.scope.names.lookup x=J .local:=by first | exact .inl rfl | exact .inr rfl | assumption):wpAny M A (storeName X.env x u) Q E s:=by
 obtain⟨m,hn,hl⟩:=id f.loc;have U:(X.env.scope.kind == .class||(X.env.scope.kind == .module&&X.env.locals != X.env.globals))=T:=by rw[f.ok.kind];rfl
 have O:i<Z.length:=by rw[f.len];exact(o_.mp hi).1
 have cne:=f.cne;have B:∀{a:Addr}{h':Heap},(∃o,s.heap.get? a=J o/\H a=Y)->Heap.SameBut a s.heap h'->HOk X.prog X.w H h':=λ{a h'} ha l b ob e=>by
  obtain⟨_,_,G⟩:=ha;refine(f.hok b ob e).stay (λc w' C q=>(l.2 c ?_).trans q) (λ_ q=>q) λ_ _ q=>q;rintro rfl;rcases C with rfl|C
  .rw[G]at e;cases e
  .rw[G]at C;cases C
 rcases F with L|L
 .refine wpAny_storeName_local L hn (λh' ap l=>?_) U;obtain⟨oL,_,_,ar,_⟩:=id hn;refine h _ ⟨f.ok,f.os,f.bare,⟨λb o e n R F=>?_,λb o e n R F=>?_,f.base.free,λb o e F=>?_,f.base.tups,f.base.frzs,f.base.tbls⟩,⟨_,ap,λj y v' e1 e2 e3=>?_⟩,λy c e=>?_,f.free,f.freeC,λp hp=>?_,B ⟨oL,ar,f.free⟩ l,by simpa using f.len⟩ ⟨_,l,.inl rfl⟩
  .exact (l.2 b (ww (xj (m_ e) f.ok.above))).trans (f.base.keep b o e n R F)
  .obtain⟨sl,e1⟩:=f.base.slot b o e n R F;exact⟨sl,(l.2 b (ww (xj (m_ e) f.ok.above))).trans e1⟩
  .obtain⟨o',e1⟩:=f.base.there b o e F;exact⟨o',(l.2 b (ww (xj (m_ e) f.ok.above))).trans e1⟩
  .by_cases P:j=i
   .subst P;rw[hi]at e1;cases e1;rw[x6 O]at e2;cases e2;exact⟨u,r,.inl ⟨L,by simp⟩⟩
   .rw[pu (Ne.symm P)]at e2;obtain⟨u',r',q⟩:=hl j y v' e1 e2 e3;refine⟨u',r',?_⟩;rcases q with⟨k,e⟩|⟨k,c,e,z⟩
    .refine .inl ⟨k,?_⟩
     have:y≠x:=λe=>P (tL hN e1 (e▸hi))
     simp[this,e]
    .exact .inr ⟨k,c,e,z.sameBut l (cne y c e)⟩
  .obtain⟨w',z⟩:=f.cell y c e;exact⟨w',z.sameBut l (cne y c e)⟩
  .obtain⟨e,n,ne,nf,d⟩:=f.pin p hp;exact⟨(l.2 p.1 ne).trans e,n,ne,nf,d⟩
 .have S:X.fn x=I:=by
   rcases hf with z|z
   .exact z
   .rw[z]at L;cases L
  obtain⟨c,C⟩:=f.ok.has x (.inl L);obtain⟨w',z⟩:=f.cell x c C;refine wpAny_storeName_cell f.ok.kind L C z (λh' ai l=>?_);obtain⟨oc,W,an⟩:=id z;refine h { s with heap:=h'} ⟨f.ok,f.os,f.bare,⟨λb o e n R F=>?_,λb o e n R F=>?_,f.base.free,λb o e F=>?_,f.base.tups,f.base.frzs,f.base.tbls⟩,⟨m,hn.sameBut l (Ne.symm (cne x c C)),λj y v' e1 e2 e3=>?_⟩,λy c' e=>?_,f.free,f.freeC,λp hp=>?_,B ⟨oc,W,f.freeC x c C⟩ l,by simpa using f.len⟩ ⟨c,l,.inr C⟩
  .exact (l.2 b (ww (xj (m_ e) (f.ok.cab x c S C)))).trans (f.base.keep b o e n R F)
  .obtain⟨sl,e1⟩:=f.base.slot b o e n R F;exact⟨sl,(l.2 b (ww (xj (m_ e) (f.ok.cab x c S C)))).trans e1⟩
  .obtain⟨o',e1⟩:=f.base.there b o e F;exact⟨o',(l.2 b (ww (xj (m_ e) (f.ok.cab x c S C)))).trans e1⟩
  .by_cases P:j=i
   .subst P;rw[hi]at e1;cases e1;rw[x6 O]at e2;cases e2;exact⟨u,r,.inr ⟨.inl L,c,C,ai⟩⟩
   .rw[pu (Ne.symm P)]at e2;obtain⟨u',r',q⟩:=hl j y v' e1 e2 e3;refine⟨u',r',?_⟩;rcases q with q|⟨k,c',e,z'⟩
    .exact .inl q
    .refine .inr ⟨k,c',e,z'.sameBut l ?_⟩;rintro rfl;exact P (tL hN e1 (f.ok.inj _ _ _ e C▸hi))
  .by_cases al:c'=c
   .subst al;exact⟨_,ai⟩
   .obtain⟨w2,z2⟩:=f.cell y c' e;exact⟨w2,z2.sameBut l al⟩
  .obtain⟨e,n,ne,nf,d⟩:=f.pin p hp;refine⟨(l.2 p.1 ?_).trans e,n,ne,nf,d⟩;intro q;rw[q,W]at e;have q':oc=p.2:=Option.some.inj e;exact d w' (by rw[<-q'];exact an)
def jO{M:Model}{A:Around}{E:TF}{i:Nat}{x:Str}{v:V}{u:Value}{Q:Unit->Shared->Prop}(f:Inv X Lz Z H s)(hN:X.N.Nodup)(j:X.N[i]?=J x)(l:Loc X.env.scope x)(r:aJ v u)(h:∀a,Inv X Lz (Z.set i (J v)) H a->Q () a)(hf:X.fn x=I\/X.env.scope.names.lookup x=J .local:=by first | exact .inl rfl | exact .inr rfl | assumption):wpAny M A (storeName X.env x u) Q E s :=
 xO f hN j l r (λa y _=>h a y) hf
def Inv.call'{s':Shared}{ch:TV}(a:Inv X Lz Z H s)(z:s'.os=s.os)(u:Un (zK X.stack) ch H H' s.heap s'.heap)(hok:HOk X.prog X.w H' s'.heap)(i:AllBare s'.gens)(f:∀b∈ch,(b∈X.ex\/X.s₀.heap.objs.size<=b)/\b≠X.env.locals/\(∀x c,X.env.cells.lookup x=J c->c≠b)/\∀p∈X.pn++Lz,p.1≠b):Inv X Lz Z H' s':=by
 obtain⟨h',j,y,B,l⟩:=s';have e:l=s.os:=z;subst e;exact a.call (g':=j) (t':=B) (d':=y) u hok i f
end
abbrev XK:=Value->Option Addr->Hp->Prop
abbrev St:=List (Option V)
abbrev VK:=V->Hp->Prop
abbrev TE:=St->Hp->VK->Prop
abbrev TT:=St->Hp->(Bool->Hp->Prop)->Prop
abbrev TA:=St->Hp->(List V->Hp->Prop)->Prop
structure Ends where
 nx:St->Hp->Prop
 rt:VK
 bk:St->Hp->Prop:=λ_ _=>False
 ct:St->Hp->Prop:=λ_ _=>False
abbrev TS:=Ends->St->Hp->Prop
inductive EP(X:Cx)(Lz:TX)(Z:St)(Q:VK)(u:Value)(s':Shared):Prop
 |mk(v:V)(H':Hp)(i:Inv X Lz Z H' s')(r:aJ v u)(q:Q v H'):EP X Lz Z Q u s'
inductive TP(X:Cx)(Lz:TX)(Z:St)(Q:Bool->Hp->Prop)(b:Bool)(s':Shared):Prop
 |mk(H':Hp)(i:Inv X Lz Z H' s')(q:Q b H'):TP X Lz Z Q b s'
inductive AP(X:Cx)(Lz:TX)(Z:St)(Q:List V->Hp->Prop)(us:TW)(s':Shared):Prop
 |mk(vs:List V)(H':Hp)(i:Inv X Lz Z H' s')(r:aG vs us)(q:Q vs H'):AP X Lz Z Q us s'
inductive SN(X:Cx)(Lz:TX)(Q:St->Hp->Prop)(s':Shared):Prop
 |mk(Z':St)(H':Hp)(i:Inv X Lz Z' H' s')(q:Q Z' H'):SN X Lz Q s'
inductive SR(X:Cx)(Lz:TX)(Q:VK)(u:Value)(s':Shared):Prop
 |mk(v:V)(Z':St)(H':Hp)(i:Inv X Lz Z' H' s')(r:aJ v u)(q:Q v H'):SR X Lz Q u s'
def SP(X:Cx)(a:TX)(D:Ends)(f:Flow)(i:Shared):Prop :=
 match f with
 |.next=>SN X a D.nx i
 |.brk=>SN X a D.bk i
 |.cont=>SN X a D.ct i
 |.ret u=>SR X a D.rt u i
def PE(X:Cx)(e:Expr)(t:TE):Prop :=
 ∀(a:TX)(s:Shared)(Z:St)(H:Hp)(Q:VK),Inv X a Z H s->t Z H Q->wpAny (model X.prog X.w) X.A (eval e X.env) (EP X a Z Q) X.xe s
def PT(X:Cx)(e:Expr)(t:TT):Prop :=
 ∀(a:TX)(s:Shared)(Z:St)(H:Hp)(Q:Bool->Hp->Prop),Inv X a Z H s->t Z H Q->wpAny (model X.prog X.w) X.A (isTrue e X.env (eval e X.env)) (TP X a Z Q) X.xe s
def PW(X:Cx)(e:Expr)(t:TT):Prop :=
 ∀(a:Sem Value)(f:TX)(s:Shared)(Z:St)(H:Hp)(Q:Bool->Hp->Prop),Inv X f Z H s->t Z H Q->wpAny (model X.prog X.w) X.A (isTrue e X.env a) (TP X f Z Q) X.xe s
def PW.pt{X:Cx}{e:Expr}{t:TT}(h:PW X e t):PT X e t:=h _
def PA(X:Cx)(i:TC)(t:TA):Prop :=
 ∀(a:Pos)(f:TX)(s:Shared)(Z:St)(H:Hp)(Q:List V->Hp->Prop),Inv X f Z H s->t Z H Q->wpAny (model X.prog X.w) X.A (spliced (backTo a (starEach i X.env))) (AP X f Z Q) X.xe s
def PS(X:Cx)(st:Stmt)(t:TS):Prop :=
 ∀(a:TX)(s:Shared)(Z:St)(H:Hp)(D:Ends),Inv X a Z H s->t D Z H->wpAny (model X.prog X.w) X.A (exec st X.env) (SP X a D) X.xe s
def PSs(X:Cx)(st:Ti)(t:TS):Prop :=
 ∀(a:TX)(s:Shared)(Z:St)(H:Hp)(D:Ends),Inv X a Z H s->t D Z H->wpAny (model X.prog X.w) X.A (execs st X.env) (SP X a D) X.xe s
def kx{α:Type}{t:Sem α}{Q f:α->Shared->Prop}{M:Model}{A:Around}{E:TF}{s:Shared}(h:wpAny M A t Q E s)(i:∀a s,Q a s->f a s):wpAny M A t f E s:=wpAny_mono h i λ_ _ x=>x
section
variable{X:Cx}
def Pr(i:Nat):TE:=λZ H Q=>∃v,Z[i]?=J (J v)/\Q v H
def tC(v:V):TE:=λ_ H Q=>Q v H
def Gg{i:Nat}{x:Str}{y:Pos}(hN:X.N[i]?=J x)(hv:N3 X.env.scope x)(hd:(x==("__debug__":Str))=T:=by decide)(z:(x==("__classdict__":Str))=T:=by decide):PE X (.Name x y) (Pr i):=by
 intro F s Z H Q f h;obtain⟨v,e,h⟩:=h;obtain⟨m,E,G⟩:=f.loc;obtain⟨u,r,l⟩:=G i x v hN e hv;have fin:EP X F Z Q u s:=⟨v,H,f,r,h⟩;rcases l with⟨j,C⟩|⟨j,c,B,a⟩
 .exact wpAny_Name (wpAny_loadName_local f.ok.kind j E C fin) hd
 .rcases j with j|j
  .exact wpAny_Name (wpAny_loadName_cell f.ok.kind j B a fin) hd
  .exact wpAny_Name (wpAny_loadName_free f.ok.kind j B a fin z) hd
def Gh{i j pos}:PE X (.Constant (.int i) j pos) (tC (.int i)):=λ_ _ _ H _ a h=>wpAny_Constant_int ⟨.int i,H,a.tok _,⟨_,rfl⟩,h⟩
def KL{b j pos}:PE X (.Constant (.bool b) j pos) (tC (.bl b)):=λ_ _ _ H _ a h=>Constant_bool ⟨.bl b,H,a,rfl,h⟩
def Gi{j pos}:PE X (.Constant .none j pos) (tC .non):=λ_ _ _ H _ a h=>Constant_none ⟨.non,H,a,rfl,h⟩
def Gl(X:Cx)(x:Str):Prop:=X.env.kindOf x=J .globalImplicit
def v6{E:TF}{i:TX}{s:Shared}{Z:St}{H:Hp}{x:Str}{u:Value}{f:Pos}{Q:TF}(a:Inv X i Z H s)(j:Gl X x)(l:X.mg x=J u)(h:Q u s)(hd:(x==("__debug__":Str))=T:=by decide):wpAny (model X.prog X.w) X.A (eval (.Name x f) X.env) Q E s :=
 Calls.Name_function_global a.ok.kind j (Calls.loadGlobal_global (by rw[a.ok.glob];exact a.mod.glob.keeps a.bk) l h) hd
def gq{E:TF}{y:TX}{s:Shared}{Z:St}{H:Hp}{x:Str}{u:Value}{f:Pos}{Q:TF}(a:Inv X y Z H s)(i:Gl X x)(j:X.mg x=Y)(hv:bootBuiltins x=J u)(h:Q u s)(B:x≠"__name__":=by decide)(hd:(x==("__debug__":Str))=T:=by decide):wpAny (model X.prog X.w) X.A (eval (.Name x f) X.env) Q E s:=by
 obtain⟨C,l,z⟩:=a.mod.blt;exact Calls.Name_function_global a.ok.kind i (Calls.loadGlobal_builtin (by rw[a.ok.glob];exact a.mod.glob.keeps a.bk) j (by rw[a.ok.blt];exact l.keeps a.bk) ((z x B).trans hv) h) hd
def C4{x:Str}{v:V}{u:Value}{f:Pos}(i:Gl X x)(j:X.mg x=J u)(r:aJ v u)(hd:(x==("__debug__":Str))=T:=by decide):PE X (.Name x f) (tC v) :=
 λ_ _ _ H _ a h=>v6 a i j ⟨v,H,a,r,h⟩ hd
def pW{x:Str}{v:V}{u:Value}{f:Pos}(i:Gl X x)(j:X.mg x=Y)(hv:bootBuiltins x=J u)(r:aJ v u)(l:x≠"__name__":=by decide)(hd:(x==("__debug__":Str))=T:=by decide):PE X (.Name x f) (tC v) :=
 λ_ _ _ H _ a h=>gq a i j hv ⟨v,H,a,r,h⟩ l hd
variable{a b:Expr}{ta tb:TE}{pos:Pos}
def tB(t:TE):TT:=λZ H Q=>t Z H λx f=>∃c,x=.bl c/\Q c f
def Gj{e:Expr}{t:TE}(h:PE X e t)(C:∀f,isTrue e X.env f=(do let v <-f;standAt e.pos;holding [v] (truthy v)):=by intro _;rfl):PT X e (tB t):=by intro z s Z H Q i l;refine isTrue_plain (kx (h z s Z H _ i l) λv E ⟨x,y,u,j,B⟩=>?_) (C _);obtain⟨d,rfl,q⟩:=B;cases j;exact wpAny_truthy_bool ⟨y,u,q⟩
variable{tA tB':TT}{rest:TC}
def SM(t u:TT):TT:=λZ H Q=>t Z H λc f=>if c=I then Q I f else u Z f Q
def Ps(t:TT):TT:=λZ H Q=>t Z H λc f=>Q (!c) f
def Gk(i:PT X a tA):PW X (.BoolOp .Or [a] pos) tA:=by
 intro l j s Z H Q f h;refine isTrue_or (kx (i j s Z H Q f h) λc u e=>?_)
 cases c with
 |false=>exact isTrue_or_nil e
 |true=>exact e
def KN(z:PT X a tA)(C:PW X (.BoolOp .Or (b::rest) pos) tB'):PW X (.BoolOp .Or (a::b::rest) pos) (SM tA tB'):=by
 intro y j s Z H Q f h;refine isTrue_or (kx (z j s Z H _ f h) λc B ⟨l,i,u⟩=>?_)
 cases c with
 |true=>exact⟨l,i,u⟩
 |false=>exact C y j B Z l Q i u
def Gm(l:PT X a tA):PT X (.UnaryOp .Not a pos) (Ps tA):=by intro u s Z H Q i h;exact isTrue_not (kx (l u s Z H (λc f=>Q (!c) f) i h) λ_ _ ⟨f,j,q⟩=>⟨f,j,q⟩)
def KO(ta tb:TE):TE:=λZ H Q=>ta Z H λx f=>∃c,x=.bl c/\if c=I then tb Z f Q else Q (.bl T) f
def KP(ta:TE):TE:=λZ H Q=>ta Z H λx f=>∃c,x=.bl c/\Q (.bl (!c)) f
def Gn{op}{t:TE}(h:PE X a t):PE X (.BoolOp op [a] pos) t:=λi s Z H Q f j=>BoolOp_one (h i s Z H Q f j)
def Go(B:PE X a ta)(z:PE X (.BoolOp .And (b::rest) pos) tb):PE X (.BoolOp .And (a::b::rest) pos) (KO ta tb):=by
 intro u s Z H Q i h;refine BoolOp_and (kx (B u s Z H _ i h) λv C ⟨x,l,j,y,f⟩=>?_);obtain⟨c,rfl,f⟩:=f;cases y;refine wpAny_truthy_bool ?_
 cases c with
 |true=>exact z u C Z l Q j f
 |false=>exact⟨.bl T,l,j,rfl,f⟩
def Gp(l:PE X a ta):PE X (.UnaryOp .Not a pos) (KP ta):=by intro u s Z H Q f h;refine UnaryOp_ (kx (l u s Z H _ f h) λv B ⟨x,y,j,z,i⟩=>?_);obtain⟨c,rfl,i⟩:=i;cases z;exact not_of (wpAny_truthy_bool ⟨.bl (!c),y,j,rfl,i⟩)
def SO(t:TT)(ta tb:TE):TE:=λZ H Q=>t Z H λc f=>if c=I then ta Z f Q else tb Z f Q
def A0{c:Expr}(B:PT X c tA)(z:PE X a ta)(C:PE X b tb):PE X (.IfExp c a b pos) (SO tA ta tb):=by
 intro f s Z H Q i h;refine wpAny_IfExp (kx (B f s Z H _ i h) λd y ⟨l,j,u⟩=>?_)
 cases d with
 |true=>exact z f y Z l Q j u
 |false=>exact C f y Z l Q j u
end
def SqL(K:hH)(H:Hp)(a:Addr)(xs:List V):Prop :=
 Rd H a (.lst xs) \/
  ∃(o:Obj) (f:Array Value) (n:Nat),K.lookup a=J o/\o.cls=.type "list"/\o.dict=Y/\o.data=.seq f n/\f.size<=sizeLine/\aG xs f.toList
def SqT(K:hH)(H:Hp)(a:Addr)(xs:List V):Prop :=
 Rd H a (.tup xs) \/
  ∃(o:Obj) (f:Array Value) (n:Nat),K.lookup a=J o/\o.cls=.type "tuple"/\(o.data=.seq f n/\o.dict=Y)/\f.size<=sizeLine/\aG xs f.toList
def Pu:Value->Option V
 |.none=>J .non
 |.bool b=>J (.bl b)
 |.int i _=>J (.int i)
 |.str x _=>J (.str x)
 |.bytes b _=>J (.byt b)
 |.float b _=>J (.flt b)
 |.ref a=>J (.ref a)
 |.type n=>J (.ty n)
 |_=>Y
def aJ.abs{x:V}{u:Value}(r:aJ x u):Pu u=J x:=by
 cases x with
 |non=>cases r;rfl
 |bl _=>cases r;rfl
 |int _=>obtain⟨t,rfl⟩:=r;rfl
 |str _=>obtain⟨t,rfl⟩:=r;rfl
 |byt _=>obtain⟨t,rfl⟩:=r;rfl
 |flt _=>obtain⟨t,rfl⟩:=r;rfl
 |ref _=>cases r;rfl
 |ty _=>cases r;rfl
def aJ.inj{x y:V}{u:Value}(r:aJ x u)(q:aJ y u):x=y:=Option.some.inj (r.abs.symm.trans q.abs)
def aG.inj{xs ys:List V}{a:TW}(r:aG xs a)(q:aG ys a):xs=ys:=by
 induction r generalizing ys with
 |nil=>cases q;rfl
 |cons r t j=>cases q with|cons i f=>rw[r.inj i,j f]
section
variable{X:Cx}{Lz:List (Addr × Obj)}{Z:St}{H:Hp}{s:Shared}{a:Addr}{xs ys:List V}
def SqL.of{K:hH}(h:H a=J (.lst xs)):SqL K H a xs:=.inl (.inl h)
def SqT.of{K:hH}(h:H a=J (.tup xs)):SqT K H a xs:=.inl (.inl h)
def Inv.list(i:Inv X Lz Z H s)(h:SqL X.K H a xs):∃f:TW,aG xs f/\PlainL s.heap a f.toArray/\xs.length<=sizeLine:=by
 rcases h with h|⟨o,f,n,j,l,hd,u,y,r⟩
 .obtain⟨z,f,n,r,e⟩:=h.ok i.hok;exact⟨f,r,⟨_,n,e,rfl,rfl,rfl⟩,z⟩
 .refine⟨f.toList,r,⟨o,n,i.kIn a o j,l,hd,by simpa using u⟩,?_⟩;have e:=r.length;simp only[JX]at e;ext
def Inv.tupleN(i:Inv X Lz Z H s)(h:SqT X.K H a xs):∃f:TW,aG xs f/\iP s.heap a f.toArray/\xs.length<=sizeLine:=by
 rcases h with h|⟨o,f,n,l,u,j,y,r⟩
 .obtain⟨z,f,r,p⟩:=h.ok i.hok;exact⟨f,r,p,z⟩
 .refine⟨f.toList,r,⟨o,i.kIn a o l,u,⟨n,by simpa using j.1⟩,j.2⟩,?_⟩;have e:=r.length;simp only[JX]at e;ext
def Inv.tuple(i:Inv X Lz Z H s)(h:SqT X.K H a xs):∃f:TW,aG xs f/\IsTup s.heap a f.toArray/\xs.length<=sizeLine :=
 let⟨f,r,p,z⟩:=i.tupleN h
 ⟨f,r,p.tup,z⟩
def Inv.list_inj(i:Inv X Lz Z H s)(h:SqL X.K H a xs)(z:SqL X.K H a ys):xs=ys:=by
 obtain⟨j,r,⟨o,n,e,_,_,d⟩,_⟩:=i.list h;obtain⟨f,y,⟨C,B,l,_,_,u⟩,_⟩:=i.list z;rw[e]at l;cases l;rw[d]at u;injection u with d1 _
 have:j=f:=by simpa using congrArg Array.toList d1
 subst this;exact r.inj y
def Inv.tuple_inj(i:Inv X Lz Z H s)(h:SqT X.K H a xs)(z:SqT X.K H a ys):xs=ys:=by
 obtain⟨j,r,⟨o,e,_,n,d⟩,_⟩:=i.tuple h;obtain⟨f,y,⟨C,l,_,B,u⟩,_⟩:=i.tuple z;rw[e]at l;cases l;rw[d]at u;injection u with d1 _
 have:j=f:=by simpa using congrArg Array.toList d1
 subst this;exact r.inj y
end
section
variable{X:Cx}{Lz:List (Addr × Obj)}{Z:St}{H:Hp}{s:Shared}{E:TF}
end
section
variable{X:Cx}{st:Stmt}{rest:Ti}{t u:TS}{e:Expr}{te:TE}{pos:Pos}
def KQ:TS:=λD Z H=>D.nx Z H
def Pw(t u:TS):TS:=λD Z H=>t { D with nx:=u D} Z H
def C5:PSs X [] KQ:=λ_ _ Z H _ a h=>wpAny_execs_nil ⟨Z,H,a,h⟩
def Az(l:PS X st t)(z:PSs X rest u):PSs X (st::rest) (Pw t u):=by
 intro i s Z H D a h;refine wpAny_execs_cons (kx (l i s Z H { D with nx:=u D} a h) λf C q=>?_)
 cases f with
 |next =>
  obtain⟨B,j,y,q⟩:=q;exact z i C B j D y q
 |ret v=>exact q
 |brk=>exact q
 |cont=>exact q
def C6(j:PS X st t):PSs X [st] t:=by
 intro i s Z H D a h;refine wpAny_execs_cons (kx (j i s Z H D a h) λf l q=>?_)
 cases f with
 |next=>exact wpAny_execs_nil q
 |ret v=>exact q
 |brk=>exact q
 |cont=>exact q
def Inv.quiet{f:TX}{Z:St}{H:Hp}{s:Shared}(a:Inv X f Z H s):interactive X.env=T:=by simp[interactive,a.ok.kind]
def KR(te:TE):TS:=λD Z H=>te Z H λ_ a=>D.nx Z a
def C7(z:PE X e te)(y:swapsWith e Y pos.line X.env=pure T:=by rfl):PS X (.Expr e pos) (KR te):=by intro i s Z H D a h;exact wpAny_Expr_any (kx (z i s Z H _ a h) λv C ⟨x,j,f,B,l⟩=>⟨Z,j,f,l⟩) a.quiet y
def Px(te:TE):TS:=λD Z H=>te Z H D.rt
def Gq(z:PE X e te):PS X (.Return (J e) pos) (Px te):=by intro i s Z H D a h;exact wpAny_Return_some (kx (z i s Z H _ a h) λv B ⟨x,j,f,l,y⟩=>⟨x,Z,j,f,l,y⟩)
def Py(c:TT)(t u:TS):TS:=λD Z H=>c Z H λb a=>if b=I then t D Z a else u D Z a
def KS{c:Expr}{a b:Ti}{y:TT}(C:PT X c y)(F:PSs X a t)(E:PSs X b u):PS X (.If c a b pos) (Py y t u):=by
 intro i s Z H D f h;refine wpAny_If (kx (C i s Z H _ f h) λd B ⟨l,j,z⟩=>?_)
 cases d with
 |true=>exact F i B Z l D j z
 |false=>exact E i B Z l D j z
end
abbrev TG:=V->St->Hp->(St->Hp->Prop)->Prop
abbrev Gs:=List V->St->Hp->(St->Hp->Prop)->Prop
def PG(X:Cx)(a:Expr)(t:TG):Prop :=
 ∀(f:TX)(s:Shared)(Z:St)(H:Hp)(v:V)(u:Value)(Q:St->Hp->Prop),Inv X f Z H s->aJ v u->t v Z H Q ->
  wpAny (model X.prog X.w) X.A (assign a X.env u) (λ_ i=>SN X f Q i) X.xe s
def PGs(X:Cx)(l:TC)(t:Gs):Prop :=
 ∀(f:TX)(s:Shared)(Z:St)(H:Hp)(i:List V)(a:TW)(Q:St->Hp->Prop),Inv X f Z H s->aG i a->t i Z H Q ->
  wpAny (model X.prog X.w) X.A (assignInOrder ((assignEach l X.env).map (·.2)) a) (λ_ j=>SN X f Q j) X.xe s
abbrev Gu:=V->V->V->Hp->(Hp->Prop)->Prop
inductive SE(X:Cx)(Lz:TX)(Z:St)(Q:Hp->Prop)(s':Shared):Prop
 |mk(H':Hp)(i:Inv X Lz Z H' s')(q:Q H'):SE X Lz Z Q s'
def KU(X:Cx)(t:Gu):Prop :=
 ∀(a:TX)(s:Shared)(Z:St)(H:Hp)(o i v:V)(j f u:Value)(Q:Hp->Prop),Inv X a Z H s->aJ o j->aJ i f->aJ v u->t o i v H Q ->
  wpAny (model X.prog X.w) X.A (setItem j f u) (λ_ l=>SE X a Z Q l) X.xe s
section
variable{X:Cx}{pos:Pos}
def Fk(i:Nat):TG:=λv Z H Q=>Q (Z.set i (J v)) H
def u9{i:Nat}{x:Str}(hN:X.N.Nodup)(f:X.N[i]?=J x)(j:Loc X.env.scope x)(hf:X.fn x=I\/X.env.scope.names.lookup x=J .local:=by first | exact .inl rfl | exact .inr rfl | assumption):PG X (.Name x pos) (Fk i):=by intro y s Z H v u Q a r h;exact wpAny_assign_Name (jO a hN f j r (λz l=>⟨_,H,l,h⟩) hf)
def Pz:Gs:=λa Z H Q=>a=[]/\Q Z H
def KW(t:TG)(u:Gs):Gs:=λi Z H Q=>∃v r,i=v::r/\t v Z H λf a=>u r f a Q
def C9:PGs X [] Pz:=by intro i s Z H j f Q a r h;obtain⟨e,h⟩:=h;subst e;cases r;exact assignInOrder_nil ⟨Z,H,a,h⟩
def AZ{e:Expr}{a:TC}{t:TG}{u:Gs}(z:PG X e t)(E:PGs X a u)(B:(assignEach (e::a) X.env).map (·.2)=assign e X.env::(assignEach a X.env).map (·.2):=by rfl):PGs X (e::a) (KW t u):=by
 intro i s Z H L M Q f r h;obtain⟨v,O,e1,h⟩:=h;subst e1
 cases r with
 |cons r C =>
  rw[B];refine assignInOrder_cons (kx (z i s Z H _ _ _ f r h) λ_ G ⟨l,y,j,F⟩=>?_);exact E i G l y _ _ Q j C F
def PB(K:hH)(n:Nat)(t:Gs):TG:=λv Z H Q=>∃a xs,v=.ref a/\SqT K H a xs/\xs.length=n/\t xs Z H Q
def Gw{i:TC}{k:Nat}{t:Gs}{n:Nat}(B:X.calm=I)(h:PGs X i t)(P:(assignEach i X.env).length=n:=by rfl)(l:(assignEach i X.env).findIdx? (·.1)=Y:=by rfl):PG X (.Tuple i k pos) (PB X.K n t):=by
 intro z s Z H v u Q f r j;obtain⟨a,xs,e1,G,M,j⟩:=j;subst e1;cases r;obtain⟨L,y,O,R⟩:=f.tuple G;refine assign_Tuple_tuple (f.ok.hd B) O (by simp[P,<-M,y.length]) l λC F=>?_;have E:Inv X z Z H { s with heap:=C}:=f.kept (t':=s.toks) λb o e=>F b o (ww (m_ e)) e;exact h z _ Z H xs _ Q E (by simpa using y) j
def PC(to a:TE)(t:Gu):TG:=λv Z H Q=>to Z H λo l=>a Z l λi f=>t o i v f λj=>Q Z j
def Gx{o i:Expr}{to z:TE}{t:Gu}(S:PE X o to)(C:PE X i z)(O:KU X t)(ha:∀v,assign (.Subscript o i pos) X.env v=(do
   let a <-holding [v] (eval o X.env)
   let f <-holding [v,a] (eval i X.env)
   standAt pos
   holding [v,a,f] (setItem a f v)
   release [v,a,f] []):=by intro _;rfl):PG X (.Subscript o i pos) (PC to z t):=by
 intro l s Z H v u Q j r h;rw[ha];refine g_ (wpAny_holding (kx (S l s Z H _ j h) λa s1 ⟨x,M,G,F,q1⟩=>?_));refine g_ (wpAny_holding (kx (C l s1 Z M _ G q1) λf s2 ⟨y,L,U,P,W⟩=>?_));refine g_ (wpAny_standAt (g_ (wpAny_holding (kx (O l s2 Z L x y v a f u _ U F P r W) λ_ s3 ⟨E,R,B⟩=>?_))));exact wpAny_release ⟨Z,E,R,B⟩
def KY(a:TE)(g:TG):TS:=λD Z H=>a Z H λx f=>g x Z f D.nx
def Gy{a e:Expr}{i:TE}{g:TG}(L:PE X e i)(l:PG X a g)(E:swapsWithSole [a] e pos.line X.env=pure T:=by rfl)(y:swappedStores [a] e X.env=pure Y:=by rfl)(B:(assignEach [a] X.env).map (·.2)=[assign a X.env]:=by rfl):PS X (.Assign [a] e pos) (KY i g):=by
 intro j s Z H D f h;refine wpAny_Assign_stores (kx (L j s Z H _ f h) λv G ⟨x,C,z,u,F⟩=>?_) E y;rw[B];exact kx (l j G Z C x v _ z u F) λ_ M q=>q
def Gz{i:Nat}{x:Str}{e:Expr}{j:TE}{a:Pos}(hN:X.N.Nodup)(l:X.N[i]?=J x)(B:Loc X.env.scope x)(M:PE X e j)(E:swapsWith e (J (.Name x a)) pos.line X.env=pure T:=by rfl)(hf:X.fn x=I\/X.env.scope.names.lookup x=J .local:=by first | exact .inl rfl | exact .inr rfl | assumption):
  PS X (.Assign [.Name x a] e pos) (KY j (Fk i)):=by
 intro F s Z H D f h;refine wpAny_Assign_Name (kx (M F s Z H _ f h) λv O ⟨y,C,z,u,L⟩=>?_) E;exact jO z hN l B u (λP G=>⟨_,C,G,L⟩) hf
def PD(i j:Nat)(l:TA):TS:=λD Z H=>l Z H λf a=>∃v w,f=[v,w]/\D.nx ((Z.set i (J v)).set j (J w)) a
def GA{i j:Nat}{x y:Str}{a b:Expr}{M:TA}{C py pt:Pos}{kt k2 pt2}(S:X.calm=I)(hN:X.N.Nodup)(R:X.N[i]?=J x)(hj:X.N[j]?=J y)(B:i≠j)(G:X.env.scope.names.lookup x=J .local)(Q:X.env.scope.names.lookup y=J .local)(ha:PA X [a,b] M)(hw:swappedStores [.Tuple [.Name x C,.Name y py] kt pt] (.Tuple [a,b] k2 pt2) X.env=pure (J [x,y]))(hs:swapsWithSole [.Tuple [.Name x C,.Name y py] kt pt] (.Tuple [a,b] k2 pt2) pos.line X.env=pure T:=by rfl):
  PS X (.Assign [.Tuple [.Name x C,.Name y py] kt pt] (.Tuple [a,b] k2 pt2) pos) (PD i j M):=by
 intro O s Z H D z h;rw[exec_Assign_arm];refine g_ (wpAny_standAt ?_);rw[hs];refine g_ (j_ ?_);rw[e_ (by decide)];refine g_ (Tuple_ (kx (ha _ O s Z H _ z h) λus u ⟨vs,L,I1,U,E⟩=>?_));obtain⟨v,w,e1,E⟩:=E;subst e1;obtain⟨f,l,rfl,rv,rw'⟩:∃f l,us=[f,l]/\aJ v f/\aJ w l:=by
  cases U with
  |cons p q =>
   cases q with
   |cons p' q' =>
    cases q';exact⟨_,_,rfl,p,p'⟩
 refine wpAny_newObj_type ?_ (by show 2<=sizeLine;decide);have I2:Inv X O Z L { u with heap:=u.heap.push { cls:=.type "tuple",data:=.seq [f,l].toArray}}:=I1.kept (t':=u.toks) λb o e=>lR _ e;rw[hw];refine g_ (j_ ?_);show wpAny (model X.prog X.w) X.A (do rule "assign.swapped-stores";let items <-unpackItems (.ref u.heap.objs.size) 2 Y;assignInOrder [λv=>bindName X.env y v,λv=>bindName X.env x v] items.reverse;pure Flow.next) _ _ _;refine g_ (wpAny_rule (g_ (unpackItems_tuple (items:=#[f,l]) (z.ok.hd S) (IsTup.new u.heap _) λW F=>?_)));have I3:=I2.kept (h':=W) (t':=u.toks) λb o e=>F b o (ww (m_ e)) e;show wpAny _ _ (assignInOrder [λv=>bindName X.env y v,λv=>bindName X.env x v] [l,f] >>= λ_=>pure Flow.next) _ _ _;refine g_ (assignInOrder_cons (wpAny_bindName (jO I3 hN hj (.inl Q) rw' (λs2 I4=>?_) (.inr Q))));refine assignInOrder_cons (wpAny_bindName (jO I4 hN R (.inl G) rv (λs3 P=>assignInOrder_nil (j_ ?_)) (.inr G)));rw[List.set_comm _ _ (Ne.symm B)]at P;exact⟨_,L,P,E⟩
def GB(c:TT)(l:TS):TS:=λD Z H=>∃W:Nat->St->Hp->Prop,(∃m,W m Z H)/\∀m Z H,W m Z H ->
 c Z H λb f=>if b=I then ∃N:St->Hp->Prop,(∀j i,N j i->∃a,a<m/\W a j i)/\l { D with nx:=N,ct:=N,bk:=D.nx} Z f else D.nx Z f
def Bu{c:Expr}{a:Ti}{R:TT}{tb:TS}(O:PassesOwn (model X.prog X.w) X.A X.env X.xe)(hc:PT X c R)(hb:PSs X a tb):PS X (.While c a [] pos) (GB R tb):=by
 intro F s Z H D B h;obtain⟨W,⟨m0,w0⟩,turn⟩:=h;refine wpAny_While (codeAny_whileLoop (λn s'=>∃S M,Inv X F S M s'/\W n S M) ?_ m0 ⟨Z,H,B,w0⟩);rintro n s1 ⟨u,Q,I1,w1⟩;refine wpAny_passesOwn O (kx (hc F s1 u Q _ I1 (turn n u Q w1)) λb s2 ⟨P,U,y⟩=>?_)
 cases b with
 |true =>
  obtain⟨N,hN,y⟩:=y;rw[b_ rfl];refine wpAny_passesOwn O (kx (hb F s2 u P _ U y) λf s3 l=>?_)
  cases f with
  |next =>
   obtain⟨j,i,G,z⟩:=l;obtain⟨L,E,C⟩:=hN j i z;exact⟨L,E,j,i,G,C⟩
  |cont =>
   obtain⟨j,i,G,z⟩:=l;obtain⟨L,E,C⟩:=hN j i z;exact⟨L,E,j,i,G,C⟩
  |brk=>exact l
  |ret v=>exact l
 |false =>
  rw[e_ F6];exact wpAny_execs_nil ⟨u,P,U,y⟩
end
structure It where
 go:Nat->Hp->Prop
 yld:Nat->Hp->V->Hp->Prop
 stop:Nat->Hp->Prop
def iz(X:Cx)(a:TX)(H:Hp)(b:Addr):Prop :=
 H b=Y/\b≠X.env.locals/\b∉X.fs/\(b∈X.ex\/X.s₀.heap.objs.size<=b)/\(∀x c,X.env.cells.lookup x=J c->c≠b)/\∀p∈X.pn++a,p.1≠b
def Inv.fpOk{X:Cx}{i:TX}{Z:St}{H H':Hp}{s:Shared}{b:Addr}(a:Inv X i Z H s)(f:s.heap.objs.size<=b)(l:H' b=Y):iz X i H' b:=by
 refine⟨l,BL (xj a.lt f),a.nofs f,.inr (pf a.sz f),λx c e z=>?_,λp j z=>?_⟩
 .obtain⟨v,q⟩:=a.cell x c e;exact absurd (xj q.lt (by rw[z];exact f)) (BR _)
 .exact absurd (xj (m_ (a.pin p j).1) (by rw[z];exact f)) (BR _)
inductive RK(X:Cx)(Lz:TX)(Z:St)(u:Value)(Y:V->Hp->Prop)(n:Heap->Prop)(fp:TV)(s2:Shared):Prop
 |mk(x:V)(H':Hp)(i:Inv X Lz Z H' s2)(r:aJ x u)(y:Y x H')(t:n s2.heap)(f:∀b∈fp,H' b=none):RK X Lz Z u Y n fp s2
structure B9(P:Program)(w:World)(K:hH)(tg:Expr)(J:It)(fp:TV)(it:Addr)(tn:Nat->Heap->Prop):Prop where
 mem:it∈fp
 obj:∀i h,tn i h->∀b∈fp,∃o,h.get? b=some o/\∀v,o.data≠.cell v
 keep:∀i h h',tn i h->(∀b∈fp,∀o,h.get? b=some o->h'.get? b=some o)->tn i h'
 item:∀(X:Cx),X.prog=P->X.w=w->X.K=K->X.calm=I->∀(i:Nat)(Lz:TX)(s:Shared)(Z:St)(H:Hp)(E:TF),Inv X Lz Z H s->(∀b∈fp,iz X Lz H b)->tn i s.heap->J.go i H ->
  wpAny (model P w) X.A (pyNext (.ref it)) (λr s1=>∃u,r=some u /\
   wpAny (model P w) X.A (letOwnedTupleGo tg (.ref it) u) (λ_ s2=>RK X Lz Z u (J.yld i H) (tn (i+1)) fp s2) E s1) E s
 done:∀(X:Cx),X.prog=P->X.w=w->X.K=K->X.calm=I->∀(i:Nat)(Lz:TX)(s:Shared)(Z:St)(H:Hp)(E:TF),Inv X Lz Z H s->(∀b∈fp,iz X Lz H b)->tn i s.heap->J.stop i H ->
  wpAny (model P w) X.A (pyNext (.ref it)) (λr s1=>r=Y/\Inv X Lz Z H s1) E s
 self:∀(A:Around)(i:Nat)(s:Shared)(Q:TF)(E:TF),tn i s.heap->Q (.ref it) s->wpAny (model P w) A (pyIter (.ref it)) Q E s
abbrev TI:=St->Hp->(It->Hp->Prop)->Prop
inductive PF(X:Cx)(Lz:TX)(Z:St)(tg:Expr)(R:It->Hp->Prop)(itv:Value)(s2:Shared):Prop
 |mk(it:Addr)(fp:TV)(tn:Nat->Heap->Prop)(J:It)(H':Hp)(e:itv=.ref it)(i:Inv X Lz Z H' s2)(t:B9 X.prog X.w X.K tg J fp it tn)(n:tn 0 s2.heap)(f:∀b∈fp,iz X Lz H' b)(r:R J H'):PF X Lz Z tg R itv s2
def PI(X:Cx)(l a:Expr)(i:TI):Prop :=
 ∀(f:TX)(s:Shared)(Z:St)(H:Hp)(R:It->Hp->Prop),Inv X f Z H s->i Z H R ->
  wpAny (model X.prog X.w) X.A (eval a X.env) (λv j=>wpAny (model X.prog X.w) X.A (pyIter v) (PF X f Z l R) X.xe j) X.xe s
def xw{M:Model}{A:Around}{E:TF}{s:Shared}{f:Expr}{j:Addr}{u:Value}{o:Obj}{n:String}{i:Array Value}{Q:Unit->Shared->Prop}(z:s.heap.get? j=J o)(l:o.cls=.type n)(hd:o.data=.fields i)(y:["enumerate","zip","dict_itemiterator","dict_reverseitemiterator","odict_iterator","itertools.zip_longest","itertools.pairwise"].contains n=T)(a:Q () s):wpAny M A (letOwnedTupleGo f (.ref j) u) Q E s:=by
 unfold letOwnedTupleGo;cases f<;>first
  |exact j_ a
  | (cases u<;>first
    |exact j_ a
    | (refine g_ (wpAny_load z ?_)
       rw[l,hd];show wpAny M A (if(["enumerate","zip","dict_itemiterator","dict_reverseitemiterator","odict_iterator","itertools.zip_longest","itertools.pairwise"].contains n&&i[0]? == J (rawInt _))=I then _ else _) Q E s;rw[e_ (by intro h;rw[y,Bool.false_and]at h;cases h)]
       exact j_ a))
def PH(K:hH)(a:Addr):It :=
 ⟨λi H=>∃xs x,SqL K H a xs/\xs[i]?=J x,λi H x f=>f=H/\∀xs,SqL K H a xs->xs[i]?=J x,λi H=>∃xs,SqL K H a xs/\xs.length<=i⟩
def RL(K:hH)(a:Addr):It :=
 ⟨λi H=>∃xs x,SqT K H a xs/\xs[i]?=J x,λi H x f=>f=H/\∀xs,SqT K H a xs->xs[i]?=J x,λi H=>∃xs,SqT K H a xs/\xs.length<=i⟩
def KZ(lo:Int)(n:Nat):It:=⟨λi _=>i<n,λi H x a=>a=H/\x=.int (lo+i),λi _=>n<=i⟩
def zp{P:Program}{w:World}{K:hH}{tg:Expr}(a l:Addr):B9 P w K tg (PH K a) [l] l (λi h=>h.IsListIter l a i) where
 mem:=by simp
 obj:=λi h st b j=>by
  have e:b=l:=by simpa using j
  subst e;obtain⟨o,e,c,d⟩:=st;exact⟨o,e,λv z=>by rw[d]at z;cases z⟩
 keep:=λi h B st k=>st.at λo e=>k l (by simp) o e
 item:=by intro X R L hK hc i Lz s Z H E f hf st F;subst R L hK;obtain⟨xs,x,C,M⟩:=F;obtain⟨Q,O,p,hz⟩:=f.list C;obtain⟨u,hu,ru⟩:=O.get M;obtain⟨S,f1,f2,U,G,W⟩:=hf l (by simp);refine wpAny_pyNext_list_item st p.isList (x:=u) (by simpa using hu) λB y sb=>?_;have I1:Inv X Lz Z H { s with heap:=B}:=f.turned (t':=s.toks) (λb o j e=>(sb.2 b j).trans e) S f1 U G W;obtain⟨o,e,c,d⟩:=id y;exact⟨u,rfl,xw (s:={ s with heap:=B}) e c d (by decide) ⟨x,H,I1,ru,⟨rfl,λys hy=>by rw[f.list_inj hy C];exact M⟩,y,λb j=>(hf b j).1⟩⟩
 done:=by intro X R L hK hc i Lz s Z H E f hf st F;subst R L hK;obtain⟨xs,C,M⟩:=F;obtain⟨Q,O,p,hz⟩:=f.list C;obtain⟨S,f1,f2,U,G,W⟩:=hf l (by simp);have hl:=O.length;exact wpAny_pyNext_list_end (f.ok.hd hc) st p.isList (by simp;ext) λB eb=>⟨rfl,f.turned (t':=s.toks) (λb o j e=>eb b o j e) S f1 U G W⟩
 self:=λ_ _ _ _ _ st h=>wpAny_pyIter_listiter st h
def w4{P:Program}{w:World}{K:hH}{tg:Expr}(a l:Addr):B9 P w K tg (RL K a) [l] l (λi h=>h.IsTupleIter l a i) where
 mem:=by simp
 obj:=λi h st b j=>by
  have e:b=l:=by simpa using j
  subst e;obtain⟨o,e,c,d⟩:=st;exact⟨o,e,λv z=>by rw[d]at z;cases z⟩
 keep:=λi h C st k=>st.at λo e=>k l (by simp) o e
 item:=by intro X R M hK hc i Lz s Z H E f hf st G;subst R M hK;obtain⟨xs,x,F,O⟩:=G;obtain⟨y,Q,p,hz⟩:=f.tuple F;obtain⟨u,hu,ru⟩:=Q.get O;obtain⟨S,f1,f2,U,L,W⟩:=hf l (by simp);refine wpAny_pyNext_tuple_item st (show s.heap.IsTuple a y.toArray from p) (x:=u) (by simpa using hu) λC B sb=>?_;have I1:Inv X Lz Z H { s with heap:=C}:=f.turned (t':=s.toks) (λb o j e=>(sb.2 b j).trans e) S f1 U L W;obtain⟨o,e,c,d⟩:=id B;exact⟨u,rfl,xw (s:={ s with heap:=C}) e c d (by decide) ⟨x,H,I1,ru,⟨rfl,λys hy=>by rw[f.tuple_inj hy F];exact O⟩,B,λb j=>(hf b j).1⟩⟩
 done:=by intro X R M hK hc i Lz s Z H E f hf st G;subst R M hK;obtain⟨xs,F,O⟩:=G;obtain⟨y,Q,p,hz⟩:=f.tuple F;obtain⟨S,f1,f2,U,L,W⟩:=hf l (by simp);have hl:=Q.length;exact wpAny_pyNext_tuple_end (f.ok.hd hc) st (show s.heap.IsTuple a y.toArray from p) (by simp;ext) λC eb=>⟨rfl,f.turned (t':=s.toks) (λb o j e=>eb b o j e) S f1 U L W⟩
 self:=λ_ _ _ _ _ st h=>wpAny_pyIter_tupleiter st h
def xm{P:Program}{w:World}{K:hH}{tg:Expr}(f:Addr)(lo:Int)(n:Nat):B9 P w K tg (KZ lo n) [f] f (λi h=>IsRangeIter h f (lo+(i:Nat)*1) ((n:Int)-(i:Nat)) 1) where
 mem:=by simp
 obj:=λi h st b j=>by
  have e:b=f:=by simpa using j
  subst e
  exact⟨_,st,λv z=>by
   have z':Data.fields _=Data.cell v:=z
   cases z'⟩
 keep:=λi h u st k=>k f (by simp) _ st
 item:=by intro X G F R B i U s Z H E a hf st y;subst G F R;obtain⟨L,Q,f2,M,C,O⟩:=hf f (by simp);have W:=Walks.range (prog:=X.prog) (w:=X.w) (a.ok.hd B) f lo 1 n;refine W.item i s _ _ y st λv u S hv l kk=>?_;obtain⟨t,rfl⟩:=hv;have I1:Inv X U Z H { s with heap:=u,toks:=S}:=a.turned (λb o j e=>kk b o (by simpa using j) e) L Q M C O;refine⟨_,rfl,xw (s:={ s with heap:=u,toks:=S}) (n:="range_iterator") l rfl rfl (by decide) ⟨.int (lo+i),H,I1,⟨t,?_⟩,⟨rfl,rfl⟩,l,λb j=>(hf b j).1⟩⟩;rw[Int.mul_one]
 done:=by intro X G F R B i U s Z H E a hf st y;subst G F R;obtain⟨L,Q,f2,M,C,O⟩:=hf f (by simp);exact wpAny_pyNext_range_end (a.ok.hd B) st (by have:n<=i:=y;ext) λu eb=>⟨rfl,a.turned (t':=s.toks) (λb o j e=>eb b o j e) L Q M C O⟩
 self:=λ_ _ _ _ _ st h=>wpAny_pyIter_rangeiter st h
section
variable{X:Cx}{tg:Expr}
def K0(K:hH)(i:TE):TI:=λZ H R=>i Z H λx f=>∃a,x=.ref a/\(∃xs,SqL K f a xs)/\R (PH K a) f
def PJ(K:hH)(i:TE):TI:=λZ H R=>i Z H λx f=>∃a,x=.ref a/\(∃xs,SqT K f a xs)/\R (RL K a) f
def C_{l:Expr}{u:TE}(G:PE X l u):PI X tg l (K0 X.K u):=by
 intro F s Z H R j h;refine kx (G F s Z H _ j h) λv i ⟨x,z,f,y,L⟩=>?_;obtain⟨a,e,⟨xs,B⟩,q⟩:=L;subst e;cases y;obtain⟨E,M,p,O⟩:=f.list B;refine wpAny_pyIter_list p.isList ?_;refine⟨i.heap.objs.size,[i.heap.objs.size],_,_,z,rfl,f.kept (t':=i.toks) λb o e=>lR _ e,zp a _,⟨_,w_ _ rfl,rfl,rfl⟩,λb C=>?_,q⟩;have e:b=i.heap.objs.size:=by simpa using C
 subst e;exact f.fpOk (i_ _) (f.hok.fresh (i_ _))
def GC{l:Expr}{y:TE}(G:PE X l y):PI X tg l (PJ X.K y):=by
 intro F s Z H R j h;refine kx (G F s Z H _ j h) λv f ⟨x,B,i,z,L⟩=>?_;obtain⟨a,e,⟨xs,C⟩,q⟩:=L;subst e;cases z;obtain⟨u,M,p,O⟩:=i.tuple C;refine wpAny_pyIter_tuple (show f.heap.IsTuple a u.toArray from p) ?_;refine⟨f.heap.objs.size,[f.heap.objs.size],_,_,B,rfl,i.kept (t':=f.toks) λb o e=>lR _ e,w4 a _,⟨_,w_ _ rfl,rfl,rfl⟩,λb E=>?_,q⟩;have e:b=f.heap.objs.size:=by simpa using E
 subst e;exact i.fpOk (i_ _) (i.hok.fresh (i_ _))
def tN{l:TX}{Z:St}{H:Hp}{s:Shared}{R:It->Hp->Prop}{E:TF}{lo a:Int}{t u v:Tok}{j:Nat}(f:Inv X l Z H s)(z:-(2^62)<=lo)(C:lo<2^62)(F:-(2^62)<=a)(y:a<2^62)(q:R (KZ lo (a-lo).toNat) H):wpAny (model X.prog X.w) X.A (pyIter (.ref s.heap.objs.size)) (PF X l Z tg R) E { s with heap:=s.heap.push { cls:=.type "range",data:=.fields #[.int lo t,.int a u,.int 1 v]},toks:=j}:=by
 refine wpAny_pyIter_range (IsRange.new ..) (small_one z C F y) ?_;have i:Inv X l Z H { s with heap:=s.heap.push { cls:=.type "range",data:=.fields #[.int lo t,.int a u,.int 1 v]},toks:=j}:=f.kept λb o e=>lR _ e
 refine⟨(s.heap.push { cls:=.type "range",data:=.fields #[.int lo t,.int a u,.int 1 v]}).objs.size,[(s.heap.push { cls:=.type "range",data:=.fields #[.int lo t,.int a u,.int 1 v]}).objs.size],_,_,H,rfl,
  i.kept (t':=j) λb o e=>lR _ e,xm _ lo (a-lo).toNat,?_,λb B=>?_,q⟩
 .have e1:lo+((0:Nat):Int)*1=lo:=by simp
  have e2:(((a-lo).toNat:Nat):Int)-((0:Nat):Int)=Builtin.Range.rangeSize lo a 1:=by rw[rangeSize_one];split<;>ext
  show IsRangeIter _ _ (lo+((0:Nat):Int)*1) ((((a-lo).toNat:Nat):Int)-((0:Nat):Int)) 1;rw[e1,e2];exact w_ _ rfl
 .have e:b=(s.heap.push { cls:=.type "range",data:=.fields #[.int lo t,.int a u,.int 1 v]}).objs.size:=by simpa using B
  subst e;exact i.fpOk (i_ _) (i.hok.fresh (i_ _))
def K1(i:TA):TI:=λZ H R=>i Z H λf a=>∃j:Int,f=[.int j] /\ -(2^62)<=j/\j<2^62/\R (KZ 0 j.toNat) a
def K2(l:TA):TI:=λZ H R=>l Z H λf a=>∃i j:Int,f=[.int i,.int j]/\(-(2^62)<=i/\i<2^62 /\ -(2^62)<=j/\j<2^62)/\R (KZ i (j-i).toNat) a
def yB{a:Expr}{u:TA}{p i:Pos}(y:Gl X "range")(B:X.mg "range"=Y)(M:PA X [a] u)(E:starEach [a] X.env=[(T,eval a X.env)]:=by rfl):PI X tg (.Call (.Name "range" p) [a] [] i) (K1 u):=by
 intro F s Z H R f h;refine Call_ (gq f y B boot_range (PyProof.Rows.callWith_type1 (kx (M i F s Z H _ f h) λQ S ⟨P,O,C,z,l⟩=>?_) E rfl));obtain⟨j,e,l,L,q⟩:=l;subst e
 cases z with
 |cons r G =>
  cases G;obtain⟨t,rfl⟩:=r;exact call_range_1 (tN C (by ext) (by ext) l L (by simpa using q))
def yf{a b:Expr}{B:TA}{p u:Pos}(E:Gl X "range")(G:X.mg "range"=Y)(U:PA X [a,b] B)(M:starEach [a,b] X.env=[(T,eval a X.env),(T,eval b X.env)]:=by rfl)(l:starEach [b] X.env=[(T,eval b X.env)]:=by rfl):
  PI X tg (.Call (.Name "range" p) [a,b] [] u) (K2 B):=by
 intro O s Z H R f h;refine Call_ (gq f E G boot_range (PyProof.Rows.callWith_type1 (kx (U u O s Z H _ f h) λus s1 ⟨vs,W,L,F,z⟩=>?_) (by rw[M,l]) (by rw[l];rfl)));obtain⟨i,j,e,⟨z,S,C,Q⟩,q⟩:=z;subst e
 cases F with
 |cons r y =>
  cases y with
  |cons P y =>
   cases y;obtain⟨t,rfl⟩:=r;obtain⟨t',rfl⟩:=P;exact call_range_2 (tN L z S C Q q)
def PK(z:TI)(g:TG)(C:TS):TS:=λD Z H=>z Z H λa y=>∃W:Nat->Nat->St->Hp->Prop,(∃m,W 0 m Z y)/\∀i m Z H,W i m Z H ->
 (a.stop i H/\D.nx Z H)\/(a.go i H/\∃N:St->Hp->Prop,(∀l f,N l f->∃j,j<m/\W (i+1) j l f)/\∀x f,a.yld i H x f->g x Z f λB u=>C { D with nx:=N,ct:=N,bk:=D.nx} B u)
def lf(a:TV)(h:Heap):TX:=a.filterMap λb=>(h.get? b).map λo=>(b,o)
def gO{a:TV}{h:Heap}{b:Addr}{o:Obj}(f:b∈a)(e:h.get? b=J o):(b,o)∈lf a h:=CY.mpr ⟨b,f,by rw[e];rfl⟩
def yD{a:TV}{h:Heap}{p:Addr×Obj}(i:p∈lf a h):p.1∈a/\h.get? p.1=J p.2:=by
 obtain⟨b,j,e⟩:=CY.mp i
 cases q:h.get? b with
 |none=>rw[q]at e;cases e
 |some o =>
  rw[q]at e;have f:(b,o)=p:=Option.some.inj e;subst f;exact⟨j,q⟩
def Inv.pinned{i:TX}{Z:St}{H:Hp}{s:Shared}{f:TV}(a:Inv X i Z H s)(hf:∀b∈f,iz X i H b)(B:∀b∈f,∃o,s.heap.get? b=J o/\∀v,o.data≠.cell v):Inv X (i++lf f s.heap) Z H s :=
 a.pins_of λp u=>(wj.mp u).elim (λz=>a.pin p (u_ _ z)) λz=>by
  obtain⟨j,e⟩:=yD z;obtain⟨C,E,y,_⟩:=hf p.1 j;obtain⟨o,l,d⟩:=B p.1 j;rw[e]at l;cases l;exact⟨e,C,E,y,d⟩
def Inv.unpinned{Lz pl:TX}{Z:St}{H:Hp}{s:Shared}(a:Inv X (Lz++pl) Z H s):Inv X Lz Z H s:=a.pins_of λp f=>a.pin p (u_ _ (Bs _ f))
def GD{B:Expr}{F:Ti}{wi:TI}{g:TG}{tb:TS}{ar:Pos}(O:PassesOwn (model X.prog X.w) X.A X.env X.xe)(hc:X.calm=I)(hi:PI X tg B wi)(hg:PG X tg g)(C:PSs X F tb)(hs:∀x,foldedSetIterable B X.env x=pure x:=by intro _;rfl):PS X (.For tg B F [] ar) (PK wi g tb):=by
 intro L s Z H D ap h;refine wpAny_For (kx (hi L s Z H _ ap h) λv s1 h1=>kx h1 λas s2 h2=>?_) hs;obtain⟨it,U,tn,ax,H2,e,I2,z,al,f2,W,⟨m0,w0⟩,turn⟩:=h2;subst e;have a:∀{E:Hp},(∀b∈U,E b=Y)->∀b∈U,iz X L E b:=λhn b C=>⟨hn b C,(f2 b C).2⟩;refine codeAny_forLoop_any (λn s'=>∃i Q E,Inv X L Q E s'/\tn i s'.heap/\(∀b∈U,E b=Y)/\W i n Q E) ?_ m0 ⟨0,Z,H2,I2,al,λb C=>(f2 b C).1,w0⟩;rintro n s3 ⟨i,Z3,H3,I3,P,R,w3⟩;rcases turn i n Z3 H3 w3 with⟨stop,qn⟩|⟨go,N,hN,step⟩
 .refine wpAny_passesOwn O (kx (z.done X rfl rfl rfl hc i L s3 Z3 H3 X.xe I3 (a R) P stop) λr s4 ⟨hr,I4⟩=>?_);subst hr;exact wpAny_execs_nil ⟨Z3,H3,I4,qn⟩
 .refine wpAny_passesOwn O (kx (z.item X rfl rfl rfl hc i L s3 Z3 H3 X.xe I3 (a R) P go) λr s4 ⟨u,hr,h4⟩=>?_);subst hr;refine wpAny_passesOwn O (kx h4 λ_ s5 ⟨x,H5,I5,r5,y5,M,ai⟩=>?_);have an:=I5.pinned (a ai) (z.obj _ _ M);refine wpAny_passesOwn O (kx (hg _ s5 Z3 H5 x u _ an r5 (step x H5 y5)) λ_ s6 ⟨Z6,H6,I6,q6⟩=>?_);refine wpAny_passesOwn O (kx (C _ s6 Z6 H6 _ I6 q6) λf s7 G=>?_);have again:∀{l:St}{j:Hp},Inv X (L++lf U s5.heap) l j s7->N l j->∃m,m<n/\∃i Q E,Inv X L Q E s7/\tn i s7.heap/\(∀b∈U,E b=Y)/\W i m Q E:=λ{l j} y S=>by
   obtain⟨m',hm,w7⟩:=hN l j S;refine⟨m',hm,i+1,l,j,y.unpinned,z.keep _ _ _ M λb C o e=>(y.pin (b,o) (u_ _ (u_ _ (gO C e)))).1,λb C=>?_,w7⟩;obtain⟨o,e,d⟩:=z.obj _ _ M b C;exact(y.pin (b,o) (u_ _ (u_ _ (gO C e)))).2.1
  cases f with
  |next=>obtain⟨l,j,y,S⟩:=G;exact again y S
  |cont=>obtain⟨l,j,y,S⟩:=G;exact again y S
  |brk=>obtain⟨l,j,y,G⟩:=G;exact⟨l,j,y.unpinned,G⟩
  |ret v=>obtain⟨x7,l,j,y,r7,G⟩:=G;exact⟨x7,l,j,y.unpinned,r7,G⟩
end
abbrev R2:=V->V->Hp->VK->Prop
def OpR(X:Cx)(f:Value->Value->Sem Value)(r:R2):Prop :=
 ∀(a:TX)(s:Shared)(Z:St)(H:Hp)(x y:V)(v u:Value)(Q:VK),Inv X a Z H s->aJ x v->aJ y u->r x y H Q ->
  wpAny (model X.prog X.w) X.A (f v u) (EP X a Z Q) X.xe s
def N4(X:Cx)(f:Value->Sem Value)(r:V->Hp->VK->Prop):Prop :=
 ∀(a:TX)(s:Shared)(Z:St)(H:Hp)(x:V)(v:Value)(Q:VK),Inv X a Z H s->aJ x v->r x H Q ->
  wpAny (model X.prog X.w) X.A (f v) (EP X a Z Q) X.xe s
def cG(X:Cx)(f:Value)(r:List V->Hp->VK->Prop):Prop :=
 ∀(i:TX)(s:Shared)(Z:St)(H:Hp)(xs:List V)(a:TW)(Q:VK),Inv X i Z H s->aG xs a->r xs H Q ->
  wpAny (model X.prog X.w) X.A (call f a) (EP X i Z Q) X.xe s
def K3(r:R2)(i j:TE):TE:=λZ H Q=>i Z H λx f=>j Z f λy a=>r x y a Q
def SQ(r:V->Hp->VK->Prop)(f:TE):TE:=λZ H Q=>f Z H λx a=>r x a Q
def rI(C:Int->Int->Prop)(g:Int->Int->V):R2:=λx y H Q=>∃i j,x=.int i/\y=.int j/\C i j/\Q (g i j) H
def Db(g:Int->Int->V):R2:=λx y H Q=>∃i j,x=.int i/\y=.int j/\Q (g i j) H
def rU(g:Int->V):V->Hp->VK->Prop:=λx H Q=>∃i,x=.int i/\Q (g i) H
section
variable{X:Cx}{a b c:Expr}{ta tb tc:TE}{pos:Pos}
def GF(S:PE X a ta)(L:PE X b tb){z:TX}{s:Shared}{Z:St}{H:Hp}{R:V->V->Hp->Prop}(C:Inv X z Z H s)(h:ta Z H λx E=>tb Z E λy i=>R x y i){Q:TF}{f:Value->Value->Sem Value}(hf:∀v u B x y i,Inv X z Z i B->aJ x v->aJ y u->R x y i->wpAny (model X.prog X.w) X.A (f v u) Q X.xe B):
  wpAny (model X.prog X.w) X.A (eval a X.env) (λv l=>wpAny (model X.prog X.w) X.A (eval b X.env) (λu j=>wpAny (model X.prog X.w) X.A (f v u) Q X.xe j) X.xe l) X.xe s:=by
 refine kx (S z s Z H _ C h) λv W ⟨x,E,G,F,U⟩=>?_;refine kx (L z W Z E _ G U) λu B ⟨y,i,O,M,P⟩=>?_;exact hf v u B x y i O F M P
def K4{i:Operator}{r:R2}(C:OpR X (binaryOp i) r)(F:PE X a ta)(z:PE X b tb):PE X (.BinOp a i b pos) (K3 r ta tb):=by intro B s Z H Q f h;exact wpAny_BinOp (GF F z f h λv u L x y l E j G q=>C B L Z l x y v u Q E j G q)
def K5{j:UnaryOp}{r:V->Hp->VK->Prop}(C:N4 X (unaryOp j) r)(u:PE X a ta):PE X (.UnaryOp j a pos) (SQ r ta):=by intro i s Z H Q f h;exact UnaryOp_ (kx (u i s Z H _ f h) λv E ⟨x,y,l,z,B⟩=>C i E Z y x v Q l z B)
def SS{f:Value->Value->Sem Value}{C:Int->Int->Prop}{g:Int->Int->Int}(rule:∀(i j:Int)(t u:Tok)(s:Shared)(Q:TF)(E:TF),C i j->Q (.int (g i j) s.toks) { s with toks:=s.toks+1}->wpAny (model X.prog X.w) X.A (f (.int i t) (.int j u)) Q E s):
  OpR X f (rI C λi j=>.int (g i j)):=by
 intro L s Z H x y v u Q l B G h;obtain⟨i,j,rfl,rfl,z,q⟩:=h;obtain⟨t,rfl⟩:=B;obtain⟨F,rfl⟩:=G;exact rule i j t F s _ _ z ⟨.int (g i j),H,l.tok _,⟨_,rfl⟩,q⟩
def K6{f:Value->Value->Sem Value}{g:Int->Int->Int}(rule:∀(i j:Int)(t u:Tok)(s:Shared)(Q:TF)(E:TF),Q (.int (g i j) s.toks) { s with toks:=s.toks+1}->wpAny (model X.prog X.w) X.A (f (.int i t) (.int j u)) Q E s):
  OpR X f (Db λi j=>.int (g i j)):=by
 intro F s Z H x y v u Q l z C h;obtain⟨i,j,rfl,rfl,q⟩:=h;obtain⟨t,rfl⟩:=z;obtain⟨B,rfl⟩:=C;exact rule i j t B s _ _ ⟨.int (g i j),H,l.tok _,⟨_,rfl⟩,q⟩
def Dc{f:Value->Value->Sem Value}{g:Int->Int->Bool}(rule:∀(i j:Int)(t u:Tok)(s:Shared)(Q:TF)(E:TF),Q (.bool (g i j)) s->wpAny (model X.prog X.w) X.A (f (.int i t) (.int j u)) Q E s):
  OpR X f (Db λi j=>.bl (g i j)):=by
 intro F s Z H x y v u Q l z C h;obtain⟨i,j,rfl,rfl,q⟩:=h;obtain⟨t,rfl⟩:=z;obtain⟨B,rfl⟩:=C;exact rule i j t B s _ _ ⟨.bl (g i j),H,l,rfl,q⟩
def iG(i j:Int):Prop:=0<=j/\j<=1000000/\i.natAbs<2^64
def GG:OpR X (binaryOp .Add) (Db λi j=>.int (i+j)):=K6 λ_ _ _ _ _ _ _ q=>add_int q
def GH:OpR X (binaryOp .Sub) (Db λi j=>.int (i-j)):=K6 λ_ _ _ _ _ _ _ q=>sub_int q
def GJ:OpR X (binaryOp .Pow) (rI iG λi j=>.int (i^j.toNat)):=SS λ_ _ _ _ _ _ _ f q=>pow_int_small f.1 f.2.1 f.2.2 q
def SU{f:Value->Sem Value}{g:Int->Int}(rule:∀(i:Int)(t:Tok)(s:Shared)(Q:TF)(E:TF),Q (.int (g i) s.toks) { s with toks:=s.toks+1}->wpAny (model X.prog X.w) X.A (f (.int i t)) Q E s):
  N4 X f (rU λi=>.int (g i)):=by
 intro u s Z H x v Q j l h;obtain⟨i,rfl,q⟩:=h;obtain⟨t,rfl⟩:=l;exact rule i t s _ _ ⟨.int (g i),H,j.tok _,⟨_,rfl⟩,q⟩
def GK:N4 X (unaryOp .USub) (rU λi=>.int (-i)):=SU λ_ _ _ _ _ q=>neg_int q
def GL{i:TX}{Z:St}{H:Hp}{s:Shared}{Q:VK}{k j:Bool}(f:Inv X i Z H s)(q:Q (.bl k) H)(e:k=j):EP X i Z Q (.bool j) s:=by subst e;exact⟨.bl k,H,f,rfl,q⟩
def K7:OpR X (compareOp .Lt) (Db λi j=>.bl (decide (i<j))):=Dc λ_ _ _ _ _ _ _ q=>lt_int q
def K8:OpR X (compareOp .LtE) (Db λi j=>.bl (decide (i<=j))):=Dc λ_ _ _ _ _ _ _ q=>le_int q
def K9:OpR X (compareOp .Gt) (Db λi j=>.bl (decide (j<i))):=Dc λ_ _ _ _ _ _ _ q=>gt_int q
def K_:OpR X (compareOp .GtE) (Db λi j=>.bl (decide (j<=i))):=Dc λ_ _ _ _ _ _ _ q=>ge_int q
def GN:OpR X (compareOp .Is) (λx y H Q=>y=.non/\Q (.bl (decide (x=.non))) H):=by
 intro l s Z H x y v u Q f i j h;obtain⟨rfl,q⟩:=h;cases j;refine is_none_gen (GL f q ?_);cases x<;>first
  |(cases i;rfl)
  |(obtain⟨t,rfl⟩:=i;rfl)
def Cr(b:Expr){f:CmpOp}(h:f≠.In:=by decide)(i:f≠.NotIn:=by decide):behindInMarks f b=T:=by
 have e1:(f==CmpOp.In)=T:=by cases f<;>first | rfl | exact absurd rfl h
 have e2:(f==CmpOp.NotIn)=T:=by cases f<;>first | rfl | exact absurd rfl i
 cases b<;>simp[behindInMarks,e1,e2]
def Dd{i:CmpOp}{r:R2}(E:OpR X (compareOp i) r)(G:PE X a ta)(B:PE X b tb)(l:behindInMarks i b=T):PE X (.Compare a [i] [b] pos) (K3 r ta tb):=by intro C s Z H Q f h;exact wpAny_Compare1 (GF G B f h λv u M x y z F j L q=>E C M Z z x y v u Q F j L q) l
def La(t:TE):TT:=λZ H Q=>t Z H λx f=>∃k,x=.bl k/\Q k f
def De{i:CmpOp}{r:R2}(S:OpR X (compareOp i) r)(ha:PE X a ta)(O:PE X b tb)(E:behindInMarks i b=T):PT X (.Compare a [i] [b] pos) (La (K3 r ta tb)):=by
 intro j s Z H Q f h
 refine wpAny_isTrue_Compare1 (kx (ha j s Z H _ f h) λv s1 ⟨x,M,G,C,q1⟩=>kx (O j s1 Z M _ G q1) λu s2 ⟨y,L,U,P,W⟩ =>
  kx (S j s2 Z L x y v u _ U C P W) λc s3 ⟨z,B,R,F,k,e,l⟩=>?_) E
 subst e;cases F;exact wpAny_truthy_bool ⟨B,R,l⟩
def yw(r u:R2)(ta tb tc:TE):TE:=λZ H Q=>ta Z H λx l=>tb Z l λy j=>r x y j λz f=>∃k,z=.bl k /\
 (if k=I then tc Z f λB i=>u y B i Q else Q (.bl T) f)
def Af{l f:CmpOp}{r L:R2}(ho:OpR X (compareOp l) r)(B:OpR X (compareOp f) L)(ha:PE X a ta)(hb:PE X b tb)(O:PE X c tc)(R:lastMarks [l,f] [b,c]=T:=by with_unfolding_all rfl):PE X (.Compare a [l,f] [b,c] pos) (yw r L ta tb tc):=by
 intro i s Z H Q j h
 refine Compare_chain (kx (ha i s Z H _ j h) λv s1 ⟨x,H1,U,P,q1⟩=>chain_link (kx (hb i s1 Z H1 _ U q1) λu s2 ⟨y,W,I2,F,q2⟩ =>
  kx (ho i s2 Z W x y v u _ I2 P F q2) λd s3 ⟨z,E,G,S,k,e,C⟩=>?_)) R
 subst e;cases S;refine wpAny_truthy_bool ?_
 cases k with
 |false=>exact ite_ff ⟨.bl T,E,G,rfl,C⟩
 |true=>exact ite_tt (chain_last (kx (O i s3 Z E _ G C) λw' s4 ⟨z',H4,I4,M,q4⟩=>B i s4 Z H4 y z' u w' Q I4 F M q4))
def lj:(sizeLine:Nat)<2^63:=by rw[sizeLine_eq];decide
def wp:OpR X (binaryOp .Add) (λx y H Q=>∃i j,x=.str i/\y=.str j/\i.length+j.length<=sizeLine/\Q (.str (i++j)) H):=by intro F s Z H x y v u Q f l C h;obtain⟨i,j,rfl,rfl,z,q⟩:=h;obtain⟨t,rfl⟩:=l;obtain⟨B,rfl⟩:=C;exact add_str (λB E=>⟨.str (i++j),H,f.tok _,⟨_,rfl⟩,q⟩) z
def fU{x:V}{f:TW}(r:aG [x] f):∃u,f=[u]/\aJ x u:=by
 cases r with
 |cons j i=>cases i;exact⟨_,rfl,j⟩
def vals2{x y:V}{f:TW}(r:aG [x,y] f):∃u i,f=[u,i]/\aJ x u/\aJ y i:=by
 cases r with
 |cons z j =>
  cases j with
  |cons B l=>cases l;exact⟨_,_,rfl,z,B⟩
def Bf:cG X (.builtin "abs") (λxs H Q=>∃i,xs=[.int i]/\Q (.int (if i<0 then -i else i)) H):=by intro l s Z H xs j Q f r h;obtain⟨i,rfl,q⟩:=h;obtain⟨u,rfl,t,rfl⟩:=fU r;exact call_abs_int λu y=>⟨.int (if i<0 then -i else i),H,f.tok _,⟨_,rfl⟩,q⟩
def yk(y:X.calm=I):cG X (.builtin "max") (λxs H Q=>∃i j,xs=[.int i,.int j]/\Q (.int (if j>i then j else i)) H):=by
 intro E s Z H xs C Q f r h;obtain⟨i,j,rfl,q⟩:=h;obtain⟨u,G,rfl,⟨t,rfl⟩,⟨F,rfl⟩⟩:=vals2 r;refine max_two_ints (f.ok.hd y) λz B k=>⟨_,H,f.kept k,?_,q⟩;by_cases l:j>i
 .rw[b_ l,b_ l];exact⟨_,rfl⟩
 .rw[e_ l,e_ l];exact⟨_,rfl⟩
def zr(y:X.calm=I):cG X (.builtin "min") (λxs H Q=>∃i j,xs=[.int i,.int j]/\Q (.int (if j<i then j else i)) H):=by
 intro E s Z H xs C Q f r h;obtain⟨i,j,rfl,q⟩:=h;obtain⟨u,G,rfl,⟨t,rfl⟩,⟨F,rfl⟩⟩:=vals2 r;refine min_two_ints (f.ok.hd y) λz B k=>⟨_,H,f.kept k,?_,q⟩;by_cases l:j<i
 .rw[b_ l,b_ l];exact⟨_,rfl⟩
 .rw[e_ l,e_ l];exact⟨_,rfl⟩
def qz:cG X (.type "int") (λxs H Q=>(∃i,xs=[.int i]/\Q (.int i) H)\/∃k,xs=[.bl k]/\Q (.int (if k then 1 else 0)) H):=by
 intro y s Z H xs l Q f r h;rcases h with⟨i,rfl,q⟩|⟨k,rfl,q⟩
 .obtain⟨u,rfl,t,rfl⟩:=fU r;exact call_int_int ⟨.int i,H,f,⟨_,rfl⟩,q⟩
 .obtain⟨u,rfl,j⟩:=fU r;cases j;exact call_int_bool ⟨.int (if k then 1 else 0),H,f.tok _,⟨_,rfl⟩,q⟩
def PL(K:hH)(x:V)(H:Hp)(n:Nat):Prop :=
 match x with
 |.str y=>y.length<=sizeLine/\n=y.length
 |.byt y=>y.size<=sizeLine/\n=y.size
 |.ref p=>(∃xs,SqL K H p xs/\n=xs.length)\/∃xs,SqT K H p xs/\n=xs.length
 |_=>False
def jP:cG X (.builtin "len") (λxs H Q=>∃x n,xs=[x]/\PL X.K x H n/\Q (.int n) H):=by
 intro O s Z H xs M Q f r h;obtain⟨x,n,rfl,e,q⟩:=h;obtain⟨u,rfl,l⟩:=fU r;have P:=lj;have L:sizeLine=16777216:=sizeLine_eq
 cases x with
 |str y =>
  obtain⟨t,rfl⟩:=l;obtain⟨G,j⟩:y.length<=sizeLine/\n=y.length:=e;subst j;exact len_str (by ext) ⟨.int _,H,f.tok _,⟨_,rfl⟩,q⟩
 |byt y =>
  obtain⟨t,rfl⟩:=l;obtain⟨G,j⟩:y.size<=sizeLine/\n=y.size:=e;subst j;exact PySem.W.len_bytes (by ext) ⟨.int _,H,f.tok _,⟨_,rfl⟩,q⟩
 |ref p =>
  cases l;have j:(∃xs,SqL X.K H p xs/\n=xs.length)\/∃xs,SqT X.K H p xs/\n=xs.length:=e;rcases j with⟨xs,z,j⟩|⟨xs,z,j⟩
  .subst j;obtain⟨B,C,E,F⟩:=f.list z;have i:=C.length;exact Calls.call_len_list E.isList (by simp only[tt];ext) ⟨.int xs.length,H,f.tok _,⟨_,by simp only[tt];rw[i]⟩,q⟩
  .subst j;obtain⟨B,C,E,F⟩:=f.tuple z;have i:=C.length;exact len_tuple E (by simp only[tt];ext) ⟨.int xs.length,H,f.tok _,⟨_,by simp only[tt];rw[i]⟩,q⟩
 |_=>exact(show False from e).elim
end
section
variable{prog:Program}{w:World}{A:Around}{E:TF}{s:Shared}{K:hH}{x dx C f:Addr}{mA:TH}{name:Str}{v:Value}
end
def gG.some_of{v:V}{o:TZ}(r:gG (J v) o):∃u,o=J u/\aJ v u:=by
 cases o with
 |none=>exact(show False from r).elim
 |some u=>exact⟨u,rfl,r⟩
def gG.none_of{o:TZ}(r:gG Y o):o=Y:=by
 cases o with
 |none=>rfl
 |some u=>exact(show False from r).elim
section
variable{P:Program}{w:World}{H H':Hp}{h h':Heap}{a C dx:Addr}{fs fs':List (Str × V)}
end
section
variable{X:Cx}{Lz:List (Addr × Obj)}{Z:St}{H:Hp}{s:Shared}{a C dx:Addr}{fs:List (Str × V)}{f:Str}{v:V}{A:Around}{E:TF}
end
section
variable{X:Cx}{o e value:Expr}{f:Str}{pos pos' tpos:Pos}{ta tv:TE}
end
section
variable{X:Cx}{Lz:List (Addr × Obj)}{Z:St}{H:Hp}{s:Shared}{A:Around}{E:TF}{Q:TF}{c:Value}{b:Bool}
end
structure Room(k:Nat)(A:Around):Prop where
 hd:A.handled=Y
 dp:A.depth+3*k+105<recursionLimit
 un:A.units+16*k+200<cLine
 gd:A.guards=J []
def Room.mono{j k:Nat}{A:Around}(r:Room k A)(h:j<=k):Room j A:=⟨r.hd,by have:=r.dp;ext,by have:=r.un;ext,r.gd⟩
def Room.deeper{k:Nat}{A:Around}(r:Room (k+1) A)(env:Env):Room k (A.deeper env) :=
 ⟨r.hd,by have:=r.dp;show A.depth+1+3*k+105<_;ext,by have:=r.un;show A.units+3+16*k+200<_;ext,r.gd⟩
def Room.depth{k:Nat}{A:Around}(r:Room k A):A.depth<recursionLimit:=by have:=r.dp;ext
def Room.units{k:Nat}{A:Around}(r:Room k A):A.units+64<cLine:=by have:=r.un;ext
def PM:TA:=λ_ H Q=>Q [] H
def Lb(i:TE)(j:TA):TA:=λZ H Q=>i Z H λx f=>j Z f λxs a=>Q (x::xs) a
section
variable{X:Cx}{e:Expr}{es:TC}{te:TE}{t:TA}{pos:Pos}
def ld:PA X [] PM:=λ_ _ _ _ H Q a h=>Calls.spliced_nil ⟨[],H,a,.nil,h⟩
def eO(G:PE X e te)(z:PA X es t)(B:starEach (e::es) X.env=(T,eval e X.env)::starEach es X.env:=by rfl):PA X (e::es) (Lb te t):=by intro pos f s Z H Q a h;rw[B];show wpAny _ _ (spliced ((T,eval e X.env)::backTo pos (starEach es X.env))) _ _ s;refine Calls.spliced_cons (kx (G f s Z H _ a h) λu M ⟨x,y,j,i,L⟩=>?_);exact kx (z pos f M Z y _ j L) λO P ⟨xs,l,E,C,F⟩=>⟨x::xs,l,E,.cons i C,F⟩
def PN(t:TA):TE:=λZ H Q=>t Z H λxs a=>xs.length<=sizeLine/\∀p,a p=Y->Q (.ref p) (mf a p (.tup xs))
def PP(t:TA):TE:=λZ H Q=>t Z H λxs a=>xs.length<=sizeLine/\∀p,a p=Y->Q (.ref p) (mf a p (.lst xs))
def y7{x1}(h:PA X es t):PE X (.Tuple es x1 pos) (PN t):=by intro B s Z H Q f l;refine wpAny_Tuple_spliced (kx (h pos B s Z H _ f l) λy a ⟨xs,j,i,r,z,q⟩=>⟨by rw[<-r.length];exact z,?_⟩);have hf:j a.heap.objs.size=Y:=i.hok.fresh (i_ _);refine⟨.ref a.heap.objs.size,mf j a.heap.objs.size (.tup xs),i.laid (t':=a.toks) (λb u e=>lR _ e) (i_ _) ?_,rfl,q _ hf⟩;exact⟨z,y,r,⟨_,w_ _ rfl,rfl,⟨_,rfl⟩,rfl⟩⟩
def GO(h:PA X es t):PE X (.List es pos) (PP t):=by intro B s Z H Q f l;refine wpAny_List_spliced (kx (h pos B s Z H _ f l) λy a ⟨xs,j,i,r,z,q⟩=>⟨by rw[<-r.length];exact z,?_⟩);have hf:j a.heap.objs.size=Y:=i.hok.fresh (i_ _);refine⟨.ref a.heap.objs.size,mf j a.heap.objs.size (.lst xs),i.laid (t':=a.toks) (λb u e=>lR _ e) (i_ _) ?_,rfl,q _ hf⟩;exact⟨z,y,0,r,w_ _ rfl⟩
end
abbrev Sp:=List V->Hp->VK->XK->Prop
abbrev Ci:=List Env->Hp->Shared->XK->Value->Shared->Prop
structure Df(P:Program)(w:World)(K:hH)(mg:TH)(base:Heap)(A:Around)(outer:List Env)(s:Shared)(H:Hp):Prop where
 frames:A.frames=J outer
 mod:Mod K mg base
 bs:∀b o,base.get? b=J o->s.heap.get? b=J o/\H b=Y
 bsz:base.objs.size<=s.heap.objs.size
 funs:s.heap.FunFrames base outer
 frf:∀b∈zK outer,H b=Y
 hok:HOk P w H s.heap
 bare:AllBare s.gens
 tree:P.given.tree=Y
inductive CE(outer:List Env)(P:Program)(w:World)(H:Hp)(s:Shared)(Q:VK)(u:Value)(s':Shared):Prop
 |mk(v:V)(H':Hp)(o:s'.os=s.os)(b:AllBare s'.gens)(n:Un (zK outer) [] H H' s.heap s'.heap)(k:HOk P w H' s'.heap)(r:aJ v u)(q:Q v H'):CE outer P w H s Q u s'
def CR(f:Ci)(outer:List Env)(P:Program)(w:World)(H:Hp)(s:Shared)(Q:VK)(E:XK)(r:Result)(a:Shared):Prop :=
 match r with
 |.ok (.ret u)=>CE outer P w H s Q u a
 |.ok _=>False
 |.error e=>f outer H s E e a
structure FnOk(P:Program)(w:World)(K:hH)(mg:TH)(base:Heap)(CX:Ci)(k:Nat)(f:Addr)(fd:FuncData)(ps:TM)(sp:Sp):Prop where
 len:∀vs H Q E,sp vs H Q E->vs.length=ps.length
 run:∀(A:Around)(outer:List Env)(s:Shared)(H:Hp)(args:Args)(us:TW)(vs:List V)(Q:VK)(E:XK),Room k A->Df P w K mg base A outer s H->BindsTo s fd args (ps.zip us)->aG vs us->sp vs H Q E ->
  codeAny (model P w) A (.call (.ref f) args) (CR CX outer P w H s Q E) s
def FnOk.mono{P:Program}{w:World}{K:hH}{mg:TH}{base:Heap}{u:Ci}{j k:Nat}{f:Addr}{fd:FuncData}{l:TM}{i:Sp}(F:FnOk P w K mg base u j f fd l i)(h:j<=k):
  FnOk P w K mg base u k f fd l i:=⟨F.len,λA outer s H a B y Q E z=>F.run A outer s H a B y Q E (z.mono h)⟩
def FnOk.imp{P:Program}{w:World}{K:hH}{mg:TH}{base:Heap}{y:Ci}{k:Nat}{f:Addr}{fd:FuncData}{u:TM}{l j:Sp}(F:FnOk P w K mg base y k f fd u l)(h:∀a H Q E,j a H Q E->l a H Q E):FnOk P w K mg base y k f fd u j :=
 ⟨λa H Q E q=>F.len a H Q E (h _ _ _ _ q),λA outer s H i G a Q E z L C hv B=>F.run A outer s H i G a Q E z L C hv (h _ _ _ _ B)⟩
section
variable{X:Cx}{Lz:List (Addr × Obj)}{Z:St}{H:Hp}{s s':Shared}
def Inv.env0(a:Inv X Lz Z H s):Df X.prog X.w X.K X.mg X.base X.A X.stack s H :=
 ⟨a.ok.frames,a.ok.mod,a.bs,pf a.ok.bsz a.sz,a.stack,a.stkFree,a.hok,a.bare,a.ok.tree⟩
def Inv.after{Q:VK}{u:Value}(a:Inv X Lz Z H s)(h:CE X.stack X.prog X.w H s Q u s'):EP X Lz Z Q u s':=by obtain⟨v,i,os,bare,un,hok,r,q⟩:=h;obtain⟨j,g,d,t,f⟩:=s';obtain rfl:f=s.os:=os;exact⟨v,i,a.call (h':=j) (g':=g) (d':=d) (t':=t) (ch:=[]) un hok bare (λb z=>absurd z (by simp)),r,q⟩
end
def o9(K:hH)(fd:FuncData)(i:TM)(f:TW):Prop :=
 ∀(s:Shared)(a:TW),K.In s.heap->(a++f).length=i.length->BindsTo s fd ⟨a,[]⟩ (i.zip (a++f))
def o9.all{K:hH}{fd:FuncData}{f:TM}(h:∀a:TW,a.length=f.length->bindArgs fd ⟨a,[]⟩=pure (f.zip a)):o9 K fd f []:=λs a _ i=>by
 rw[JZ]at i ⊢;exact .of_eq (h a i)
section
variable{X:Cx}{CX:Ci}{k:Nat}{f C:Addr}{fd:FuncData}{ps:TM}{sp:Sp}{dvs:List V}{ds:TW}{E:XK}{x m:Str}{p pos apos:Pos}{e o:Expr}{es:TC}{ta:TE}{t:TA}
end
section
variable{X:Cx}{CX:Ci}{k:Nat}{f C:Addr}{fd:FuncData}{ps ks:TM}{sp:Sp}{E:XK}{x m:Str}{p pos apos kpos:Pos}{e o:Expr}{es:TC}{kws:List Keyword}{te ta:TE}{t tk:TA}{nm:Option Str}{g:TW->TW->TW}{gV:List V->List V->List V}
end
structure p_(N P:TM)(sc:Scope):Prop where
 kind:sc.kind=.function
 co:sc.isCoroutine=T
 gen:sc.isGenerator=T
 nd:N.Nodup
 pre:N.take P.length=P
 par:∀x∈P,sc.names.lookup x=J .local\/sc.names.lookup x=J .cell
 nofree:∀y∈sc.names,y.2≠.free
def qM{kindOf:Str->Option NameKind}{x:Str}:∀{binds:List (Str×Value)}{m:TH},(∀v,(x,v)∉binds)->bindL kindOf binds m x=m x
 |[],_,_=>rfl
 |(n,v)::r,m,h=>by
  unfold bindL;rw[qM λw a=>h w (l7 _ a)];split
  .have:x≠n:=by rintro rfl;exact h v x_
   simp[this]
  .rfl
def qQ{kindOf:Str->Option NameKind}{x:Str}:∀{binds:List (Str×Value)}{m:TH},(∀v,(x,v)∉binds)->bindC kindOf binds m x=m x
 |[],_,_=>rfl
 |(n,v)::r,m,h=>by
  unfold bindC;rw[qQ λw a=>h w (l7 _ a)];split
  .rfl
  .have:x≠n:=by rintro rfl;exact h v x_
   simp[this]
def qX{kindOf:Str->Option NameKind}{x:Str}{v:Value}:∀{P:TM}{a:TW}{i:Nat}{m:TH},P.Nodup->P[i]?=J x->a[i]?=J v->kindOf x=J .local ->
  bindL kindOf (P.zip a) m x=J v
 |[],_,_,_,_,h,_,_=>by simp at h
 |_::_,[],_,_,_,_,h,_=>by simp at h
 |p::P,w::a,0,m,nd,f,j,l=>by
  simp at f j;subst f;subst j;show bindL kindOf ((p,w)::P.zip a) m p=_;unfold bindL;rw[qM λv hv=>(xk.mp nd).1 (NU hv).1,b_ l];simp
 |p::P,w::a,i+1,m,nd,f,j,l=>by
  show bindL kindOf ((p,w)::P.zip a) m x=_;unfold bindL;exact qX (i:=i) (xk.mp nd).2 (by simpa using f) (by simpa using j) l
def qZ{kindOf:Str->Option NameKind}{x:Str}{v:Value}:∀{P:TM}{a:TW}{i:Nat}{m:TH},P.Nodup->P[i]?=J x->a[i]?=J v->kindOf x≠J .local ->
  bindC kindOf (P.zip a) m x=J v
 |[],_,_,_,_,h,_,_=>by simp at h
 |_::_,[],_,_,_,_,h,_=>by simp at h
 |p::P,w::a,0,m,nd,f,j,l=>by
  simp at f j;subst f;subst j;show bindC kindOf ((p,w)::P.zip a) m p=_;unfold bindC;rw[qQ λv hv=>(xk.mp nd).1 (NU hv).1,e_ l];simp
 |p::P,w::a,i+1,m,nd,f,j,l=>by
  show bindC kindOf ((p,w)::P.zip a) m x=_;unfold bindC;exact qZ (i:=i) (xk.mp nd).2 (by simpa using f) (by simpa using j) l
def start(N:TM)(a:List V):St:=a.map J++List.replicate (N.length-a.length) Y
def t8(u:Ci)(P:Program)(w:World)(K:hH)(mg:TH)(base:Heap)(N:TM)(i:Str)(a:Scope)(f:Addr)(l:Value)(A:Around)(outer:List Env)(s:Shared)(H:Hp)(E:XK):Cx where
 prog:=P
 w:=w
 K:=K
 mg:=mg
 base:=base
 A:=A.deeper (envOfC i a s.heap.objs.size f l)
 N:=N
 s₀:=s
 H₀:=H
 env:=envOfC i a s.heap.objs.size f l
 outer:=outer
 stack:=envOfC i a s.heap.objs.size f l::outer
 ex:=[]
 calm:=I
 fn:=λ_=>I
 pn:=[]
 xe:=λe z=>wpAny (model P w) (A.deeper (envOfC i a s.heap.objs.size f l)) (leaving (envOfC i a s.heap.objs.size f l) e) (λ_ j=>u outer H s E e j) (λy j=>u outer H s E y j) z
def tf{a:Scope}{n:Nat}{x:Str}(h:a.names.lookup x=J .cell):∃c,(cellsFrom n a.names []).lookup x=J c:=by have q:=PySem.W.cellsFrom_some a.names n [] (.inl h);exact Option.isSome_iff_exists.mp q
def xX{CX:Ci}{P:Program}{w:World}{K:hH}{mg:TH}{base:Heap}{N F:TM}{l:Str}{j:Scope}{f:Addr}{U:Value}{A:Around}{outer:List Env}{s s1:Shared}{H:Hp}{E:XK}{W:TW}{C:List V}(S:p_ N F j)(hd:A.handled=Y)(e0:Df P w K mg base A outer s H)(hl:C.length=F.length)(r:aG C W)(x:InCallC s s.heap.objs.size (bindL (envOfC l j s.heap.objs.size f U).kindOf (F.zip W) λ_=>Y) (cellsFrom (s.heap.objs.size+1) j.names []) (bindC (envOfC l j s.heap.objs.size f U).kindOf (F.zip W) λ_=>Y) s1):
  Inv (t8 CX P w K mg base N l j f U A outer s H E) [] (start N C) H s1:=by
 have ai:F.length<=N.length:=by have:=congrArg List.length S.pre;rw[Ky]at this;ext
 obtain⟨R,tk,rfl,X⟩:=x.done;have L:∀b:Addr,b∉(t8 CX P w K mg base N l j f U A outer s H E).ex:=λb z=>absurd (show b∈([]:TV)from z) (by simp)
 refine⟨⟨e0.mod,S.kind,rfl,rfl,i_ _,λy z c R B=>?_,λy G=>?_,λy c _ h=>?_,λ_=>hd,Around.frames_deeper e0.frames,.inr ⟨rfl,rfl⟩,λb z=>absurd z (L b),e0.bs,e0.bsz,λb _ _=>L b,λb z=>absurd z (L b),e0.funs,e0.frf,e0.tree,⟨_,_,rfl,S.gen,S.co,rfl,rfl⟩⟩,
  rfl,e0.bare,Un.kept X,⟨_,x.toInCall.ns,λi y v R B h3=>?_⟩,λy c h=>⟨_,x.cell y c h⟩,e0.hok.fresh (i_ _),λy c h=>?_,λp M=>absurd (show p∈([]:TX)from M) (by simp),e0.hok.kept X,?_⟩
 .exact name_of_addr x.apart (PySem.mem_of_lookup R) (PySem.mem_of_lookup B)
 .have G:j.names.lookup y=J .cell\/j.names.lookup y=J .free:=G;rcases G with G|G
  .exact tf G
  .exact absurd rfl (S.nofree _ (PySem.mem_of_lookup G))
 .exact Fj (x.above y c (PySem.mem_of_lookup h))
 .have Q:i<C.length:=by
   unfold start at B;by_cases Q:i<C.length
   .exact Q
   .rw[Br (by simpa using Q)]at B;rw[F2]at B
    split at B<;>cases B
  have ha:C[i]?=J v:=by
   unfold start at B;rw[qi (by simpa using Q),qo]at B
   cases e:C[i]? with
   |none=>rw[e]at B;cases B
   |some a=>rw[e]at B;cases B;rfl
  obtain⟨u,Z,rv⟩:=r.get ha;have M:F[i]?=J y:=by rw[<-S.pre,OQ (by ext)];exact R
  have O:F.Nodup:=by rw[<-S.pre];exact S.nd.sublist (List.take_sublist _ _)
  refine⟨u,rv,?_⟩;rcases S.par y (AL M)with k|k
  .exact .inl ⟨k,qX O M Z k⟩
  .obtain⟨c,e⟩:=tf (n:=s.heap.objs.size+1) k;refine .inr ⟨.inl k,c,e,?_⟩;have q:=x.cell y c e;rw[qZ O M Z (by show j.names.lookup y≠_;rw[k];decide)]at q;exact q
 .exact e0.hok.fresh (Fj (x.above y c (PySem.mem_of_lookup h)))
 .unfold start;show _=N.length;rw[BP,wv,Km];ext
def Lc{Z:Ci}{P:Program}{w:World}{K:hH}{mg:TH}{base:Heap}{k:Nat}{f:Addr}{G i:Str}{z:Arguments}{B:Ti}{a:Scope}{dV kV U pm l ct oc:Value}{an od:Option Addr}{ap:Array (TZ)}{N W:TM}{sp:Sp}(lk:K.lookup f=J ⟨oc,od,.func (PySem.W.fnOf G i z B a dV kV U pm an l ct),ap⟩)(ar:PySem.W.codeIn K l i=I)(S:p_ N W a)(len:∀C H Q E,sp C H Q E->C.length=W.length)(L:∀(A:Around)(outer:List Env)(s:Shared)(H:Hp)(C:List V)(Q:VK)(E:XK),Room k (A.deeper (envOfC i a s.heap.objs.size f l))->sp C H Q E ->
   ∃t,PSs (t8 Z P w K mg base N i a f l A outer s H E) B t/\t { nx:=λ_ F=>Q .non F,rt:=Q} (start N C) H):
  FnOk P w K mg base Z (k+1) f (PySem.W.fnOf G i z B a dV kV U pm an l ct) W sp:=by
 refine⟨len,λA outer s H as us C Q E hr e0 hb r R=>?_⟩;have hl:=len _ _ _ _ R;have KX:K.In s.heap:=e0.mod.kin.keeps λb o e=>(e0.bs b o e).1;have ai:s.heap.NoLimit:=e0.mod.nolimit.keeps λb o e=>(e0.bs b o e).1;have M:∀y∈W.zip us,a.names.lookup y.1=J .local\/(a.names.lookup y.1=J .cell/\((cellsFrom (s.heap.objs.size+1) a.names []).lookup y.1).isSome=I):=λ⟨n,v⟩ hy=>by
  rcases S.par n (NU hy).1 with q|q
  .exact .inl q
  .exact .inr ⟨q,PySem.W.cellsFrom_some _ _ _ (.inl q)⟩
 refine codeAny_call_function hr.depth (KX _ _ lk) rfl S.co S.gen rfl (PySem.W.codeRec_of KX ar) (hb _ _ _ _ ?_);refine wpAny_newFunctionEnv_cells S.kind M λenv he s1 x=>?_;subst he;refine⟨ai.keeps x.toInCall.keep,codeAny_func ?_⟩;obtain⟨t,ht,hq⟩:=L A outer s H C Q E (hr.deeper _) R;have al:Inv (t8 Z P w K mg base N i a f l A outer s H E) [] (start N C) H s1:=xX S hr.hd e0 hl r x;refine wpAny_mono (ht [] s1 (start N C) H _ al hq) (λfl s' O=>?_) λe s' O=>O;have fin:∀{X:St}{F:Hp}{v:V}{u:Value},Inv (t8 Z P w K mg base N i a f l A outer s H E) [] X F s'->aJ v u->Q v F->CE outer P w H s Q u s' :=
  λ{X F v u} j rv q=>⟨v,F,j.os,j.bare,j.base,j.hok,rv,q⟩
 cases fl with
 |ret u =>
  obtain⟨v,X,F,j,rv,q⟩:=O;exact fin j rv q
 |next =>
  obtain⟨X,F,j,q⟩:=O;exact fin (v:=V.non) (u:=Value.none) j rfl q
 |brk =>
  obtain⟨_,_,_,q⟩:=O;exact False.elim q
 |cont =>
  obtain⟨_,_,_,q⟩:=O;exact False.elim q
section
variable{X:Cx}{x:Str}{p pos:Pos}{e:Expr}{es:TC}{t:TA}{id T:String}{r:List V->Hp->VK->Prop}
def PQ(r:List V->Hp->VK->Prop)(t:TA):TE:=λZ H Q=>t Z H λf a=>r f a Q
def n8(u:cG X (.builtin id) r)(l:Gl X x)(z:X.mg x=Y)(hv:bootBuiltins x=J (.builtin id))(G:PA X (e::es) t)(O:x≠"__name__":=by decide)(i:(x==("__debug__":Str))=false:=by decide)(P:starEach (e::es) X.env=(false,eval e X.env)::starEach es X.env:=by rfl)(f:(backTo pos (starEach es X.env)).any (·.1)=false:=by rfl):PE X (.Call (.Name x p) (e::es) [] pos) (PQ r t):=by
 intro j s Z H Q a h;refine wpAny_Call_Name_kw (gq a l z hv ?_ O i);exact PyProof.Rows.callWith_builtin1 (kx (G pos j s Z H _ a h) λF M ⟨E,C,B,y,L⟩=>u j M Z C E F Q B y L) P f
def rn(u:cG X (.type T) r)(l:Gl X x)(z:X.mg x=Y)(hv:bootBuiltins x=J (.type T))(G:PA X (e::es) t)(O:x≠"__name__":=by decide)(i:(x==("__debug__":Str))=false:=by decide)(P:starEach (e::es) X.env=(false,eval e X.env)::starEach es X.env:=by rfl)(f:(backTo pos (starEach es X.env)).any (·.1)=false:=by rfl):PE X (.Call (.Name x p) (e::es) [] pos) (PQ r t):=by
 intro j s Z H Q a h;refine wpAny_Call_Name_kw (gq a l z hv ?_ O i);exact PyProof.Rows.callWith_type1 (kx (G pos j s Z H _ a h) λF M ⟨E,C,B,y,L⟩=>u j M Z C E F Q B y L) P f
end
end L2
namespace HT
open PyProof.Rows
section
open PySem.SeqAt
open PySem.AutoSeq1 (wpAny_loadPart')
open PySem.MeetsSeq PySem.MeetsSeq2 PySem.MeetsSeq3
end
section
variable{prog:Program}{w:World}{A:Around}{E:TF}{s:Shared}
def Dg{t b:Addr}{i a:TW}{Q:TF}(U:IsTup s.heap t i.toArray)(R:IsTup s.heap b a.toArray)(hv:i≠[])(P:a=[]->Q (.ref t) s)(S:a≠[]->Q (.ref s.heap.objs.size) { s with heap:=s.heap.push { cls:=.type "tuple",data:=.seq (i++a).toArray}})(C:i.length+a.length<=sizeLine):wpAny (model prog w) A (binaryOp .Add (.ref t) (.ref b)) Q E s:=by
 obtain⟨⟨cls,H,O,F⟩,B,G,n,hd⟩:=id U;obtain⟨⟨L,y,data2,j⟩,f,u,M,l⟩:=id R;simp only at G hd u l;subst G hd u l;have e:i.toArray++a.toArray=(i++a).toArray:=by simp
 by_cases z:a=[]
 .exact concat_meets ⟨_,B,rfl⟩ ⟨_,f,rfl⟩ noFill_tuple_add seq_tuple_add PySem.F.slot_tuple_add PySem.F.entry_tuple_add (PySem.F.args_tuple_add_2 _ _)
   (tuple_addW1 t b i.toArray a.toArray n M H y F j (by simpa using hv) (by simp[z])) ⟨B,f,P z⟩
 .refine concat_meets ⟨_,B,rfl⟩ ⟨_,f,rfl⟩ noFill_tuple_add seq_tuple_add PySem.F.slot_tuple_add PySem.F.entry_tuple_add (PySem.F.args_tuple_add_2 _ _)
   (tuple_addW2 t b i.toArray a.toArray n M H y F j (by simpa using hv) (by simpa using z) (by rw[tt,tt];exact C)) ⟨B,f,?_⟩
  rw[e];exact S z
def lp(n d:Nat):TB->Nat
 |none=>d
 |some v=>if v<0 then(v+(n:Int)).toNat else min v.toNat n
def jR(n d:Nat):lp n d Y=d:=rfl
def mY(n d k:Nat):lp n d (J (k:Int))=min k n:=by show(if(k:Int)<0 then((k:Int)+(n:Int)).toNat else min (k:Int).toNat n)=min k n;rw[e_ (by ext),BK]
def GP(n d:Nat)(hd:d<=n)(o:TB):lp n d o<=n:=by
 cases o with
 |none=>exact hd
 |some v =>
  show(if v<0 then(v+(n:Int)).toNat else min v.toNat n)<=n;by_cases hv:v<0
  .rw[b_ hv];ext
  .rw[e_ hv];exact Nat.min_le_right _ _
def v4(v:Int)(n d:Nat):(if v<0 then max (v+(n:Int)) 0 else min v (n:Int))=((lp n d (J v):Nat):Int):=by
 show(if v<0 then max (v+(n:Int)) 0 else min v (n:Int))=(((if v<0 then(v+(n:Int)).toNat else min v.toNat n):Nat):Int);by_cases hv:v<0
 .simp only[b_ hv];ext
 .simp only[e_ hv];ext
def wV(lo a:TB)(n:Nat):Builtin.Slice.sliceAdjust lo a 1 (n:Int)=(((lp n 0 lo:Nat):Int),((lp n n a:Nat):Int)):=by
 have f:¬((1:Int)<0):=by ext
 unfold Builtin.Slice.sliceAdjust;simp only[f,if_false];refine Prod.ext ?_ ?_
 .cases lo with
  |none=>rfl
  |some v=>exact v4 v n 0
 .cases a with
  |none=>rfl
  |some v=>exact v4 v n n
def wQ(i j:Nat):Builtin.Slice.slicePlaces (i:Int) (j:Int) 1=j-i:=by
 unfold Builtin.Slice.slicePlaces;have a:(1:Int)>0:=by ext
 simp only[a,if_true,Int.ediv_one]
 split<;>ext
def oY{v:Value}{o:TB}{Q:TB->Shared->Prop}(p:IsPart v o)(h:Q o s):wpAny (model prog w) A (Builtin.Slice.slicePartIndex v) Q E s:=by
 cases p with
 |none=>exact slicePart_none h
 |int i t=>exact slicePart_int h
def n5{l:Addr}{vl j:Value}{lo a:TB}{n:Nat}{Q:Int×Int×Nat->Shared->Prop}(B:s.heap.IsSliceOf l vl j .none)(y:IsPart vl lo)(z:IsPart j a)(h:Q (((lp n 0 lo:Nat):Int),1,lp n n a-lp n 0 lo) s):wpAny (model prog w) A (Builtin.Slice.sliceApplied (.ref l) (pure (n:Int))) Q E s:=by
 obtain⟨os,f,u,i⟩:=id B;unfold Builtin.Slice.sliceApplied Builtin.Slice.sliceFields;refine g_ (g_ (wpAny_field f i (x:=vl) rfl (g_ (wpAny_field f i (x:=j) rfl (g_ (wpAny_field f i (x:=.none) rfl (j_ ?_)))))));refine g_ (slicePart_none ?_);show wpAny _ _ (if((1:Int)==0)=I then _ else _) _ _ s;rw[e_ (by decide)];refine g_ (oY y (g_ (oY z (g_ (j_ ?_)))));show wpAny _ _ (match Builtin.Slice.sliceAdjust lo a 1 (n:Int)with | (lo,a)=>pure (lo,(1:Int),Builtin.Slice.slicePlaces lo a 1)) _ _ s;rw[wV lo a n];show wpAny _ _ (pure (((lp n 0 lo:Nat):Int),(1:Int),Builtin.Slice.slicePlaces ((lp n 0 lo:Nat):Int) ((lp n n a:Nat):Int) 1)) _ _ s;rw[wQ];exact j_ h
def Bc(xs:Array Value)(i k:Nat):((List.range k).filterMap λ(m:Nat)=>xs[((i:Int)+(m:Int)*1).toNat]?).toArray=((xs.toList.drop i).take k).toArray:=by
 have e:(λ(m:Nat)=>xs[((i:Int)+(m:Int)*1).toNat]?)=λm=>xs[i+m]?:=by
  funext m
  have:((i:Int)+(m:Int)*1).toNat=i+m:=by ext
  rw[this]
 rw[e]
 have:=pick_run xs i k
 rw[List.filterMap_map]at this;have e2:((λx=>xs[x]?)∘λx=>i+x)=λm=>xs[i+m]?:=rfl;rw[e2]at this;rw[this]
def nt{t j:Addr}{items:Array Value}{vl C:Value}{lo f:TB}{Q:TF}(i:IsTup s.heap t items)(B:s.heap.IsSliceOf j vl C .none)(L:IsPart vl lo)(F:IsPart C f)(H:¬(lp items.size 0 lo=0/\lp items.size items.size f=items.size))(h:Q (.ref s.heap.objs.size) { s with heap:=s.heap.push { cls:=.type "tuple",data:=.seq ((items.toList.drop (lp items.size 0 lo)).take (lp items.size items.size f-lp items.size 0 lo)).toArray}})(M:items.size<=sizeLine):wpAny (model prog w) A (getItem (.ref t) (.ref j)) Q E s:=by
 have a:sizeOk (.seq ((items.toList.drop (lp items.size 0 lo)).take (lp items.size items.size f-lp items.size 0 lo)).toArray):=by show((items.toList.drop (lp items.size 0 lo)).take (lp items.size items.size f-lp items.size 0 lo)).toArray.size<=sizeLine;rw[tt,Ky,NQ,JX];ext
 have O:lp items.size items.size f<=items.size:=GP _ _ (i_ _) f;obtain⟨os,l,y,G⟩:=id B;have z:s.TypeIs (.ref j) "slice":=⟨os,l,y⟩;unfold getItem
 try with_reducible refine wpAny_holding ?_
 first | refine g_ (j_ ?_) | skip
 refine g_ (wpAny_sequenceKey i.typeIs (by decide) ?_)
 refine g_ (wpAny_callSpecial?_slot (name:=Str.ofString "__getitem__") i.typeIs PyProof.Rows.slot_tuple_getitem
  (wpAny_call_entry PyProof.Rows.slot_tuple_getitem i.typeIs entry_tuple_getitem ?_ (args_tuple_getitem _ _)))
 show wpAny _ _ (Builtin.Tuple.tupleItemsOf (.ref t) >>= _) _ _ s;refine g_ (tupleItemsOf_ i ?_);refine g_ (wpAny_typeOf z ?_);rw[b_ (by decide)];refine g_ (n5 B L F ?_);have u:¬((((lp items.size 0 lo:Nat):Int)==0&&(1:Int)==1&&(lp items.size items.size f-lp items.size 0 lo)==items.size)=I):=by intro q;rw[BA,BA]at q;have R:((lp items.size 0 lo:Nat):Int)=0:=eq_of_beq q.1.1;have P:lp items.size items.size f-lp items.size 0 lo=items.size:=eq_of_beq q.2;exact H ⟨by ext,by ext⟩
 show wpAny _ _ (if(((lp items.size 0 lo:Nat):Int)==0&&(1:Int)==1&&(lp items.size items.size f-lp items.size 0 lo)==items.size)=I then _ else _) _ _ s;rw[e_ u,Bc]
 first
  |exact g_ (m:=Builtin.Tuple.tupleExact _) (wpAny_newObj_type (j_ ⟨_,rfl,j_ h⟩) a)
  |exact g_ (m:=Builtin.Tuple.tupleExact _) (wpAny_newObj_type (g_ (j_ (j_ ⟨_,rfl,j_ h⟩))) a)
  |exact g_ (g_ (m:=Builtin.Tuple.tupleExact _) (wpAny_newObj_type (j_ (j_ ⟨_,rfl,j_ h⟩)) a))
  |exact g_ (g_ (m:=Builtin.Tuple.tupleExact _) (wpAny_newObj_type (j_ ⟨_,rfl,j_ h⟩) a))
end
end HT
namespace L2
open PySem.Spec PyProof.Rows
abbrev TO:=St->Hp->(TB->Hp->Prop)->Prop
def PO(X:Cx)(e:Option Expr)(t:TO):Prop :=
 ∀(a:TX)(s:Shared)(Z:St)(H:Hp)(Q:TB->Hp->Prop),Inv X a Z H s->t Z H Q ->
  wpAny (model X.prog X.w) X.A (evalPart e X.env) (λu i=>∃o f,Inv X a Z f i/\IsPart u o/\Q o f) X.xe s
def Dh:TO:=λ_ H Q=>Q Y H
def Ld(t:TE):TO:=λZ H Q=>t Z H λx a=>∃i,x=.int i/\Q (J i) a
section
variable{X:Cx}{e:Expr}{te:TE}{lo hi:Option Expr}{tl th:TO}{pos p2:Pos}
def Di:PO X Y Dh:=by intro f s Z H Q a h;rw[evalPart_none];exact j_ ⟨Y,H,a,.none,h⟩
def Dj(h:PE X e te):PO X (J e) (Ld te):=by intro z s Z H Q a j;rw[evalPart_some];refine kx (h z s Z H _ a j) λu C ⟨x,y,l,f,B⟩=>?_;obtain⟨i,rfl,q⟩:=B;obtain⟨t,rfl⟩:=f;exact⟨J i,y,l,.int i t,q⟩
def N5(X:Cx)(r:V->TB->TB->Hp->VK->Prop):Prop :=
 ∀(j:TX)(s:Shared)(Z:St)(H:Hp)(x:V)(v vl f:Value)(lo hi:TB)(i:Addr)(Q:VK),Inv X j Z H s->aJ x v->s.heap.IsSliceOf i vl f .none->IsPart vl lo->IsPart f hi->r x lo hi H Q ->
  ∃a id,typeLookup (.type a) "__getitem__"=pure (J (.builtin id))/\s.TypeIs v a/\wpAny (model X.prog X.w) X.A (getItem v (.ref i)) (EP X j Z Q) X.xe s
def SV(r:V->TB->TB->Hp->VK->Prop)(te:TE)(tl th:TO):TE:=λZ H Q=>te Z H λx f=>tl Z f λl a=>th Z a λu i=>r x l u i Q
def A2{r:V->TB->TB->Hp->VK->Prop}(M:N5 X r)(he:PE X e te)(U:PO X lo tl)(R:PO X hi th):PE X (.Subscript e (.Slice lo hi Y p2) pos) (SV r te tl th):=by intro f s Z H Q j h;refine Subscript_ (kx (he f s Z H _ j h) λv s1 ⟨x,L,F,C,q1⟩=>?_);refine wpAny_Slice (kx (U f s1 Z L _ F q1) λvl s2 ⟨l,G,S,pl,W⟩=>kx (R f s2 Z G _ S W) λi a ⟨u,y,P,E,z⟩=>?_);rw[evalPart_none];refine j_ ?_;have I4:Inv X f Z y { a with heap:=a.heap.push { cls:=.type "slice",data:=.fields #[vl,i,.none]}}:=P.kept (t':=a.toks) λb ob q=>lR _ q;obtain⟨O,id,hT,ht,B⟩:=M f { a with heap:=a.heap.push { cls:=.type "slice",data:=.fields #[vl,i,.none]}} Z y x v vl i l u a.heap.objs.size Q I4 C (Heap.IsSliceOf.new ..) pl E z;show wpAny (model X.prog X.w) X.A (subscriptTail e (.Slice lo hi Y p2) v (.ref a.heap.objs.size)) (EP X f Z Q) X.xe { a with heap:=a.heap.push { cls:=.type "slice",data:=.fields #[vl,i,.none]}};exact tail_any (ops:=[.ref a.heap.objs.size,v]) ht hT B (by with_unfolding_all rfl)
def km(xs:List V)(lo hi:TB):List V:=(xs.drop (HT.lp xs.length 0 lo)).take (HT.lp xs.length xs.length hi-HT.lp xs.length 0 lo)
def nI(xs:List V)(lo hi:TB):(km xs lo hi).length<=xs.length:=by unfold km;rw[Ky,NQ];ext
def PX(K:hH):V->TB->TB->Hp->VK->Prop:=λx lo hi H Q=>∃a xs,x=.ref a/\SqT K H a xs /\
 ¬(HT.lp xs.length 0 lo=0/\HT.lp xs.length xs.length hi=xs.length)/\∀p,H p=Y->Q (.ref p) (mf H p (.tup (km xs lo hi)))
def GQ:N5 X (PX X.K):=by
 intro L s Z H x v vl M lo hi G Q i y E F z h;obtain⟨a,xs,rfl,C,B,q⟩:=h;cases y;obtain⟨j,r,u,l⟩:=i.tuple C;have f:j.toArray.size=xs.length:=by rw[tt];exact r.length.symm
 refine⟨"tuple",_,PyProof.Rows.slot_tuple_getitem.lookup,u.typeIs,?_⟩;refine HT.nt u E F z (by rw[f];exact B) ?_ (by rw[f];exact l);rw[f];refine⟨.ref s.heap.objs.size,_,i.laid (t':=s.toks) (o:=.tup (km xs lo hi)) (λb O q=>lR _ q) (i_ _) ?_,rfl,q _ (i.hok.fresh (i_ _))⟩;exact⟨pf (nI xs lo hi) l,_,(r.drop (HT.lp xs.length 0 lo)).take (HT.lp xs.length xs.length hi-HT.lp xs.length 0 lo),iP.new _ _⟩
def Lf(K:hH):R2:=λx y H Q=>∃a b xs ys,x=.ref a/\y=.ref b/\SqT K H a xs/\SqT K H b ys/\xs≠[]/\xs.length+ys.length<=sizeLine /\
 (ys=[]->Q (.ref a) H)/\(ys≠[]->∀p,H p=Y->Q (.ref p) (mf H p (.tup (xs++ys))))
def aG.nil_iff{xs:List V}{a:TW}(r:aG xs a):a=[]↔xs=[]:=by
 cases r with
 |nil=>simp
 |cons _ _=>simp
def Dk:OpR X (binaryOp .Add) (Lf X.K):=by intro S s Z H x y v u Q f C R h;obtain⟨a,b,xs,ys,rfl,rfl,O,G,E,B,P,M⟩:=h;cases C;cases R;obtain⟨L,j,F,_⟩:=f.tuple O;obtain⟨l,i,p2,_⟩:=f.tuple G;refine HT.Dg F p2 (λz=>E (j.nil_iff.mp z)) (λz=>⟨.ref a,H,f,rfl,P (i.nil_iff.mp z)⟩) (λz=>?_) (by rw[<-j.length,<-i.length];exact B);refine⟨.ref s.heap.objs.size,_,f.laid (t':=s.toks) (o:=.tup (xs++ys)) (λb U q=>lR _ q) (i_ _) ?_,rfl,M (λw=>z (i.nil_iff.mpr w)) _ (f.hok.fresh (i_ _))⟩;exact⟨by rw[BP];exact B,_,j.append i,iP.new _ _⟩
end
def wC(n:Nat)(i:Int):Option Nat:=if 0<=i then(if i<n then J i.toNat else Y)else if -(n:Int)<=i then J (i+n).toNat else Y
def ng{α:Type}(xs:List α)(i:Int):Option α:=(wC xs.length i).bind λj=>xs[j]?
def lY{n:Nat}{i:Int}{j:Nat}(h:wC n i=J j):seqIndex? i n=J j/\j<n /\ -(n:Int)<=i/\i<n:=by
 unfold wC at h;by_cases f:0<=i
 .rw[b_ f]at h;by_cases a:i<n
  .rw[b_ a]at h;have e:i.toNat=j:=Option.some.inj h;exact⟨by rw[seqIndex_of f a,e],by ext,by ext,a⟩
  .rw[e_ a]at h;cases h
 .rw[e_ f]at h;by_cases a:-(n:Int)<=i
  .rw[b_ a]at h;have e:(i+n).toNat=j:=Option.some.inj h;exact⟨by rw[seqIndex_neg (by ext) a,e],by ext,a,by ext⟩
  .rw[e_ a]at h;cases h
def qk{α:Type}{xs:List α}{i:Int}{v:α}(h:ng xs i=J v):∃j,seqIndex? i xs.length=J j/\xs[j]?=J v/\j<xs.length /\ -(xs.length:Int)<=i/\i<xs.length:=by
 unfold ng at h
 cases e:wC xs.length i with
 |none=>rw[e]at h;cases h
 |some j =>
  rw[e]at h;obtain⟨f,l,u,a⟩:=lY e;exact⟨j,f,h,l,u,a⟩
def cC{α:Type}{xs:List α}{j:Nat}{v:α}(h:xs[j]?=J v):ng xs (j:Int)=J v:=by
 have a:j<xs.length:=(o_.mp h).1;have e:wC xs.length (j:Int)=J j:=by unfold wC;rw[b_ (by ext),b_ (by ext)];simp
 unfold ng;rw[e];exact h
def jB(b:Expr):Prop:=∀o i,subscripted b T o i=operate [o,i] (getItem o i)
def IxR(X:Cx)(r:R2):Prop :=
 ∀(f a:Expr)(i:TX)(s:Shared)(Z:St)(H:Hp)(x y:V)(v u:Value)(Q:VK),Inv X i Z H s->aJ x v->aJ y u->r x y H Q ->
  subscripted a T v u=operate [v,u] (getItem v u)->wpAny (model X.prog X.w) X.A (subscriptTail f a v u) (EP X i Z Q) X.xe s
def J0(X:Cx)(id:String)(r:V->List V->Hp->VK->Prop):Prop :=
 ∀(f:TX)(s:Shared)(Z:St)(H:Hp)(x:V)(xs:List V)(v:Value)(a:TW)(Q:VK),Inv X f Z H s->aJ x v->aG xs a->r x xs H Q ->
  wpAny (model X.prog X.w) X.A (call (.builtin id) (v::a)) (EP X f Z Q) X.xe s
section
variable{X:Cx}{a b:Expr}{ta tb:TE}{pos:Pos}
def IxR.or{r C:R2}(h:IxR X r)(F:IxR X C):IxR X (λx y H Q=>r x y H Q\/C x y H Q):=by
 intro f i B s Z H x y v u Q j l E q z;rcases q with q|q
 .exact h f i B s Z H x y v u Q j l E q z
 .exact F f i B s Z H x y v u Q j l E q z
def Lg{r:R2}(l:IxR X r)(F:PE X a ta)(B:PE X b tb)(z:jB b):PE X (.Subscript a b pos) (K3 r ta tb):=by intro C s Z H Q f h;exact Subscript_ (GF F B f h λv u L x y j E i G q=>l a b C L Z j x y v u Q E i G q (z _ _))
def Lh(K:hH):R2:=λx y H Q=>∃p xs i v,x=.ref p/\y=.int i/\SqL K H p xs/\ng xs i=J v/\Q v H
def Li(K:hH):R2:=λx y H Q=>∃p xs i v,x=.ref p/\y=.int i/\SqT K H p xs/\ng xs i=J v/\Q v H
def Lj:R2:=λx y H Q=>∃z i c,x=.str z/\y=.int i/\z.length<=sizeLine/\ng z.cps.toList i=J c/\Q (.str ⟨#[c]⟩) H
def Dl:IxR X (Lh X.K):=by
 intro B F O s Z H x y v u Q f R ry h M;obtain⟨p,xs,i,z,rfl,rfl,U,he,q⟩:=h;cases R;obtain⟨t,rfl⟩:=ry;obtain⟨E,r,G,hz⟩:=f.list U;obtain⟨j,l,W,h3,S,h5⟩:=qk he;obtain⟨w,P,rw'⟩:=r.get W;have hl:=r.length;have hn:=lj;have fin:EP X O Z Q w s:=⟨z,H,f,rw',q⟩;by_cases L:0<=i
 .have C:i.toNat=j:=by
   rw[seqIndex_of L h5]at l;exact Option.some.inj l
  exact item_listR G.isList L (by ext) (by rw[C];simpa using P) fin M
 .have C:(i+(E.toArray.size:Int)).toNat=j:=by
   rw[seqIndex_neg (by ext) S]at l;rw[tt,<-hl];exact Option.some.inj l
  exact subscriptTail_builtinR (x:=w) G.isList.typeIs slot_list_getitem.lookup
   (wpAny_getItem_list_neg (Q:=λr s'=>r=w/\EP X O Z Q r s') G.isList (by ext) (by rw[tt]<;>ext) (by ext) (by rw[C];simpa using P) ⟨rfl,fin⟩) M
def GR:IxR X (Li X.K):=by
 intro l B C s Z H x y v u Q f F W h M;obtain⟨p,xs,i,z,rfl,rfl,L,he,q⟩:=h;cases F;obtain⟨t,rfl⟩:=W;obtain⟨O,r,E,hz⟩:=f.tuple L;obtain⟨j,G,R,h3,h4,h5⟩:=qk he;obtain⟨w,P,rw'⟩:=r.get R;have S:=r.length;have hn:=lj;have fin:EP X C Z Q w s:=⟨z,H,f,rw',q⟩;exact subscriptTail_builtinR (x:=w) E.typeIs slot_tuple_getitem.lookup
  (getItem_tuple (j:=j) (Q:=λr U=>r=w/\EP X C Z Q r U) E (by ext) (by ext) (by rw[tt,<-S];exact G) (by simpa using P) ⟨rfl,fin⟩) M
def GU:IxR X Lj:=by
 intro f B U s Z H x y v u Q l E P h G;obtain⟨z,i,c,rfl,rfl,S,R,q⟩:=h;obtain⟨t,rfl⟩:=E;obtain⟨W,rfl⟩:=P;obtain⟨j,C,L,h3,F,M⟩:=qk R;have O:z.cps.toList.length=z.length:=by simp[Str.length]
 rw[O]at C F M;have hn:=lj
 exact tail_any (typeIs_str s z t) slot_str_getitem.lookup (getItem_str (c:=c) (by
  have e1:decide (i < -(2^63:Int))=T:=decide_eq_false (by ext);have e2:decide (i>=2^63)=T:=decide_eq_false (by ext)
  rw[e1,e2,Bool.or_false]) (by rw[C];simpa using L) ⟨.str ⟨#[c]⟩,H,l.tok _,⟨_,rfl⟩,q⟩) G
def SW(K:hH):R2:=λx y H Q=>Lh K x y H Q\/Li K x y H Q\/Lj x y H Q
def GV:IxR X (SW X.K):=Dl.or (GR.or GU)
def wL(f:TW)(n j:Nat)(u:Value):Obj.mapSeq (·.setIfInBounds j u) { cls:=.type "list",data:=.seq f.toArray n}={ cls:=.type "list",data:=.seq (f.set j u).toArray n}:=by simp[Obj.mapSeq]
def Inv.lst{j:TX}{Z:St}{H:Hp}{s:Shared}{p:Addr}{xs:List V}(i:Inv X j Z H s)(h:H p=J (.lst xs)):
  ∃(f:TW) (n:Nat),aG xs f/\s.heap.get? p=J { cls:=.type "list",data:=.seq f.toArray n}/\xs.length<=sizeLine:=by
 obtain⟨z,f,n,r,e⟩:=i.hok p _ h;exact⟨f,n,r,e,z⟩
def Inv.lstUpd{z:TX}{Z:St}{H:Hp}{s:Shared}{p:Addr}{xs ys:List V}{j i:TW}{n y:Nat}{f:Obj->Obj}(l:Inv X z Z H s)(h:H p=J (.lst xs))(E:s.heap.get? p=J { cls:=.type "list",data:=.seq j.toArray n})(hf:f { cls:=.type "list",data:=.seq j.toArray n}={ cls:=.type "list",data:=.seq i.toArray y})(r:aG ys i)(B:ys.length<=sizeLine)(t:Nat):
  Inv X z Z (mf H p (.lst ys)) { s with heap:=s.heap.update p f,toks:=t}:=by
 have e:(s.heap.update p f).get? p=J { cls:=.type "list",data:=.seq i.toArray y}:=by rw[RI f E (by rw[hf]<;>rfl),hf]
 refine l.write (x:=p) (e:=p) (by rw[h];trivial) (.inl rfl) (λb u C q=>(RE _ _ (Ne.symm C)).trans q) ⟨_,e⟩ ?_;exact⟨B,i,y,r,e⟩
def Lk:V->V->V->Hp->(Hp->Prop)->Prop:=λo i v H Q=>∃p xs k j,o=.ref p/\i=.int k/\H p=J (.lst xs)/\wC xs.length k=J j/\Q (mf H p (.lst (xs.set j v)))
def A3:KU X Lk:=by
 intro U s Z H o i v ov iv u Q f S W P h;obtain⟨p,xs,k,j,rfl,rfl,E,O,q⟩:=h;cases S;obtain⟨t,rfl⟩:=W;obtain⟨l,n,r,B,R⟩:=f.lst E;obtain⟨y,h2,M,G⟩:=lY O;have C:=r.length;have hn:=lj;have L:Inv X U Z (mf H p (.lst (xs.set j v))) { s with heap:=s.heap.update p (Obj.mapSeq (·.setIfInBounds j u))} :=
  f.lstUpd E B (wL l n j u) (r.set P j) (by rw[Pa];exact R) s.toks
 by_cases F:0<=k
 .have z:k.toNat=j:=by
   rw[seqIndex_of F G]at y;exact Option.some.inj y
  exact PySem.W.ki_setAt B F (by ext) (by rw[tt,<-C];exact G) (by rw[z];exact⟨_,L,q⟩)
 .have z:(k+(l.toArray.size:Int)).toNat=j:=by
   rw[seqIndex_neg (by ext) M]at y;rw[tt,<-C];exact Option.some.inj y
  exact PySem.W.ki_setBack B (by ext) (by rw[tt,<-C];exact M) (by ext) (by rw[z];exact⟨_,L,q⟩)
def tI(lo f:TB)(n:Nat):(sliceBounds lo f Y n).1=((HT.lp n 0 lo:Nat):Int)/\(sliceBounds lo f Y n).2.1=((HT.lp n n f:Nat):Int)/\(sliceBounds lo f Y n).2.2=1:=by
 refine⟨?_,?_,rfl⟩
 .cases lo with
  |none=>simp[sliceBounds,HT.lp]
  |some i =>
   simp only[sliceBounds,HT.lp,Option.getD_none,show(1:Int)>0 by decide,if_true];by_cases h:i<0
   .simp only[h,if_true]<;>ext
   .simp only[h,if_false]<;>ext
 .cases f with
  |none=>simp[sliceBounds,HT.lp]
  |some i =>
   simp only[sliceBounds,HT.lp,Option.getD_none,show(1:Int)>0 by decide,if_true];by_cases h:i<0
   .simp only[h,if_true]<;>ext
   .simp only[h,if_false]<;>ext
def rF(f:TW)(lo i:TB):slicePick f.toArray lo i Y=((f.drop (HT.lp f.length 0 lo)).take (HT.lp f.length f.length i-HT.lp f.length 0 lo)).toArray:=by obtain⟨j,l,u⟩:=tI lo i f.toArray.size;unfold slicePick;rw[j,l,u];simp only[sliceRange_one,pick_run,tt]<;>rfl
def PY(K:hH):V->TB->TB->Hp->VK->Prop:=λx lo f H Q=>∃a xs,x=.ref a/\SqL K H a xs/\∀p,H p=Y->Q (.ref p) (mf H p (.lst (km xs lo f)))
def u5:N5 X (PY X.K):=by intro L s Z H x v vl M lo j G Q f u C F y h;obtain⟨a,xs,rfl,z,q⟩:=h;cases u;obtain⟨E,r,l,B⟩:=f.list z;have i:=r.length;refine⟨"list",_,slot_list_getitem.lookup,l.isList.typeIs,?_⟩;refine wpAny_getItem_list_slice l.isList C F y .none (by simp) ?_ (by rw[tt]<;>ext);rw[rF,<-i];refine⟨.ref s.heap.objs.size,_,f.laid (t':=s.toks) (o:=.lst (km xs lo j)) (λb O q=>lR _ q) (i_ _) ?_,rfl,q _ (f.hok.fresh (i_ _))⟩;exact⟨pf (nI xs lo j) B,_,0,(r.drop (HT.lp xs.length 0 lo)).take (HT.lp xs.length xs.length j-HT.lp xs.length 0 lo),w_ _ rfl⟩
def ux:cG X (.type "list") (λxs H Q=>∃p ys,xs=[.ref p]/\(SqL X.K H p ys\/SqT X.K H p ys)/\∀l,H l=Y->Q (.ref l) (mf H l (.lst ys))):=by
 intro P s Z H xs R Q i r h;obtain⟨p,ys,rfl,C,q⟩:=h;obtain⟨u,rfl,O⟩:=fU r;cases O;have fin:∀(f:TW),aG ys f->ys.length<=sizeLine->∀(j:Heap)(z:Nat),(∀b M,s.heap.get? b=J M->j.get? b=J M) ->
   j.get? s.heap.objs.size=J { cls:=.type "list",dict:=Y,data:=.seq f.toArray z,slots:=#[]}->EP X P Z Q (.ref s.heap.objs.size) { s with heap:=j}:=λf y E j z kp e =>
  ⟨.ref s.heap.objs.size,_,i.laid (t':=s.toks) kp (i_ _) (show ObjOk X.prog X.w _ j _ (.lst ys) from⟨E,f,z,y,e⟩),rfl,q _ (i.hok.fresh (i_ _))⟩
 rcases C with C|C
 .obtain⟨f,y,L,E⟩:=i.list C;have B:=y.length;obtain⟨o,G,F,n,hd⟩:=L.isList;exact call_list_seq p (.inl rfl) G F hd (λj z kp e=>fin f y E j z kp e) (by simp only[tt]<;>ext)
 .obtain⟨f,y,L,E⟩:=i.tuple C;have B:=y.length;obtain⟨o,G,F,n,hd⟩:=L;exact call_list_seq p (.inr rfl) G F hd (λj z kp e=>fin f y E j z kp e) (by simp only[tt]<;>ext)
def kW:cG X (.type "tuple") (λxs H Q=>∃p ys,xs=[.ref p]/\((SqL X.K H p ys/\∀l,H l=Y->Q (.ref l) (mf H l (.tup ys)))\/(SqT X.K H p ys/\Q (.ref p) H))):=by
 intro G s Z H xs O Q f r h;obtain⟨p,ys,rfl,h⟩:=h;obtain⟨u,rfl,L⟩:=fU r;cases L;rcases h with⟨y,q⟩|⟨y,q⟩
 .obtain⟨i,z,B,F⟩:=f.list y;have C:=z.length;refine call_tuple_list B.isList (λj kp=>?_) (by simp only[tt]<;>ext);have E:Inv X G Z H { s with heap:=j}:=f.kept (t':=s.toks) kp;have M:Inv X G Z (mf H j.objs.size (.tup ys)) { s with heap:=j.push { cls:=.type "tuple",data:=.seq i.toArray}} :=
   E.laid (t':=s.toks) (λb o e=>lR _ e) (i_ _) (show ObjOk X.prog X.w _ _ _ (.tup ys) from⟨F,i,z,iP.new _ _⟩)
  exact⟨.ref j.objs.size,_,M,rfl,q _ (E.hok.fresh (i_ _))⟩
 .obtain⟨i,z,B,F⟩:=f.tuple y;exact call_tuple_same B ⟨.ref p,H,f,rfl,q⟩
def PZ(K:hH)(f:String)(x:V)(H:Hp):Prop:=match x with
 |.str _=>f="str"
 |.int _=>f="int"
 |.ref p=>(f="list"/\∃xs,SqL K H p xs)\/(f="tuple"/\∃o,K.lookup p=J o/\o.cls=.type "tuple"/\o.dict=Y) \/
   (f="dict"/\((∃i,H p=J (.dK i))\/∃i,H p=J (.dT i)))\/(f="set"/\∃S n,H p=J (.set S n))
 |_=>False
def GW{G:TX}{Z:St}{H:Hp}{s:Shared}{l:String}{x:V}{v:Value}(f:Inv X G Z H s)(r:aJ x v)(ty:PZ X.K l x H):
  s.TypeIs v l/\∀a,v=.ref a->∃B,s.heap.get? a=J B/\B.dict=Y:=by
 cases x with
 |str z =>
  obtain⟨t,rfl⟩:=r;cases(show l="str" from ty);exact⟨typeIs_str s z t,λ_ e=>nomatch e⟩
 |int i =>
  obtain⟨t,rfl⟩:=r;cases(show l="int" from ty);exact⟨typeIs_int s i t,λ_ e=>nomatch e⟩
 |ref p =>
  cases r;rcases ty with⟨rfl,xs,E⟩|⟨rfl,o,j,C,hd⟩|⟨rfl,j⟩|⟨rfl,S,n,j⟩
  .obtain⟨F,_,y,_⟩:=f.list E;refine⟨y.isList.typeIs,λa e=>?_⟩;cases e;obtain⟨o,n,e,c,hd,_⟩:=y;exact⟨o,e,hd⟩
  .refine⟨⟨o,f.kIn p o j,C⟩,λa e=>?_⟩;cases e;exact⟨o,f.kIn _ o j,hd⟩
  .have z:∃o,s.heap.get? p=J o/\o.ExactDict:=by
    rcases j with⟨u,j⟩|⟨u,j⟩
    .obtain⟨_,_,_,_,o,_,_,e,ex,_⟩:=f.hok p _ j;exact⟨o,e,ex⟩
    .obtain⟨_,_,_,_,o,_,_,e,ex,_⟩:=f.hok p _ j;exact⟨o,e,ex⟩
   obtain⟨o,e,ex⟩:=z;refine⟨⟨o,e,ex.1⟩,λa e2=>?_⟩;cases e2;exact⟨o,e,ex.2.1⟩
  .obtain⟨o,_,_,_,e,ex,_⟩:=f.hok p _ j;refine⟨⟨o,e,ex.1⟩,λa e2=>?_⟩;cases e2;exact⟨o,e,ex.2.1⟩
 |_=>exact False.elim ty
def SX(K:hH)(f:String)(r:V->List V->Hp->VK->Prop)(to:TE)(t:TA):TE:=λZ H Q=>to Z H λx i=>PZ K f x i/\t Z i λxs j=>r x xs j Q
variable{o e:Expr}{es:TC}{to:TE}{t:TA}{name:Str}{apos cpos:Pos}{T id:String}{r:V->List V->Hp->VK->Prop}
def Ll(pa:PlainAttrs T)(slot:Slot T name id)(u:typeOf (.builtin id)=pure (.type "method_descriptor"))(F:J0 X id r)(W:PE X o to)(ha:PA X (e::es) t)(j:attributeBase o name X.env (eval o X.env)=eval o X.env:=by rfl)(l:((backTo cpos (starEach (e::es) X.env)).all (λx=>!x.1)&&(backToKw cpos (keywordEach [] X.env)).all (λx=>x.1.isSome)
   && decide ((e::es).length+([]:List Keyword).length+(if([]:List Keyword).isEmpty then 0 else 1)<30))=I:=by rfl)(i:(apos.endLine==cpos.line)=I:=by rfl)(P:starEach (e::es) X.env=(false,eval e X.env)::starEach es X.env:=by rfl)(f:(backTo cpos (starEach es X.env)).any (·.1)=false:=by rfl):
  PE X (.Call (.Attribute o name apos) (e::es) [] cpos) (SX X.K T r to t):=by
 intro z s Z H Q y h;refine wpAny_Call_method_late j l i rfl (kx (W z s Z H _ y h) λv s1 ⟨x,M,C,B,ty,q1⟩=>?_);obtain⟨L,U⟩:=GW C B ty;refine⟨T,id,pa,slot,u,L,U,?_⟩;have E:=ha cpos z s1 Z M _ C q1;rw[P]at E ⊢;refine Calls.callWith_builtin (by show(false||(backTo cpos (starEach es X.env)).any (·.1))=false;rw[f]<;>rfl) (Calls.evalArgs_plain ?_);exact kx E λR s2 ⟨O,G,I2,S,q2⟩=>F z s2 Z G x O v R Q I2 B S q2
end
def RM(X:Cx)(id:String)(r:V->List V->Hp->VK->Prop):Prop :=
 ∀(f:TX)(s:Shared)(Z:St)(H:Hp)(x:V)(xs:List V)(v:Value)(a:TW)(Q:VK),Inv X f Z H s->aJ x v->aG xs a->r x xs H Q ->
  wpAny (model X.prog X.w) X.A (call (.builtin id) (v::a)) (EP X f Z Q) X.xe s
def aG.zero{a:TW}(h:aG [] a):a=[]:=by cases h;rfl
def aG.one{x:V}{a:TW}(h:aG [x] a):∃u,a=[u]/\aJ x u:=by cases h with|cons r t=>exact⟨_,by rw[aG.zero t],r⟩
def aG.rep{xs:List V}{a:TW}(h:aG xs a):∀k:Nat,aG (List.replicate k xs).flatten (List.replicate k a).flatten
 |0=>.nil
 |k+1=>by
  rw[B7,B7,Fe,Fe];exact aG.append h (aG.rep h k)
def qO(f:TW):∀(k:Nat)(a:TW),
  List.foldl (λi j=>i++j) a.toArray (List.replicate k f.toArray)=(a++(List.replicate k f).flatten).toArray
 |0,a=>by simp
 |k+1,a=>by
  have e:a.toArray++f.toArray=(a++f).toArray:=by simp
  have e2:(a++f)++(List.replicate k f).flatten=a++(List.replicate (k+1) f).flatten:=by rw[B7,Fe,CZ]
  rw[<-e2,<-qO f k (a++f),<-e,B7,List.foldl_cons]
section
variable{X:Cx}{Lz:List (Addr × Obj)}{Z:St}{H:Hp}{s:Shared}{l b:Addr}{xs ys zs:List V}
def Inv.lset{a its':TW}{n:Nat}{f:Array Value->Array Value}{z:Nat}(i:Inv X Lz Z H s)(j:H l=J (.lst xs))(e:s.heap.get? l=J { cls:=.type "list",data:=.seq a.toArray n})(hf:f a.toArray=its'.toArray)(hv:aG ys its')(B:ys.length<=sizeLine):
  Inv X Lz Z (mf H l (.lst ys)) { s with heap:=s.heap.update l (Obj.mapSeq f),toks:=z}:=by
 have q:=PySem.IsL.update e f;rw[hf]at q;refine i.write (x:=l) (e:=l) (by rw[j];exact trivial) (.inl rfl) (λE u C y=>(RE s.heap (Obj.mapSeq f) (Ne.symm C)).trans y) ⟨_,q⟩ ?_;exact⟨B,its',_,hv,q⟩
def Inv.lnew{its:TW}{t':Nat}(a:Inv X Lz Z H s)(hv:aG ys its)(f:ys.length<=sizeLine):
  Inv X Lz Z (mf H s.heap.objs.size (.lst ys)) { s with heap:=s.heap.push { cls:=.type "list",data:=.seq its.toArray},toks:=t'} :=
 a.laid (λ_ _ q=>lR _ q) (i_ _) ⟨f,its,0,hv,w_ _ rfl⟩
def Inv.fresh(a:Inv X Lz Z H s):H s.heap.objs.size=Y:=a.hok.fresh (i_ _)
def Inv.lstM(f:Inv X Lz Z H s)(i:H l=J (.lst xs)):xs.length<=sizeLine/\∃(a:TW) (n:Nat),aG xs a/\xs.length=a.length/\s.heap.get? l=J { cls:=.type "list",data:=.seq a.toArray n}:=by obtain⟨z,a,n,r,e⟩:=f.hok l _ i;exact⟨z,a,n,r,r.length,e⟩
def n6{n:Nat}(h:n<=sizeLine):Builtin.List.listTooLong n=T:=by unfold Builtin.List.listTooLong;exact decide_eq_false (by ext)
end
section
variable{X:Cx}
def Dm:V->List V->Hp->VK->Prop:=λx a H Q=>∃l xs y,x=.ref l/\a=[y]/\H l=J (.lst xs)/\xs.length<sizeLine/\Q .non (mf H l (.lst (xs++[y])))
def rE:RM X "list.append" Dm:=by intro M s Z H x G v L Q a j B h;obtain⟨l,xs,y,rfl,rfl,i,E,q⟩:=h;cases j;obtain⟨u,rfl,C⟩:=B.one;obtain⟨z,f,n,r,O,e⟩:=a.lstM i;refine call_meets F.slot_list_append ⟨_,e,rfl⟩ F.entry_list_append (F.args_list_append_2 _ _) (PySem.list_append l f.toArray n u (by rw[tt];ext)) ⟨e,?_⟩;refine⟨.non,_,a.lset (its':=f++[u]) i e (by simp) (r.append (.cons C .nil)) ?_,rfl,q⟩;rw[BP,List.length_singleton];ext
def Dn:V->List V->Hp->VK->Prop:=λx f H Q=>∃l b xs a,x=.ref l/\f=[.ref b]/\H l=J (.lst xs)/\H b=J (.lst a)/\xs.length+a.length<=sizeLine/\Q .non (mf H l (.lst (xs++a)))
def yF:RM X "list.extend" Dn:=by
 intro W s Z H x S v U Q i C G h;obtain⟨l,b,xs,zs,rfl,rfl,B,E,R,q⟩:=h;cases C;obtain⟨u,rfl,P⟩:=G.one;cases P;obtain⟨z,f,n,r,hl,e⟩:=i.lstM B;obtain⟨z2,a,O,L,M,e2⟩:=i.lstM E;have y:f.toArray.size+a.toArray.size<=sizeLine:=by rw[tt,tt];ext
 have j:¬(!f.toArray.isEmpty&&Builtin.List.listTooLong (f.toArray.size+a.toArray.size))=I:=by rw[n6 y,Bool.and_false];exact F6
 refine call_meets F.slot_list_extend ⟨_,e,rfl⟩ F.entry_list_extend (F.args_list_extend_2 _ _)
  (AutoSeq1.list_extend_list_list_0 l f.toArray n b a.toArray O j (by rw[tt];ext) (by ext)) ⟨e,e2,?_⟩
 refine⟨.non,_,i.lset (its':=f++a) B e (by simp) (r.append L) ?_,rfl,q⟩;rw[BP];ext
def P0:R2:=λx y H Q=>∃l b xs a,x=.ref l/\y=.ref b/\H l=J (.lst xs)/\H b=J (.lst a)/\xs.length+a.length<=sizeLine/\∀p,H p=Y->Q (.ref p) (mf H p (.lst (xs++a)))
def GX:OpR X (binaryOp .Add) P0:=by
 intro O s Z H x y v u Q a j L h;obtain⟨l,b,xs,R,rfl,rfl,E,B,M,q⟩:=h;cases j;cases L;obtain⟨z,i,n,r,S,e⟩:=a.lstM E;obtain⟨U,f,P,F,G,e2⟩:=a.lstM B;refine PySem.P.add_list e e2 ?_ (by rw[tt,tt];ext);have C:i.toArray++f.toArray=(i++f).toArray:=by simp
 rw[C];exact⟨.ref _,_,a.lnew (t':=s.toks) (r.append F) (by rw[BP];ext),rfl,q _ a.fresh⟩
def P1:R2:=λx y H Q=>∃l k xs,x=.ref l/\y=.int k/\H l=J (.lst xs) /\ -(2^63)<=k/\k<2^63/\xs.length*k.toNat<=sizeLine /\
 ∀p,H p=Y->Q (.ref p) (mf H p (.lst (List.replicate k.toNat xs).flatten))
def wd{α:Type}(xs:List α)(k:Nat):(List.replicate k xs).flatten.length=k*xs.length:=by
 induction k with
 |zero=>simp
 |succ k a=>rw[B7,Fe,BP,a,Nat.succ_mul,Nat.add_comm]
def GY:OpR X (binaryOp .Mult) P1:=by
 intro Lz s Z H x y v u Q i P ry h;obtain⟨l,k,xs,rfl,rfl,S,R,W,O,q⟩:=h;cases P;obtain⟨t,rfl⟩:=ry;obtain⟨z,f,n,r,hl,e⟩:=i.lstM S;have B:f.toArray.size*k.toNat<=sizeLine:=by rw[tt,<-hl];exact O
 have C:¬f.toArray.size*k.toNat>(2^63-1)/8:=by
  have:(sizeLine:Nat)<=(2^63-1)/8:=by decide
  ext
 have G:¬(!Builtin.List.listFitsIndex k)=I:=by rw[fitsIndex_both R W];exact F6
 have j:¬Builtin.List.listTooLong (f.toArray.size*k.toNat)=I:=by rw[n6 B];exact F6
 have E:List.foldl (λL M=>L++M) #[] (List.replicate (if f.toArray.isEmpty=I then 0 else k.toNat) f.toArray)=(List.replicate k.toNat f).flatten.toArray:=by
  have f0:∀m:Nat,List.foldl (λL M=>L++M) #[] (List.replicate m f.toArray)=(List.replicate m f).flatten.toArray:=λm=>by
   have:=qO f m []
   rw[NV]at this;exact this
  rw[f0]
  cases f with
  |nil=>simp
  |cons a r'=>rw[e_ (by simp)]
 refine wpAny_binaryOp_repeat_ref (T:="list") (U:="int") (by decide) ⟨_,e,rfl⟩ (λs'=>typeIs_int s' k t) noFill_list_mul F.fills_int_mul F.slot_int_rmul repeat_list F.slot_int_index.lookup
  (call_meets F.slot_int_rmul (typeIs_int s k t) F.entry_int_rmul (F.args_int_rmul_2 _ _) (int___rmul___int_list k t l f.toArray n)
   ⟨e,rfl,⟨_,e,rfl⟩,call_meets F.slot_list_mul ⟨_,e,rfl⟩ F.entry_list_mul (F.args_list_mul_2 _ _) (AutoListH.list___mul___list_int_3 l f.toArray n k t G C j) ⟨e,?_⟩⟩)
 rw[E];exact⟨.ref _,_,i.lnew (t':=s.toks) (r.rep k.toNat) (by rw[wd,Nat.mul_comm];exact O),rfl,q _ i.fresh⟩
end
section
variable{prog:Program}{w:World}{A:Around}{E:TF}{s:Shared}
end
section
variable{X:Cx}
end
end L2
namespace Att
open PySem.W PySem.Calls PyProof.Rows
def pC{P:Params}{h:Heap}:∀(ns:TN)(f:TW),WellAll P h f (ns.map WData.int)->IntsAre f ns:=by
 intro ns
 induction ns with
 |nil =>
  intro f w;rw[F_]at w;cases w;exact .nil
 |cons n ns i =>
  intro f w;rw[nc]at w
  cases w with
  |cons a b =>
   cases a;exact .cons _ _ (i _ b)
def zo{l:OpenLaw}{n:Nat}(U:l.most=J n){P:Params}{h:Heap}{f:List WData}{j:TW}(i:l.row.toRowW.claim.pre f=I)(C:WellAll P h j f):
  ∃a G ns,j=[Value.ref a]/\f=[WData.list (ns.map WData.int)]/\h.get? a=J { cls:=.type "list",data:=.seq G.toArray}/\IntsAre G ns/\ns.length<=n:=by
 have E:WShape.hasAll [] f [.list .int]=I:=(pre_splitW i).1;have F:l.pre.holds [] { args:=f}=I:=(pre_splitW i).2;obtain⟨d,r,rfl,M,Q⟩:=hasAllW_cons E;obtain rfl:=hasAllW_nil Q;obtain⟨xs,rfl,S⟩:=hasW_list M;obtain⟨ns,rfl⟩:=items_int S;have u:ns.length<=n:=by
  unfold OpenLaw.pre at F;have z:(WTm.not (.lt (.lit (.int (n:Int))) (.len (.arg 0)))).holds [] { args:=[.list (ns.map .int)]}=I:=by have z:=(holds_andW F).1;rw[U]at z;exact z
  have B:=condW_of z (w_not (w_lt w_lit (w_len_list (w_arg rfl))));rw[wv]at B;refine Nat.le_of_not_lt λq=>?_;have L:(n:Int)<((ns.length:Nat):Int):=by ext
  first
   |(rw[decide_eq_true L]at B;exact absurd B (by decide))
   |(simp at B;ext)
 cases C with
 |cons O H =>
  cases H
  cases O with
  |list R y=>exact⟨_,_,ns,rfl,rfl,R,pC ns _ y,u⟩
def y9(l:OpenLaw)(a:List WData):l.row.toRowW.claim.post a (.bool I) a=I :=
 postW_of (r:=l.row.toRowW) (X:=(I==I))
  (show WShape.has [] (.bool I) .bool=I by first | rfl | decide | simp[WShape.has,WShape.arms,WShape.armsAll])
  (show(WTm.eq .res (.lit (.bool I))).value [] { args:=a,res:=J (.bool I),after:=a}=J (.bool (I==I))from w_eq_bool (w_res rfl) w_lit) rfl
def uM{l:OpenLaw}{n:Nat}{q:Program}{loose:TM}{XP:(Str->TZ)->Heap->Prop}{U:World->Heap->Prop}{d:DefRec}(hn:l.most=J n)(O:d.params.defaults=[])(call:∀(w:World)(s₀ i:Shared)(mg R:TH)(E:Addr)(o:Obj)(pm H u:Value)(a:Addr)(y:TW)(ns:TN),
   Ground q loose [] XP w s₀ mg R i.heap->U w i.heap ->
   i.heap.get? E=J o->o.data=.func (docDef d.name d.params d.body d.scope pm H u)->i.heap.CodeRec H d.name->mg d.name=J (.ref E) ->
   i.heap.get? a=J { cls:=.type "list",data:=.seq y.toArray}->IntsAre y ns->ns.length<=n->i.gens=#[] ->
   codeAny (model l.prog w) callerA (.call (.ref E) ⟨[.ref a],[]⟩) (λr F=>r=.ok (.ret (.bool I))/\OldK i.heap F.heap/\F.os=i.os/\AllBare F.gens) i):
  WalkO q loose XP U l.row.toRowW d [] (λf y=>PySem.call f y):=by
 intro w s₀ i mg R G L E o pm H u dV kV ho hd P S Q hg W X as B Z ai M al;obtain rfl:dV=.none:=Dflts.none S O;obtain rfl:kV=.none:=Dflts.noKw S;obtain⟨a,y,ns,rfl,rfl,C,j,z⟩:=zo hn B M;refine enter_call (codeAny_mono (call w s₀ i mg R E o pm H u a y ns G L ho (fd_plain hd) P Q C j z hg) λr F hq=>?_);obtain⟨rfl,h2,h3,h4⟩:=hq;exact⟨.inl ⟨.bool I,.bool I,[],rfl,λ_=>rfl,.bool I,y9 l _,λ_=>⟨List.Pairwise.nil,λ_ hm=>(nomatch hm)⟩⟩,h2,h3,h4⟩
section
variable{prog:Program}{w:World}{A:Around}{E:TF}{s:Shared}{K:Frag}
end
end Att
namespace L2
open PySem.Spec PyProof.Rows
def qL:∀{a:TW}{ns:TN},IntsAre a ns->aG (ns.map V.int) a
 |_,_,.nil=>.nil
 |_,_,.cons n t h=>.cons ⟨t,rfl⟩ (qL h)
def GZ(H:Hp):Prop:=∀b,H b=Y\/∃o xs,H b=J (.frz o (.lst xs))
def By{P:Program}{w:World}{K:hH}{mg mb:TH}{CX:Ci}{k:Nat}{fa a:Addr}{fd:FuncData}{x:Str}{sp:Sp}{f:Shared}{M:TW}{ns:TN}(KX:K.In f.heap)(W:f.heap.Ns mainGlobals mg)(l:f.heap.Ns builtinsNs mb)(an:∀x:Str,x≠"__name__"->mb x=bootBuiltins x)(U:f.heap.NoLimit)(E:f.heap.NoSeer)(ap:P.given.tree=Y)(hg:f.gens=#[])(X:f.heap.get? a=J { cls:=.type "list",data:=.seq M.toArray})(hi:IntsAre M ns)(hl:ns.length<=sizeLine)(hr:Room k callerA)(F:∀base:Heap,K.In base->base.Ns mainGlobals mg->FnOk P w K mg base CX k fa fd [x] sp)(O:∀(s:Shared) (u:Value),BindsTo s fd ⟨[u],[]⟩ [(x,u)])(ar:∀H:Hp,GZ H->SqL K H a (ns.map V.int)->sp [.ref a] H (λv _=>v=.bl I) λ_ _ _=>False)(as:∀H e y,CX [] H f (λ_ _ _=>False) e y->False):
  codeAny (model P w) callerA (.call (.ref fa) ⟨[.ref a],[]⟩) (λr y=>r=.ok (.ret (.bool I))/\OldK f.heap y.heap/\y.os=f.os/\AllBare y.gens) f:=by
 have rv:=qL hi;have ai:=hi.length;have L:∀H:Hp,GZ H->SqL K H a (ns.map V.int)->HOk P w H f.heap->(∀b,H b≠Y->b=a)->(H a≠Y->K.lookup a=Y) ->
   codeAny (model P w) callerA (.call (.ref fa) ⟨[.ref a],[]⟩) (λr y=>r=.ok (.ret (.bool I))/\OldK f.heap y.heap/\y.os=f.os/\AllBare y.gens) f:=by
  intro H hO hS hok hA hK;have i:∀{b:Addr}{o:Obj},f.heap.get? b=J o->H b=Y->(ku f.heap H).get? b=J o:=λe n=>zP e n;have ax:∀{b:Addr}{o:Obj}{es:Array DictEntry}{Z:Nat},f.heap.get? b=J o->o.data=.dict es Z->H b=Y:=λ{b o es Z} e d=>by
   cases q:H b with
   |none=>rfl
   |some u =>
    have R:b=a:=hA b (by rw[q];simp);subst R;rw[X]at e;cases e;have d':Data.seq M.toArray _=Data.dict es Z:=d;cases d'
  have j:∀{b:Addr}{m:TH},f.heap.Ns b m->(ku f.heap H).Ns b m:=λ{b m} ⟨o,es,Z,e,d,r⟩=>⟨o,es,Z,i e (ax e d),d,r⟩
  have al:K.In (ku f.heap H):=λb o e=>i (KX b o e) (by
   cases q:H b with
   |none=>rfl
   |some u =>
    have R:b=a:=hA b (by rw[q];simp);subst R
    rw[hK (by rw[q];simp)]at e;cases e)
  have hM:Mod K mg (ku f.heap H):=⟨al,j W,⟨mb,j l,an⟩,let ⟨B,C,G⟩:=U;⟨B,j C,G⟩,let ⟨B,C,G⟩:=E.statics;⟨B,j C,G⟩,let ⟨B,C,G⟩:=E.mods;⟨B,j C,G⟩,let ⟨B,C,G⟩:=E.imp;⟨B,j C,G⟩,let ⟨B,bm,ob,C,G,h3,h4,h5⟩:=E.main;⟨B,bm,ob,j C,G,i h3 (by
   cases q:H bm with
   |none=>rfl
   |some u =>
    have R:bm=a:=hA bm (by rw[q];simp);subst R;rw[X]at h3;cases h3
    exact absurd (show Value.type "list"=Value.type "module" from h4) (by decide)),h4,h5⟩⟩
  have e0:Df P w K mg (ku f.heap H) callerA [] f H:=⟨rfl,hM,λb o e=>C3 e,Po (zx _ _),trivial,λb l=>absurd (show b∈([]:TV)from l) (by simp),hok,.of_eq hg,ap⟩;refine codeAny_mono ((F _ al (j W)).run callerA [] f H ⟨[.ref a],[]⟩ [.ref a] [.ref a] _ _ hr e0 (O f (.ref a)) (.cons rfl .nil) (ar H hO hS)) λr y h=>?_
  cases r with
  |error e=>exact(as H e y h).elim
  |ok fl =>
   cases fl with
   |next=>exact False.elim h
   |brk=>exact False.elim h
   |cont=>exact False.elim h
   |ret u =>
    obtain⟨v,H',os,bare,un,S,r',q⟩:=h;have q':v=.bl I:=q;subst q';obtain rfl:u=Value.bool I:=r';refine⟨rfl,OldK.of_keep λb o e=>?_,os,bare⟩
    cases q:H b with
    |none=>exact un.keep b o e q (by intro z;exact absurd (show b∈([]:TV)from z) (by simp)) (by simp)
    |some u =>
     rcases hO b with z|⟨ob,xs,z⟩
     .rw[q]at z;cases z
     .have z2:=un.frzs b ob _ z;obtain⟨e1,_⟩:=hok b _ z;obtain⟨e2,_⟩:=S b _ z2;rw[e]at e1;cases e1;exact e2
 cases hk:K.lookup a with
 |some o =>
  have e:=KX a o hk;rw[X]at e;cases e;refine L (λ_=>Y) (λ_=>.inl rfl) (.inr ⟨_,M.toArray,_,hk,rfl,rfl,rfl,by rw[tt,ai];exact hl,by simpa using rv⟩) (λb u z=>by have Q:(Y:Option HO)=J u:=z;cases Q) (λb z=>absurd rfl z) λz=>absurd rfl z
 |none =>
  refine L (λb=>if b=a then J (.frz { cls:=.type "list",data:=.seq M.toArray} (.lst (ns.map V.int)))else Y) (λb=>?_) (.inl (.inr ⟨{ cls:=.type "list",data:=.seq M.toArray},b_ rfl⟩)) (λb u z=>?_) (λb z=>?_) λ_=>hk
  .by_cases l:b=a
   .exact .inr ⟨_,_,b_ l⟩
   .exact .inl (e_ l)
  .by_cases l:b=a
   .have Q:=(b_ l).symm.trans z;cases Q;subst l;exact⟨X,by rw[wv];exact hl,M,_,rv,X⟩
   .have Q:=(e_ l).symm.trans z;cases Q
  .by_cases l:b=a
   .exact l
   .exact absurd (e_ l) z
abbrev nr{K:hH}{h:Heap}(_:K.In h):hH:=K
def Do{l:PySem.W.OpenLaw}{n k:Nat}{q:Program}{loose:TM}{XP:(Str->TZ)->Heap->Prop}{S:World->Heap->Prop}{d:DefRec}{K:Params->hH}{CX:World->Ci}{sp:World->Sp}{x:Str}(hn:l.most=J n)(M:n<=sizeLine)(E:d.params.defaults=[])(hr:Room k callerA)(Z:PyProof.Rows.importsNone q=I)(R:l.prog.given.tree=Y)(hY:∀(w:World)(h:Heap),S w h->(K w.params).In h)(F:∀(w:World)(mg:TH)(B:Addr)(h:Heap),(K w.params).In h->h.Ns mainGlobals mg->mg d.name=J (.ref B) ->
   ∃fd:FuncData,(∀(s:Shared)(u:Value),BindsTo s fd ⟨[u],[]⟩ [(x,u)]) /\
    ∀base:Heap,(K w.params).In base->base.Ns mainGlobals mg->FnOk l.prog w (K w.params) mg base (CX w) k B fd [x] (sp w))(L:∀(w:World)(H:Hp)(a:Addr)(ns:TN),ns.length<=n->GZ H->SqL (K w.params) H a (ns.map V.int)->sp w [.ref a] H (λv _=>v=.bl I) λ_ _ _=>False)(O:∀(w:World)(H:Hp)(s:Shared)(e:Value)(P:Shared),CX w [] H s (λ_ _ _=>False) e P->False):
  PySem.W.WalkO q loose XP S l.row.toRowW d [] (λf U=>PySem.call f U):=by
 refine Att.uM hn E λw s₀ z mg mb B o pm cd ai a U ns G C ho hd al Q y j i X=>?_;have W:=hY w _ C;obtain⟨fd,hb,hF⟩:=F w mg B _ W G.T.g Q;exact By W G.T.g G.T.b G.T.builtins G.T.nolimit (G.T.seer Z) R X y j (pf i M) hr hF hb (λH hO hS=>L w H a ns i hO hS) λH e P=>O w H z e P
def hW(s:Stmt):Arguments:=match s with
 |.FunctionDef _ a _ _ _ _ _ _ _ _=>a
 |_=>{ posonlyargs:=[],args:=[],vararg:=Y,kwonlyargs:=[],kw_defaults:=[],kwarg:=Y,defaults:=[]}
def aA(s:Stmt):Ti:=match s with
 |.FunctionDef _ _ b _ _ _ _ _ _ _=>b
 |_=>[]
def ae(s:Stmt):Scope:=match s with
 |.FunctionDef _ _ _ _ _ _ a _ _ _=>a
 |_=>{ kind:=.function,names:=[],isGenerator:=T,isCoroutine:=T}
structure Fun(K:hH)(x qual:Str)(st:Stmt)(f:Addr)(fd:FuncData):Prop where
 ex:∃(oc:Value)(od:Option Addr)(kV doc pm:Value)(an:Option Addr)(cdv ct:Value)(osl:Array (TZ)),
  fd=PySem.W.fnOf x qual (hW st) (aA st) (ae st) .none kV doc pm an cdv ct/\K.lookup f=J ⟨oc,od,.func fd,osl⟩/\PySem.W.codeIn K cdv qual=I
 kp:PySem.W.keepIn K (.ref f)=I
section
variable{P:Program}{w:World}{K:hH}{mg:TH}{base:Heap}
def Fun.binds{x a:Str}{st:Stmt}{f:Addr}{fd:FuncData}{l:TM}(F:Fun K x a st f fd)(h:∀(kV i pm:Value)(y:Option Addr)(j ct:Value)(u:TW),u.length=l.length->bindArgs (PySem.W.fnOf x a (hW st) (aA st) (ae st) .none kV i pm y j ct) ⟨u,[]⟩=pure (l.zip u)):o9 K fd l []:=by
 obtain⟨G,C,kV,i,pm,y,j,ct,z,rfl,E,B⟩:=F.ex;exact .all (h kV i pm y j ct)
def G0{x a:Str}{st:Stmt}{f:Addr}{z:Value}{B y:Option Addr}{u:Array (TZ)}{kV j pm i ct:Value}(l:K.lookup f=J ⟨z,B,.func (PySem.W.fnOf x a (hW st) (aA st) (ae st) .none kV j pm y i ct),u⟩)(c:PySem.W.codeIn K i a=I)(k:PySem.W.keepIn K (.ref f)=I):Fun K x a st f (PySem.W.fnOf x a (hW st) (aA st) (ae st) .none kV j pm y i ct):=⟨⟨z,B,kV,j,pm,y,i,ct,u,rfl,l,c⟩,k⟩
end
section
variable{X:Cx}
end
end L2
namespace MM
open PySem.Spec PyProof.Rows L2
inductive PV where
 |non | bl (b:Bool) | int (i:Int) | str (x:Str) | tup (xs:List PV) | frl (xs:List PV) | loc (n:Nat)
abbrev _root_.TL:=List PV
abbrev _root_.Tj:=Option PV
structure BS where
 cls:Str
 fs:List (Str×PV):=[]
inductive MO where
 |lst(xs:TL)
 |dic(fz:Bool)(ks:TN)(xs:TL)
 |exc(x:BS)
def MO.fzd:MO->Bool
 |.dic fz _ _=>fz
 |_=>T
abbrev MH:=List MO
abbrev n4:=List (Tj)
inductive Out(α:Type) where
 |ok(a:α)(h:MH)
 |exc(x:BS)(h:MH)
 |bad
abbrev _root_.TD:=Out PV
def Out.bind{α β:Type}(o:Out α)(f:α->MH->Out β):Out β:=match o with
 |.ok a h=>f a h
 |.exc x h=>.exc x h
 |.bad=>.bad
@[simp]theorem Out.bind_ok(a:α)(h:MH)(f:α->MH->Out β):(Out.ok a h).bind f=f a h:=rfl
@[simp]theorem Out.bind_exc(x:BS)(h:MH)(f:α->MH->Out β):(Out.exc x h).bind f=.exc x h:=rfl
@[simp]theorem Out.bind_bad(f:α->MH->Out β):(Out.bad:Out α).bind f=.bad:=rfl
inductive SOut where
 |nx(Z:n4)(h:MH)
 |rt(v:PV)(h:MH)
 |bk(Z:n4)(h:MH)
 |ct(Z:n4)(h:MH)
 |exc(x:BS)(Z:n4)(h:MH)
 |rse(x:BS)(Z:n4)(h:MH)
 |bad
def Out.ne{α:Type}(o:Out α):Out α:=match o with
 |.exc _ _=>.bad
 |o=>o
@[simp]theorem Out.ne_ok(a:α)(h:MH):(Out.ok a h).ne=.ok a h:=rfl
@[simp]theorem Out.ne_bad:(Out.bad:Out α).ne=.bad:=rfl
@[simp]theorem Out.ne_ne(o:Out α):o.ne.ne=o.ne:=by cases o<;>rfl
def SqF(K:hH)(H:Hp)(a:Addr)(ys:List V):Prop :=
 (∃o,H a=J (.frz o (.lst ys))) \/
  ∃(o:Obj) (f:Array Value) (n:Nat),K.lookup a=J o/\o.cls=.type "list"/\o.dict=Y/\o.data=.seq f n/\f.size<=sizeLine/\aG ys f.toList
def SqF.sq{K:hH}{H:Hp}{a:Addr}{ys:List V}(h:SqF K H a ys):SqL K H a ys:=by
 rcases h with h|h
 .exact .inl (.inr h)
 .exact .inr h
mutual
inductive RP(K:hH)(U:TV)(H:Hp):PV->V->Prop where
 |non:RP K U H .non .non
 |bl(b:Bool):RP K U H (.bl b) (.bl b)
 |int(i:Int):RP K U H (.int i) (.int i)
 |str(x:Str):RP K U H (.str x) (.str x)
 |tup{xs:TL}{a:Addr}{ys:List V}(s:SqT K H a ys)(r:RPs K U H xs ys):RP K U H (.tup xs) (.ref a)
 |frl{xs:TL}{a:Addr}{ys:List V}(s:SqF K H a ys)(r:RPs K U H xs ys):RP K U H (.frl xs) (.ref a)
 |loc{n:Nat}{a:Addr}(e:U[n]?=J a):RP K U H (.loc n) (.ref a)
inductive RPs(K:hH)(U:TV)(H:Hp):TL->List V->Prop where
 |nil:RPs K U H [] []
 |cons{x:PV}{y:V}{xs:TL}{ys:List V}(r:RP K U H x y)(t:RPs K U H xs ys):RPs K U H (x::xs) (y::ys)
end
structure Le(U:TV)(H:Hp)(U':TV)(H':Hp):Prop where
 pre:∃m,U'=U++m
 tup:∀a xs,H a=J (.tup xs)->H' a=J (.tup xs)
 frz:∀a o u,H a=J (.frz o u)->H' a=J (.frz o u)
def Le.refl(U:TV)(H:Hp):Le U H U H:=⟨⟨[],by simp⟩,λ_ _ h=>h,λ_ _ _ h=>h⟩
def Le.trans(a:Le U H U1 H1)(b:Le U1 H1 U2 H2):Le U H U2 H2:=by obtain⟨m,e⟩:=a.pre;obtain⟨i,f⟩:=b.pre;exact⟨⟨m++i,by rw[f,e,CZ]⟩,λc xs h=>b.tup c xs (a.tup c xs h),λc o u h=>b.frz c o u (a.frz c o u h)⟩
def Le.get{U f:TV}{H j:Hp}(l:Le U H f j){n:Nat}{a:Addr}(e:U[n]?=J a):f[n]?=J a:=by obtain⟨m,i⟩:=l.pre;rw[i,qi (o_.mp e).1];exact e
def Le.sqt{K:hH}{U i:TV}{H f:Hp}(l:Le U H i f){a:Addr}{xs:List V}(h:SqT K H a xs):SqT K f a xs:=by
 rcases h with(h|⟨o,h⟩)|h
 .exact .inl (.inl (l.tup _ _ h))
 .exact .inl (.inr ⟨o,l.frz _ _ _ h⟩)
 .exact .inr h
def Le.sqf{K:hH}{U i:TV}{H f:Hp}(l:Le U H i f){a:Addr}{xs:List V}(h:SqF K H a xs):SqF K f a xs:=by
 rcases h with⟨o,h⟩|h
 .exact .inl ⟨o,l.frz _ _ _ h⟩
 .exact .inr h
section
variable{K:hH}{U U':TV}{H H':Hp}
def RP.le(l:Le U H U' H'){x:PV}{y:V}(r:RP K U H x y):RP K U' H' x y :=
 RP.rec (motive_1:=λx y _=>RP K U' H' x y) (motive_2:=λx y _=>RPs K U' H' x y) .non .bl .int .str (λs _ i=>.tup (l.sqt s) i) (λs _ i=>.frl (l.sqf s) i) (λe=>.loc (l.get e)) .nil (λ_ _ a b=>.cons a b) r
def RPs.le(l:Le U H U' H')(r:RPs K U H xs ys):RPs K U' H' xs ys:=by
 induction xs generalizing ys with
 |nil=>cases r;exact .nil
 |cons x xs f=>cases r with|cons a t=>exact .cons (a.le l) (f t)
def RPs.length(r:RPs K U H xs ys):xs.length=ys.length:=by
 induction xs generalizing ys with
 |nil=>cases r;rfl
 |cons x xs f=>cases r with|cons a t=>exact congrArg (·+1) (f t)
def RPs.get{xs:TL}{ys:List V}{i:Nat}{x:PV}(r:RPs K U H xs ys)(e:xs[i]?=J x):∃y,ys[i]?=J y/\RP K U H x y:=by
 induction xs generalizing ys i with
 |nil=>cases e
 |cons x xs f =>
  cases r with
  |cons a t =>
   cases i with
   |zero=>cases e;exact⟨_,rfl,a⟩
   |succ i=>have z:=@f _ i t e;exact z
def RPs.set(r:RP K U H x u)(i:Nat)(q:RPs K U H xs us):RPs K U H (xs.set i x) (us.set i u):=by
 induction xs generalizing us i with
 |nil=>cases q;exact .nil
 |cons x xs f =>
  cases q with
  |cons a t =>
   cases i with
   |zero=>exact .cons r t
   |succ i=>exact .cons a (f i t)
def RPs.append(r:RPs K U H xs us)(s:RPs K U H ys ws):RPs K U H (xs++ys) (us++ws):=by
 induction xs generalizing us with
 |nil=>cases r;exact s
 |cons x xs f=>cases r with|cons a t=>exact .cons a (f t)
def RPs.take(n:Nat)(r:RPs K U H xs us):RPs K U H (xs.take n) (us.take n):=by
 induction n generalizing xs us with
 |zero=>exact .nil
 |succ n f =>
  cases xs with
  |nil=>cases r;exact .nil
  |cons x xs=>cases r with|cons a t=>exact .cons a (f t)
def RPs.drop(n:Nat)(r:RPs K U H xs us):RPs K U H (xs.drop n) (us.drop n):=by
 induction n generalizing xs us with
 |zero=>exact r
 |succ n f =>
  cases xs with
  |nil=>cases r;exact .nil
  |cons x xs=>cases r with|cons a t=>exact f t
def RPs.ints:∀(ns:TN),RPs K U H (ns.map PV.int) (ns.map V.int)
 |[]=>.nil
 |n::r=>.cons (.int n) (RPs.ints r)
end
def Lm(a C:Addr)(h:Heap):Prop:=∃o f,h.get? a=J o/\o.cls=.ref C/\o.data=.fields f
abbrev Cs:=Str->TZ
def kz(a:TN)(ys:List V):List (ql×V):=(a.map Sum.inl).zip ys
def dO(fz:Bool)(a:Option HO)(u:HO):Prop:=match fz with
 |false=>a=J u
 |true=>∃o,a=J (.frz o u)
def RO(K:hH)(mg:Cs)(U:TV)(H:Hp)(a:Addr):MO->Option HO->Prop
 |.lst xs,f=>∃ys,f=J (.lst ys)/\RPs K U H xs ys
 |.dic fz i xs,f=>∃ys:List V,ys.length=i.length/\RPs K U H xs ys/\dO fz f (.dK (kz i ys))
 |.exc x,f=>x.fs=[]/\∃C,mg x.cls=J (.ref C)/\f=J (.ext (Lm a C))
def mq{fz:Bool}{P:Program}{w:World}{H:Hp}{h:Heap}{a:Addr}{f:List (ql×V)}(ok:HOk P w H h)(e:dO fz (H a) (.dK f)):f.length<=sizeLine/\(a==sysModules)=T/\∃i,KV f i/\h.DictOf (fN P w) a i:=by
 cases fz with
 |false=>exact(show ObjOk P w H h a (.dK f)from ok a _ e)
 |true =>
  obtain⟨o,e⟩:=e;exact(show ObjOk P w H h a (.frz o (.dK f))from ok a _ e).2
structure RH(K:hH)(mg:Cs)(U:TV)(H:Hp)(h:MH):Prop where
 len:U.length=h.length
 nd:U.Nodup
 at':∀(n:Nat)(a:Addr)(o:MO),U[n]?=J a->h[n]?=J o->RO K mg U H a o (H a)
def RO.le{K:hH}{mg:Cs}{U j:TV}{H f:Hp}{a:Addr}(l:Le U H j f){o:MO}{i:Option HO}(r:RO K mg U H a o i):RO K mg j f a o i:=by
 cases o with
 |lst xs=>obtain⟨ys,e,r⟩:=r;exact⟨ys,e,r.le l⟩
 |dic fz u xs=>obtain⟨ys,e,r,q⟩:=r;exact⟨ys,e,r.le l,q⟩
 |exc x=>exact r
def RO.some{K:hH}{mg:Cs}{U:TV}{H:Hp}{a:Addr}{o:MO}{f:Option HO}(r:RO K mg U H a o f):f≠Y:=by
 cases o with
 |lst xs=>obtain⟨ys,e,_⟩:=r;rw[e];simp
 |dic fz i xs =>
  obtain⟨ys,_,_,q⟩:=r
  cases fz with
  |false=>rw[show f=_ from q];simp
  |true=>obtain⟨o,q⟩:=q;rw[q];simp
 |exc x=>obtain⟨_,C,_,e⟩:=r;rw[e];simp
def RO.plain{K:hH}{mg:Cs}{U:TV}{H:Hp}{a:Addr}{o:MO}{f:Option HO}(r:RO K mg U H a o f)(hf:o.fzd=T):(∀xs,f≠Option.some (.tup xs))/\∀p u,f≠Option.some (.frz p u):=by
 cases o with
 |lst xs=>obtain⟨ys,e,_⟩:=r;rw[e];exact⟨(λ_ z=>nomatch z),(λ_ _ z=>nomatch z)⟩
 |dic fz i xs =>
  obtain⟨ys,_,_,q⟩:=r
  cases fz with
  |false=>rw[show f=_ from q];exact⟨(λ_ z=>nomatch z),(λ_ _ z=>nomatch z)⟩
  |true=>cases hf
 |exc x=>obtain⟨_,C,_,e⟩:=r;rw[e];exact⟨(λ_ z=>nomatch z),(λ_ _ z=>nomatch z)⟩
section
variable{K:hH}{mg:Cs}{U:TV}{H:Hp}{h:MH}
def RH.obj(r:RH K mg U H h){n:Nat}{a:Addr}(e:U[n]?=J a):∃o,h[n]?=J o/\RO K mg U H a o (H a):=by
 have f:n<h.length:=by rw[<-r.len];exact(o_.mp e).1
 exact⟨h[n],by simp[f],r.at' n a _ e (by simp[f])⟩
def RH.new(r:RH K mg U H h){p:Addr}(j:H p=Y){o:MO}{ho:HO}(L:RO K mg U H p o (J ho)):RH K mg (U++[p]) (mf H p ho) (h++[o])/\Le U H (U++[p]) (mf H p ho):=by
 have i:∀n a,U[n]?=J a->a≠p:=λn a e z=>by
  obtain⟨E,_,q⟩:=r.obj e;rw[z,j]at q;exact q.some rfl
 have l:Le U H (U++[p]) (mf H p ho):=⟨⟨[p],rfl⟩,λa xs e=>by rw[aV (bG e j)];exact e,λa M u e=>by rw[aV (bG e j)];exact e⟩;refine⟨⟨by simp[r.len],?_,λn a E e1 e2=>?_⟩,l⟩
 .rw[Kv];refine⟨r.nd,by simp,λa G b F=>?_⟩;obtain⟨n,e⟩:=B6.mp G;have y:b=p:=by simpa using F
  rw[y];exact i n a e
 .by_cases f:n<U.length
  .rw[qi f]at e1;rw[qi (by rw[<-r.len];exact f)]at e2;rw[aV (i n a e1)];exact(r.at' n a E e1 e2).le l
  .rw[Br ⋯]at e1;rw[Br (by rw[<-r.len];lia)]at e2;have B:n-U.length=0:=by
    rcases OX (n-U.length)with z|z
    .exact z
    .rw[Ce (by simp;lia)]at e1;cases e1
   rw[B]at e1;have C:n-h.length=0:=by have:=r.len;lia
   rw[C]at e2;simp at e1 e2;subst e1;subst e2;rw[bW];exact L.le l
def RH.put(r:RH K mg U H h){n:Nat}{a:Addr}(e:U[n]?=J a){o:MO}{ho:HO}(O:RO K mg U H a o (J ho))(hd:∃o0,h[n]?=J o0/\o0.fzd=T:=by exact⟨_,by assumption,rfl⟩):RH K mg U (mf H a ho) (h.set n o)/\Le U H U (mf H a ho):=by
 obtain⟨o0,j,q⟩:=r.obj e;obtain⟨Q,f,hf⟩:=hd;rw[f]at j;cases j;obtain⟨M,L⟩:=q.plain hf
 have l:Le U H U (mf H a ho):=⟨⟨[],by simp⟩,λb xs z=>by
   have:b≠a:=by rintro rfl;exact M _ z
   rw[aV this];exact z,λb R u z=>by
   have:b≠a:=by rintro rfl;exact L _ _ z
   rw[aV this];exact z⟩
 refine⟨⟨by simp[r.len],r.nd,λm b B e1 e2=>?_⟩,l⟩;by_cases i:m=n
 .subst i;rw[e]at e1;cases e1;rw[bW]
  have:m<h.length:=by rw[<-r.len];exact(o_.mp e).1
  rw[x6 this]at e2;cases e2;exact O.le l
 .rw[pu (λz=>i z.symm)]at e2;have F:b≠a:=by
   rintro rfl;have E:=o_.mp e;have G:=o_.mp e1;obtain⟨P,y⟩:=E;obtain⟨S,C⟩:=G;exact i ((List.getElem_inj r.nd).mp (C.trans y.symm))
  rw[aV F];exact(r.at' m b B e1 e2).le l
def RH.tup(r:RH K mg U H h){p:Addr}(f:H p=Y)(ys:List V):RH K mg U (mf H p (.tup ys)) h/\Le U H U (mf H p (.tup ys)):=by
 have i:∀n a,U[n]?=J a->a≠p:=λn a e z=>by
  obtain⟨j,_,q⟩:=r.obj e;rw[z,f]at q;exact q.some rfl
 have l:Le U H U (mf H p (.tup ys)):=⟨⟨[],by simp⟩,λa xs e=>by rw[aV (bG e f)];exact e,λa y u e=>by rw[aV (bG e f)];exact e⟩;exact⟨⟨r.len,r.nd,λn a o e1 e2=>by rw[aV (i n a e1)];exact(r.at' n a o e1 e2).le l⟩,l⟩
end
def RS(K:hH)(U:TV)(H:Hp)(a:n4)(Z:L2.St):Prop :=
 Z.length=a.length/\∀(i:Nat)(v:PV),a[i]?=J (J v)->∃f,Z[i]?=J (J f)/\RP K U H v f
def RS.le{K:hH}{U a:TV}{H f:Hp}{σp:n4}{Z:L2.St}(l:Le U H a f)(r:RS K U H σp Z):RS K a f σp Z :=
 ⟨r.1,λi v e=>by obtain⟨u,j,q⟩:=r.2 i v e;exact⟨u,j,q.le l⟩⟩
def RS.set{K:hH}{U:TV}{H:Hp}{a:n4}{Z:L2.St}(r:RS K U H a Z)(i:Nat){v:PV}{l:V}(q:RP K U H v l):RS K U H (a.set i (J v)) (Z.set i (J l)):=by
 refine⟨by simp[r.1],λj u e=>?_⟩;by_cases f:j=i
 .subst f;by_cases y:j<a.length
  .rw[x6 y]at e;cases e;exact⟨l,x6 (by rw[r.1];exact y),q⟩
  .rw[Ce (by simp;lia)]at e;cases e
 .rw[pu (λz=>f z.symm)]at e;obtain⟨E,C,B⟩:=r.2 j u e;exact⟨E,by rw[pu (λz=>f z.symm)];exact C,B⟩
def SY(B:Heap)(fs:TV)(h:Heap):Prop:=∀b o,h.get? b=J o->b∉fs->∃a,B.get? b=J a
def P2(l:List Env)(H:Hp)(a:Heap)(C f:Addr)(h:Heap):Prop :=
 ∃B t,Heap.FlyingW B l f (.ref C) (.ref t) h/\(∀b o,H b=J o->∃i,B.get? b=J i)/\SY B (zK l) a/\H f=Y
structure Fl(X:Cx)(h:Heap):Prop where
 old:∀b o,X.s₀.heap.get? b=J o->b∉X.ex->∃o',h.get? b=J o'
 cell:∀x c,X.env.cells.lookup x=J c->∃o,h.get? c=J o
 pin:∀p∈X.pn,∃o,h.get? p.1=J o
def Inv.bears{X:Cx}{f:TX}{Z:L2.St}{H:Hp}{s:Shared}(a:Inv X f Z H s):Fl X s.heap :=
 ⟨λb o e n=>a.base.there b o e n,λx c e=>let⟨_,o,i,_⟩:=a.cell x c e;⟨o,i⟩,λp j=>⟨_,(a.pin p (Bs _ j)).1⟩⟩
def XP(X:Cx)(l:n4)(U:TV)(H:Hp)(x:BS)(h:MH):Prop:=∀(u C:Addr)(i:TV)(a:Hp)(y:L2.St)(j:Shared)(f:Heap),x.fs=[]->X.mg x.cls=J (.ref C)->Le U H i a->RH X.K X.mg i a h->RS X.K i a l y ->
 Inv X [] y a j->Fl X f->P2 X.stack a f C u j.heap->X.xe (.ref u) j
def XM(X:Cx)(l:n4)(U:TV)(H:Hp)(x:BS)(h:MH):Prop:=∀(u C:Addr)(i:TV)(f:Hp)(y:L2.St)(j:Shared)(z:Heap)(a:TW),x.fs=[]->X.mg x.cls=J (.ref C)->Le U H i f->RH X.K X.mg i f h->RS X.K i f l y ->
 Inv X [] y f { j with heap:=z}->Heap.MadeExcOf z j.heap u (.ref C) a->X.xe (.ref u) j
def XP.le(l:Le U H U' H')(q:XP X σp U H x h):XP X σp U' H' x h :=
 λj C i f z y a e1 e2 u=>q j C i f z y a e1 e2 (l.trans u)
def XM.le(l:Le U H U' H')(q:XM X σp U H x h):XM X σp U' H' x h :=
 λu C j i B z f a e1 e2 y=>q u C j i B z f a e1 e2 (l.trans y)
abbrev Rl(α β:Type):=TV->Hp->α->β->Prop
def Ful{α β:Type}(X:Cx)(R:Rl α β)(j:n4)(U:TV)(H:Hp)(o:Out α)(Q:β->Hp->Prop):Prop:=match o with
 |.ok v i=>∀f a l,Le U H f a->RH X.K X.mg f a i->R f a v l->Q l a
 |.exc x i=>XP X j U H x i
 |.bad=>False
def jg{α β:Type}(X:Cx)(R:Rl α β)(U:TV)(H:Hp)(o:Out α)(Q:β->Hp->Prop):Prop:=match o with
 |.ok v j=>∀f a i,Le U H f a->RH X.K X.mg f a j->R f a v i->Q i a
 |_=>False
def Ful.zero(f:Ful X R σp U H o.ne Q):jg X R U H o Q:=by
 cases o with
 |ok v h=>exact f
 |exc x h=>exact f
 |bad=>exact f
def Ful.le(l:Le U H U1 H1)(f:Ful X R σp U H o Q):Ful X R σp U1 H1 o Q:=by
 cases o with
 |ok v h=>exact λa i u j=>f a i u (l.trans j)
 |exc x h=>exact XP.le (X:=X) (σp:=σp) (x:=x) (h:=h) l f
 |bad=>exact f
def Ful.bind{α β γ δ:Type}{X:Cx}{R:Rl α β}{S:Rl γ δ}{a:n4}{U:TV}{H:Hp}{o:Out α}{f:α->MH->Out γ}{Q:δ->Hp->Prop}{z:β->Hp->Prop}(q:Ful X S a U H (o.bind f) Q)(k:∀u i v j y,o=.ok v y->Le U H u i->RH X.K X.mg u i y->R u i v j->Ful X S a u i (f v y) Q->z j i):Ful X R a U H o z:=by
 cases o with
 |ok v h=>exact λC B j l r w=>k C B v j h rfl l r w (Ful.le l q)
 |exc x h=>exact q
 |bad=>exact q
abbrev RV'(X:Cx):Rl PV V:=λU H=>RP X.K U H
abbrev RVs'(X:Cx):Rl (TL) (List V):=λU H=>RPs X.K U H
abbrev Ln{α:Type}:Rl α α:=λ_ _ x y=>x=y
abbrev Mx(α:Type):=n4->MH->Out α
inductive tM{α β:Type}(X:Cx)(R:Rl α β)(m:Mx α)(Z:L2.St)(H:Hp)(Q:β->Hp->Prop):Prop
 |mk(U:TV)(σp:n4)(h:MH)(rs:RS X.K U H σp Z)(rh:RH X.K X.mg U H h)(q:Ful X R σp U H (m σp h) Q):tM X R m Z H Q
def ME(X:Cx)(e:Expr)(m:Mx PV):Prop:=PE X e (tM X (RV' X) m)
def MT(X:Cx)(e:Expr)(m:Mx Bool):Prop:=PT X e (tM X Ln m)
def MW(X:Cx)(e:Expr)(m:Mx Bool):Prop:=PW X e (tM X Ln m)
def MA(X:Cx)(a:TC)(m:Mx (TL)):Prop:=PA X a (tM X (RVs' X) m)
def PE.imp(h:PE X e t)(i:∀Z H Q,t' Z H Q->t Z H Q):PE X e t':=λf s Z H Q a q=>h f s Z H Q a (i Z H Q q)
def PT.imp(h:PT X e t)(i:∀Z H Q,t' Z H Q->t Z H Q):PT X e t':=λf s Z H Q a q=>h f s Z H Q a (i Z H Q q)
def PW.imp(h:PW X e t)(i:∀Z H Q,t' Z H Q->t Z H Q):PW X e t':=λa j s Z H Q f q=>h a j s Z H Q f (i Z H Q q)
def PA.imp(h:PA X e t)(i:∀Z H Q,t' Z H Q->t Z H Q):PA X e t':=λf j s Z H Q a q=>h f j s Z H Q a (i Z H Q q)
def PS.imp(h:PS X e t)(i:∀D Z H,t' D Z H->t D Z H):PS X e t':=λf s Z H D a q=>h f s Z H D a (i D Z H q)
def PSs.imp(h:PSs X e t)(i:∀D Z H,t' D Z H->t D Z H):PSs X e t':=λf s Z H D a q=>h f s Z H D a (i D Z H q)
def bg(X:Cx)(U:TV)(H:Hp)(o:SOut)(D:Ends):Prop:=match o with
 |.nx f j=>∀i a l,Le U H i a->RH X.K X.mg i a j->RS X.K i a f l->D.nx l a
 |.bk f j=>∀i a l,Le U H i a->RH X.K X.mg i a j->RS X.K i a f l->D.bk l a
 |.ct f j=>∀i a l,Le U H i a->RH X.K X.mg i a j->RS X.K i a f l->D.ct l a
 |.rt v j=>∀i a u,Le U H i a->RH X.K X.mg i a j->RP X.K i a v u->D.rt u a
 |.exc x f j=>XP X f U H x j
 |.rse x f j=>XM X f U H x j
 |.bad=>False
def bg.le(l:Le U H U1 H1)(f:bg X U H o D):bg X U1 H1 o D:=by
 cases o with
 |nx a h=>exact λi j y u=>f i j y (l.trans u)
 |bk a h=>exact λi j y u=>f i j y (l.trans u)
 |ct a h=>exact λi j y u=>f i j y (l.trans u)
 |rt v h=>exact λi j y u=>f i j y (l.trans u)
 |exc x a h=>exact XP.le (X:=X) (σp:=a) (x:=x) (h:=h) l f
 |rse x a h=>exact XM.le (X:=X) (σp:=a) (x:=x) (h:=h) l f
 |bad=>exact f
abbrev nw:=n4->MH->SOut
inductive N6(X:Cx)(m:nw)(D:Ends)(Z:L2.St)(H:Hp):Prop
 |mk(U:TV)(σp:n4)(h:MH)(rs:RS X.K U H σp Z)(rh:RH X.K X.mg U H h)(q:bg X U H (m σp h) D):N6 X m D Z H
def MS(X:Cx)(st:Stmt)(m:nw):Prop:=PS X st (N6 X m)
def Bi(X:Cx)(st:Ti)(m:nw):Prop:=PSs X st (N6 X m)
section
variable{X:Cx}{N W G:TM}{k:Nat}
structure Good(X:Cx)(N W G:TM)(k:Nat):Prop where
 hN:X.N=N
 nd:N.Nodup
 loc:∀x∈N,Loc X.env.scope x
 fn:∀x∈W,X.fn x=I\/X.env.scope.names.lookup x=J .local
 gl:∀x∈G,Gl X x
 dbg:∀x∈N++G,(x==("__debug__":Str))=T/\(x==("__classdict__":Str))=T/\x≠"__name__"
 calm:X.calm=I
 room:Room k X.A
 po:PassesOwn (model X.prog X.w) X.A X.env X.xe
def Good.x(g:Good X N W G k){i:Nat}{x:Str}(a:N[i]?=J x):X.N[i]?=J x:=by rw[g.hN];exact a
def aM{l:TM}{i:Nat}{x:Str}(a:l[i]?=J x):x∈l:=AL a
def rJ(X:Cx)(g:PV->PV->MH->TD):R2:=λf a H Q=>∃U h x y,RH X.K X.mg U H h/\RP X.K U H x f/\RP X.K U H y a/\jg X (RV' X) U H (g x y h) Q
abbrev zL(X:Cx)(f:Value->Value->Sem Value)(g:PV->PV->MH->TD):Prop:=OpR X f (rJ X g)
def uJ(X:Cx)(g:PV->MH->TD):V->Hp->VK->Prop:=λa H Q=>∃U h x,RH X.K X.mg U H h/\RP X.K U H x a/\jg X (RV' X) U H (g x h) Q
abbrev RN(X:Cx)(f:Value->Sem Value)(g:PV->MH->TD):Prop:=N4 X f (uJ X g)
def cJ(X:Cx)(g:TL->MH->TD):List V->Hp->VK->Prop:=λa H Q=>∃U h xs,RH X.K X.mg U H h/\RPs X.K U H xs a/\jg X (RV' X) U H (g xs h) Q
abbrev cz(X:Cx)(f:Value)(g:TL->MH->TD):Prop:=cG X f (cJ X g)
def ah(i:Nat):Mx PV:=λZ h=>match Z[i]? with
 |some (J v)=>.ok v h
 |_=>.bad
def mC(v:PV):Mx PV:=λ_ h=>.ok v h
def y0(g:Good X N W G k)(i:Nat){x:Str}{l:Pos}(a:N[i]?=J x):ME X (.Name x l) (ah i):=by
 have d:=g.dbg x (Bs _ (aM a));have hv:N3 X.env.scope x:=by
  rcases g.loc x (aM a)with q|q
  .exact .inl q
  .exact .inr (.inl q)
 refine PE.imp (Gg (g.x a) hv d.1 d.2.1) λZ H Q ⟨U,j,h,rs,y,f⟩=>?_;unfold ah at f
 cases e:j[i]? with
 |none=>rw[e]at f;exact f.elim
 |some o =>
  rw[e]at f
  cases o with
  |none=>exact f.elim
  |some v =>
   obtain⟨u,z,r⟩:=rs.2 i v e;exact⟨u,z,f U H u (Le.refl _ _) y r⟩
def aC:ME X (.Constant (.int i) j pos) (mC (.int i)):=PE.imp Gh λ_ H _ ⟨U,_,_,_,a,f⟩=>f U H _ (Le.refl _ _) a (.int i)
def Lo:ME X (.Constant (.bool i) j pos) (mC (.bl i)):=PE.imp KL λ_ H _ ⟨U,_,_,_,a,f⟩=>f U H _ (Le.refl _ _) a (.bl i)
def G1:ME X (.Constant .none j pos) (mC .non):=PE.imp Gi λ_ H _ ⟨U,_,_,_,a,f⟩=>f U H _ (Le.refl _ _) a .non
def az(f:PV->PV->MH->TD)(j l:Mx PV):Mx PV:=λZ h=>(j Z h).bind λx a=>(l Z a).bind λy i=>(f x y i).ne
def Lp(f:PV->MH->TD)(i:Mx PV):Mx PV:=λZ h=>(i Z h).bind λx a=>(f x a).ne
def tX{f:PV->PV->MH->TD}{l u:Mx PV}{Z:L2.St}{H:Hp}{Q:VK}(q:tM X (RV' X) (az f l u) Z H Q):K3 (rJ X f) (tM X (RV' X) l) (tM X (RV' X) u) Z H Q:=by obtain⟨U,a,h,rs,B,q⟩:=q;refine⟨U,a,h,rs,B,Ful.bind q λM H1 x x' E _ C j z P=>?_⟩;refine⟨M,a,E,rs.le C,j,Ful.bind P λO H2 y y' F _ R i S L=>?_⟩;exact⟨O,F,x,y,i,z.le R,S,L.zero⟩
def aN(j:zL X (binaryOp op) f)(i:ME X a ma)(l:ME X b mb):ME X (.BinOp a op b pos) (az f ma mb) :=
 PE.imp (K4 j i l) λ_ _ _ q=>tX q
def Lq(C:RN X (unaryOp op) f)(u:ME X a ma):ME X (.UnaryOp op a pos) (Lp f ma) :=
 PE.imp (K5 C u) λ_ _ _ ⟨U,j,h,rs,E,q⟩=>⟨U,j,h,rs,E,Ful.bind q λl H x L y _ F i B z=>⟨l,y,x,i,B,z.zero⟩⟩
def G2(j:zL X (compareOp op) f)(i:ME X a ma)(u:ME X b mb)(l:behindInMarks op b=T):ME X (.Compare a [op] [b] pos) (az f ma mb) :=
 PE.imp (Dd j i u l) λ_ _ _ q=>tX q
def mB(m:Mx PV):Mx Bool:=λZ h=>(m Z h).bind λv a=>match v with
 |.bl b=>.ok b a
 |_=>.bad
def Lr(q:tM X Ln (mB m) Z H Q):tM X (RV' X) m Z H λx a=>∃c,x=.bl c/\Q c a:=by
 obtain⟨U,f,h,rs,u,q⟩:=q;refine⟨U,f,h,rs,u,Ful.bind q λy a x C B _ z i l j=>?_⟩
 cases l with
 |bl b=>exact⟨b,rfl,j y a b (Le.refl _ _) i rfl⟩
 |_=>exact j.elim
def yz(l:zL X (compareOp op) f)(j:ME X a ma)(y:ME X b mb)(u:behindInMarks op b=T):MT X (.Compare a [op] [b] pos) (mB (az f ma mb)) :=
 PT.imp (De l j y u) λZ H Q q=>by
  obtain⟨U,i,h,rs,z,q⟩:=Lr q;exact tX ⟨U,i,h,rs,z,q⟩
def G3(h:ME X e m)(f:∀a,isTrue e X.env a=(do let v <-a;standAt e.pos;holding [v] (truthy v)):=by intro _;rfl):MT X e (mB m) :=
 PT.imp (Gj h f) λ_ _ _ q=>Lr q
def G4(m:Mx Bool):Mx Bool:=λZ h=>(m Z h).bind λb a=>.ok (!b) a
def G5(h:MT X e m):MT X (.UnaryOp .Not e pos) (G4 m) :=
 PT.imp (Gm h) λ_ _ _ ⟨U,f,h,rs,y,q⟩=>⟨U,f,h,rs,y,Ful.bind q λi j x C B _ z a u l=>by
  cases u;exact l i j _ (Le.refl _ _) a rfl⟩
def P4(a b:Mx Bool):Mx Bool:=λZ h=>(a Z h).bind λx f=>if x=I then .ok I f else b Z f
section
variable{a b:Expr}{rest:TC}{ma mb:Mx Bool}{pos:Pos}
def G6(f:MT X a ma):MW X (.BoolOp .Or [a] pos) ma:=Gk f
def Ls(F:MT X a ma)(E:MW X (.BoolOp .Or (b::rest) pos) mb):MW X (.BoolOp .Or (a::b::rest) pos) (P4 ma mb) :=
 PW.imp (KN F E) λZ H Q ⟨U,f,h,rs,y,q⟩=>⟨U,f,h,rs,y,Ful.bind q λj C x L B _ z i u l=>by
  cases u
  cases x with
  |true=>exact l j C _ (Le.refl _ _) i rfl
  |false=>exact⟨j,f,B,rs.le z,i,l⟩⟩
def MW.mt(h:MW X e m):MT X e m:=PW.pt h
end
def wR(a b:Mx PV):Mx PV:=λZ h=>(a Z h).bind λx f=>match x with
 |.bl c=>if c=I then b Z f else .ok (.bl T) f
 |_=>.bad
def wY(a:Mx PV):Mx PV:=λZ h=>(a Z h).bind λx f=>match x with
 |.bl c=>.ok (.bl (!c)) f
 |_=>.bad
section
variable{a b:Expr}{rest:TC}{ma mb:Mx PV}{pos:Pos}
def G7(f:ME X a ma):ME X (.BoolOp op [a] pos) ma:=Gn f
def G8(F:ME X a ma)(E:ME X (.BoolOp .And (b::rest) pos) mb):ME X (.BoolOp .And (a::b::rest) pos) (wR ma mb) :=
 PE.imp (Go F E) λZ H Q ⟨U,f,h,rs,y,q⟩=>⟨U,f,h,rs,y,Ful.bind q λl C x L B _ z i u j=>by
  cases u with
  |bl c =>
   refine⟨c,rfl,?_⟩
   cases c with
   |true=>exact⟨l,f,B,rs.le z,i,j⟩
   |false=>exact j l C _ (Le.refl _ _) i (.bl T)
  |_=>exact j.elim⟩
def G9(B:ME X a ma):ME X (.UnaryOp .Not a pos) (wY ma) :=
 PE.imp (Gp B) λZ H Q ⟨U,f,h,rs,u,q⟩=>⟨U,f,h,rs,u,Ful.bind q λz y x F E _ C i l j=>by
  cases l with
  |bl c=>exact⟨c,rfl,j z y _ (Le.refl _ _) i (.bl _)⟩
  |_=>exact j.elim⟩
def G_(c:Mx Bool)(a b:Mx PV):Mx PV:=λZ h=>(c Z h).bind λx f=>if x=I then a Z f else b Z f
def Ha(z:MT X c mc)(F:ME X a ma)(E:ME X b mb):ME X (.IfExp c a b pos) (G_ mc ma mb) :=
 PE.imp (A0 z F E) λZ H Q ⟨U,f,h,rs,C,q⟩=>⟨U,f,h,rs,C,Ful.bind q λu L x M l _ j i B y=>by
  cases B
  cases x with
  |true=>exact⟨u,f,l,rs.le j,i,y⟩
  |false=>exact⟨u,f,l,rs.le j,i,y⟩⟩
end
def hG:Mx (TL):=λ_ h=>.ok [] h
def ag(a:Mx PV)(r:Mx (TL)):Mx (TL):=λZ h=>(a Z h).bind λx f=>(r Z f).bind λxs i=>.ok (x::xs) i
def aT:MA X [] hG:=PA.imp ld λZ H Q ⟨U,f,h,rs,a,q⟩=>q U H _ (Le.refl _ _) a .nil
def aF(M:ME X e m)(C:MA X es ms)(E:starEach (e::es) X.env=(T,eval e X.env)::starEach es X.env:=by rfl):MA X (e::es) (ag m ms) :=
 PA.imp (eO M C E) λZ H Q ⟨U,a,h,rs,l,q⟩=>⟨U,a,h,rs,l,Ful.bind q λL H1 x x' B _ z i j P =>
  ⟨L,a,B,rs.le z,i,Ful.bind P λO u y y' h2 _ R f S F=>F O u _ (Le.refl _ _) f (.cons (j.le R) S)⟩⟩
def se(xs:TL)(h:MH):TD:=if xs.length<=sizeLine then .ok (.loc h.length) (h++[.lst xs])else .bad
def lw(xs:TL)(h:MH):TD:=if xs.length<=sizeLine then .ok (.tup xs) h else .bad
def m9{U:TV}{H:Hp}{h:MH}{xs:TL}{ys:List V}{Q:VK}(a:RH X.K X.mg U H h)(rs:RPs X.K U H xs ys)(f:jg X (RV' X) U H (se xs h) Q):ys.length<=sizeLine/\∀p,H p=Y->Q (.ref p) (mf H p (.lst ys)):=by
 unfold se at f
 split at f
 .rename_i u
  refine⟨by rw[<-rs.length];exact u,λp l=>?_⟩;obtain⟨j,i⟩:=a.new l (o:=.lst xs) ⟨ys,rfl,rs⟩;refine f _ _ _ i j (.loc ?_);rw[<-a.len];simp
 .exact f.elim
def we{U:TV}{H:Hp}{h:MH}{xs:TL}{ys:List V}{Q:VK}(l:RH X.K X.mg U H h)(rs:RPs X.K U H xs ys)(f:jg X (RV' X) U H (lw xs h) Q):ys.length<=sizeLine/\∀p,H p=Y->Q (.ref p) (mf H p (.tup ys)):=by
 unfold lw at f
 split at f
 .rename_i u
  refine⟨by rw[<-rs.length];exact u,λp j=>?_⟩;obtain⟨i,a⟩:=l.tup j ys;exact f _ _ _ a i (.tup (.inl (.inl bW)) (rs.le a))
 .exact f.elim
def Hb{a:n4}{U:TV}{H:Hp}{h:MH}{xs:TL}{Q:VK}(f:Ful X (RV' X) a U H (se xs h) Q):jg X (RV' X) U H (se xs h) Q:=by
 unfold se at f ⊢
 split at f
 .rw[b_ (by assumption)];exact f
 .exact f.elim
def Hc{a:n4}{U:TV}{H:Hp}{h:MH}{xs:TL}{Q:VK}(f:Ful X (RV' X) a U H (lw xs h) Q):jg X (RV' X) U H (lw xs h) Q:=by
 unfold lw at f ⊢
 split at f
 .rw[b_ (by assumption)];exact f
 .exact f.elim
def gK(m:Mx (TL)):Mx PV:=λZ h=>(m Z h).bind se
def dA(m:Mx (TL)):Mx PV:=λZ h=>(m Z h).bind lw
def xK(h:MA X es ms):ME X (.List es pos) (gK ms) :=
 PE.imp (GO h) λZ H Q ⟨U,a,h,rs,j,q⟩=>⟨U,a,h,rs,j,Ful.bind q λC z x B y _ u f i l=>m9 f i (Hb l)⟩
def Hd(h:MA X es ms):ME X (.Tuple es j pos) (dA ms) :=
 PE.imp (y7 h) λZ H Q ⟨U,a,h,rs,l,q⟩=>⟨U,a,h,rs,l,Ful.bind q λE B x C z _ y f i u=>we f i (Hc u)⟩
def SOut.then(o:SOut)(k:nw):SOut:=match o with
 |.nx Z h=>k Z h
 |o=>o
def cw(a b:nw):nw:=λZ h=>(a Z h).then b
def pj:nw:=λZ h=>.nx Z h
def jv:Bi X [] pj:=PSs.imp C5 λD Z H ⟨U,f,h,rs,a,q⟩=>q U H Z (Le.refl _ _) a rs
def Dp{st:Stmt}{m:nw}(h:MS X st m):Bi X [st] m:=C6 h
def bg.then{U:TV}{H:Hp}{o:SOut}{k:nw}{D:Ends}(q:bg X U H (o.then k) D):bg X U H o { D with nx:=λZ H=>N6 X k D Z H}:=by
 cases o with
 |nx a h=>exact λf i j l r s=>⟨f,a,h,s,r,bg.le l q⟩
 |_=>exact q
def Am{st:Stmt}{a:Ti}{m u:nw}(i:MS X st m)(j:Bi X a u):Bi X (st::a) (cw m u) :=
 PSs.imp (Az i j) λD Z H ⟨U,f,h,rs,l,q⟩=>⟨U,f,h,rs,l,bg.then q⟩
def cR(m:Mx PV):nw:=λZ h=>match m Z h with
 |.ok v a=>.rt v a
 |.exc x a=>.exc x Z a
 |.bad=>.bad
def He(j:ME X e m):MS X (.Return (J e) pos) (cR m) :=
 PS.imp (Gq j) λD Z H ⟨U,a,h,rs,i,q⟩=>⟨U,a,h,rs,i,by
  unfold cR at q
  cases e:m a h with
  |ok v f=>rw[e]at q;exact q
  |exc x f=>rw[e]at q;exact q
  |bad=>rw[e]at q;exact q⟩
def xx{α:Type}(m:Mx α)(k:α->nw):nw:=λZ h=>match m Z h with
 |.ok v a=>k v Z a
 |.exc x a=>.exc x Z a
 |.bad=>.bad
def bg.ex{α β:Type}{R:Rl α β}{m:Mx α}{k:α->nw}{U:TV}{H:Hp}{a:n4}{h:MH}{D:Ends}{Q:β->Hp->Prop}(q:bg X U H (xx m k a h) D)(w:∀i f v j y,Le U H i f->RH X.K X.mg i f y->R i f v j->bg X i f (k v a y) D->Q j f):Ful X R a U H (m a h) Q:=by
 unfold xx at q
 cases e:m a h with
 |ok v u=>rw[e]at q;exact λi f j l r z=>w i f v j u l r z (bg.le l q)
 |exc x u=>rw[e]at q;exact q
 |bad=>rw[e]at q;exact q
def kE(m:Mx PV):nw:=xx m λ_=>pj
def nh{e:Expr}{m:Mx PV}{a:Pos}(B:ME X e m)(u:swapsWith e Y a.line X.env=pure T:=by rfl):MS X (.Expr e a) (kE m) :=
 PS.imp (C7 B u) λD Z H ⟨U,f,h,rs,i,q⟩=>⟨U,f,h,rs,i,bg.ex q λy j v E C l r z w=>w y j Z (Le.refl _ _) r (rs.le l)⟩
def Cj(c:Mx Bool)(a b:nw):nw:=xx c λx=>if x=I then a else b
def mO{c:Expr}{a b:Ti}{B:Mx Bool}{u C:nw}{i:Pos}(E:MT X c B)(M:Bi X a u)(L:Bi X b C):MS X (.If c a b i) (Cj B u C) :=
 PS.imp (KS E M L) λD Z H ⟨U,f,h,rs,F,q⟩=>⟨U,f,h,rs,F,bg.ex q λy O v P j l r z w=>by
  cases z
  cases v with
  |true=>exact⟨y,f,j,rs.le l,r,w⟩
  |false=>exact⟨y,f,j,rs.le l,r,w⟩⟩
def bS(i:Nat)(m:Mx PV):nw:=xx m λv Z h=>.nx (Z.set i (J v)) h
def tq(g:Good X N W G k)(i:Nat){x:Str}{e:Expr}{m:Mx PV}{f a:Pos}(u:N[i]?=J x)(B:W[i]?=J x)(L:ME X e m)(E:swapsWith e (J (.Name x a)) f.line X.env=pure T:=by rfl):
  MS X (.Assign [.Name x a] e f) (bS i m):=by
 refine PS.imp (Gz (by rw[g.hN];exact g.nd) (g.x u) (g.loc x (aM u)) L E (g.fn x (aM B))) λD Z H ⟨U,j,h,rs,y,q⟩=>?_;exact⟨U,j,h,rs,y,bg.ex q λF C v O M l r z w=>w F C _ (Le.refl _ _) r ((rs.le l).set i z)⟩
end
section
variable{X:Cx}{N W G:TM}{k:Nat}
abbrev Mg:=PV->nw
def nX(X:Cx)(U:TV)(H:Hp)(o:SOut)(Q:L2.St->Hp->Prop):Prop:=match o with
 |.nx a j=>∀i f l,Le U H i f->RH X.K X.mg i f j->RS X.K i f a l->Q l f
 |.exc x a j=>XP X a U H x j
 |_=>False
def nX.le(l:Le U H U1 H1)(f:nX X U H o Q):nX X U1 H1 o Q:=by
 cases o with
 |nx a h=>exact λi j y u=>f i j y (l.trans u)
 |exc x a h=>exact XP.le (X:=X) (σp:=a) (x:=x) (h:=h) l f
 |_=>exact f
inductive tG(X:Cx)(g:Mg)(v':V)(Z:L2.St)(H:Hp)(Q:L2.St->Hp->Prop):Prop
 |mk(U:TV)(σp:n4)(h:MH)(v:PV)(rs:RS X.K U H σp Z)(rh:RH X.K X.mg U H h)(rv:RP X.K U H v v')(q:nX X U H (g v σp h) Q):tG X g v' Z H Q
def MG(X:Cx)(a:Expr)(g:Mg):Prop:=PG X a (tG X g)
def PG.imp(h:PG X e t)(i:∀v Z H Q,t' v Z H Q->t v Z H Q):PG X e t':=λf s Z H v u Q a r q=>h f s Z H v u Q a r (i v Z H Q q)
def mh(i:Nat):Mg:=λv Z h=>.nx (Z.set i (J v)) h
def vV(g:Good X N W G k)(i:Nat)(a:N[i]?=J x)(j:W[i]?=J x):MG X (.Name x pos) (mh i) :=
 PG.imp (u9 (by rw[g.hN];exact g.nd) (g.x a) (g.loc x (aM a)) (g.fn x (aM j))) λy Z H Q ⟨U,u,h,v,rs,l,f,q⟩=>q U H _ (Le.refl _ _) l (rs.set i f)
abbrev Dq:=TL->nw
inductive RQ(X:Cx)(g:Dq)(v':List V)(Z:L2.St)(H:Hp)(Q:L2.St->Hp->Prop):Prop
 |mk(U:TV)(σp:n4)(h:MH)(v:TL)(rs:RS X.K U H σp Z)(rh:RH X.K X.mg U H h)(rv:RPs X.K U H v v')(q:nX X U H (g v σp h) Q):RQ X g v' Z H Q
def Lu(X:Cx)(a:TC)(g:Dq):Prop:=PGs X a (RQ X g)
def PGs.imp(h:PGs X e t)(i:∀v Z H Q,t' v Z H Q->t v Z H Q):PGs X e t':=λf s Z H v u Q a r q=>h f s Z H v u Q a r (i v Z H Q q)
def zN:Dq:=λa Z h=>match a with
 |[]=>.nx Z h
 |_=>.bad
def p4(a:Mg)(r:Dq):Dq:=λf Z h=>match f with
 |v::i=>(a v Z h).then (r i)
 |[]=>.bad
def fL:Lu X [] zN:=PGs.imp C9 λj Z H Q ⟨U,i,h,v,rs,f,a,q⟩=>by
 cases a with
 |nil=>exact⟨rfl,q U H Z (Le.refl _ _) f rs⟩
 |cons _ _=>exact q.elim
def bA(i:MG X e a)(M:Lu X es r)(E:(assignEach (e::es) X.env).map (·.2)=assign e X.env::(assignEach es X.env).map (·.2):=by rfl):Lu X (e::es) (p4 a r) :=
 PGs.imp (AZ i M E) λS Z H Q ⟨U,f,h,v,rs,B,C,q⟩=>by
  cases C with
  |nil=>exact q.elim
  |@cons x y xs ys u L =>
   refine⟨_,_,rfl,U,f,h,x,rs,B,u,?_⟩;dsimp only[p4]at q
   cases e:a x f h with
   |nx j i=>rw[e]at q;exact λF R Z' l z O=>⟨F,j,i,xs,O,z,L.le l,nX.le l q⟩
   |exc P j i=>rw[e]at q;exact q
   |_=>rw[e]at q;exact q
def zQ(r:Dq)(n:Nat):Mg:=λv Z h=>match v with
 |.tup xs=>if xs.length=n then r xs Z h else .bad
 |_=>.bad
def iJ(g:Good X N W G k){a:TC}{j:Nat}{r:Dq}{n:Nat}{i:Pos}(h:Lu X a r)(C:(assignEach a X.env).length=n:=by rfl)(l:(assignEach a X.env).findIdx? (·.1)=Y:=by rfl):
  MG X (.Tuple a j i) (zQ r n) :=
 PG.imp (Gw g.calm h C l) λE Z H Q ⟨U,f,h,v,rs,y,z,q⟩=>by
  cases z with
  |tup s u =>
   dsimp only[zQ]at q
   split at q
   .rename_i B
    exact⟨_,_,rfl,s,by rw[<-u.length];exact B,U,f,h,_,rs,y,u,q⟩
   .exact q.elim
  |_=>exact q.elim
def pP(m:Mx PV)(g:Mg):nw:=xx m λv Z h=>match g v Z h with
 |.nx f a=>.nx f a
 |.exc x f a=>.exc x f a
 |_=>.bad
def sC{f e:Expr}{m:Mx PV}{g:Mg}{i:Pos}(M:ME X e m)(u:MG X f g)(C:swapsWithSole [f] e i.line X.env=pure T:=by rfl)(B:swappedStores [f] e X.env=pure Y:=by rfl)(j:(assignEach [f] X.env).map (·.2)=[assign f X.env]:=by rfl):MS X (.Assign [f] e i) (pP m g) :=
 PS.imp (Gy M u C B j) λD Z H ⟨U,a,h,rs,y,q⟩=>⟨U,a,h,rs,y,bg.ex q λF O v P j l r z w=>⟨F,a,j,v,rs.le l,r,z,by
  cases e:g v a j with
  |nx L E=>rw[e]at w;exact w
  |exc x L E=>rw[e]at w;exact w
  |_=>rw[e]at w;exact w⟩⟩
def Hf(i j:Nat)(m:Mx (TL)):nw:=xx m λa Z h=>match a with
 |[v,w]=>.nx ((Z.set i (J v)).set j (J w)) h
 |_=>.bad
def Hg(g:Good X N W G k)(i j:Nat)(B:N[i]?=J x)(C:N[j]?=J y)(f:i≠j)(Q:MA X [a,b] m)(L:X.env.scope.names.lookup x=J .local)(R:X.env.scope.names.lookup y=J .local)(F:swappedStores [.Tuple [.Name x px,.Name y py] kt pt] (.Tuple [a,b] k2 pt2) X.env=pure (J [x,y]))(O:swapsWithSole [.Tuple [.Name x px,.Name y py] kt pt] (.Tuple [a,b] k2 pt2) pos.line X.env=pure T:=by rfl):
  MS X (.Assign [.Tuple [.Name x px,.Name y py] kt pt] (.Tuple [a,b] k2 pt2) pos) (Hf i j m) :=
 PS.imp (GA g.calm (by rw[g.hN];exact g.nd) (g.x B) (g.x C) f L R Q F O) λD Z H ⟨U,u,h,rs,E,q⟩=>⟨U,u,h,rs,E,bg.ex q λP M v v' h1 l r z w=>by
  cases z with
  |nil=>exact w.elim
  |cons z1 z =>
   cases z with
   |nil=>exact w.elim
   |cons S z =>
    cases z with
    |nil=>exact⟨_,_,rfl,w P M _ (Le.refl _ _) r (((rs.le l).set i z1).set j S)⟩
    |cons _ _=>exact w.elim⟩
def uD(o i v:PV)(h:MH):Option MH:=match o,i with
 |.loc n,.int j=>(match h[n]? with
  |some (.lst xs)=>(wC xs.length j).map λp=>h.set n (.lst (xs.set p v))
  |_=>Y)
 |_,_=>Y
def Hh(mo a:Mx PV):Mg:=λv=>xx mo λo=>xx a λi Z h=>match uD o i v h with
 |some f=>.nx Z f
 |none=>.bad
def tO(ho:ME X o mo)(hi:ME X i mi)(ha:∀v,assign (.Subscript o i pos) X.env v=(do
   let l <-holding [v] (eval o X.env)
   let z <-holding [v,l] (eval i X.env)
   standAt pos
   holding [v,l,z] (setItem l z v)
   release [v,l,z] []):=by intro _;rfl):MG X (.Subscript o i pos) (Hh mo mi) :=
 PG.imp (Gx ho hi A3 ha) λv' Z H Q ⟨U,f,h,v,rs,rh,rv,q⟩=>by
  refine⟨U,f,h,rs,rh,?_⟩;unfold Hh xx at q
  cases e:mo f h with
  |exc x F=>rw[e]at q;exact q
  |bad=>rw[e]at q;exact q
  |ok l F =>
   rw[e]at q;intro U1 H1 o' u O ro;refine⟨U1,f,F,rs.le u,O,?_⟩;dsimp only at q
   cases e2:mi f F with
   |exc x R=>rw[e2]at q;exact XP.le (X:=X) (σp:=f) (x:=x) (h:=R) u q
   |bad=>rw[e2]at q;exact q
   |ok z R =>
    rw[e2]at q;intro U2 H2 i' B y ri;dsimp only at q;have E:=ro.le B;have L:=(rv.le u).le B;unfold uD at q
    cases E with
    |@loc n a S =>
     cases ri with
     |int j =>
      dsimp only at q;obtain⟨ob,eo,C⟩:=y.obj S;rw[eo]at q
      cases ob with
      |dic fz ks xs=>exact q.elim
      |exc x=>exact q.elim
      |lst xs =>
       obtain⟨ys,ey,ry⟩:=C;dsimp only at q
       cases M:wC xs.length j with
       |none=>rw[M]at q;exact q.elim
       |some p =>
        rw[M]at q;refine⟨a,ys,j,p,rfl,rfl,ey,by rw[<-ry.length];exact M,?_⟩;obtain⟨r3,P⟩:=y.put S (o:=.lst (xs.set p v)) (ho:=.lst (ys.set p v')) ⟨_,rfl,RPs.set L p ry⟩;exact q U2 _ Z (u.trans (B.trans P)) r3 (rs.le (u.trans (B.trans P)))
     |_=>exact q.elim
    |_=>exact q.elim
structure MIt where
 xs:TL
 gd:List (Nat×TL):=[]
def MIt.ok(a:MIt)(h:MH):Prop:=∀p∈a.gd,h[p.1]?=J (.lst p.2)
def pV(X:Cx):Rl MIt It:=λy z j a=>∀U H h (i:Nat),Le y z U H->RH X.K X.mg U H h->j.ok h ->
 (i<j.xs.length->a.go i H/\∀u f,a.yld i H u f->∃l x,Le U H l f/\RH X.K X.mg l f h/\j.xs[i]?=J x/\RP X.K l f x u)/\(j.xs.length<=i->a.stop i H)
def MI(X:Cx)(f a:Expr)(m:Mx MIt):Prop:=PI X f a (tM X (pV X) m)
def PI.imp(h:PI X tg e t)(i:∀Z H Q,t' Z H Q->t Z H Q):PI X tg e t':=λf s Z H Q a q=>h f s Z H Q a (i Z H Q q)
def wI(i:MIt)(g:Mg)(b:nw):TL->nw
 |[]=>λZ h=>if i.ok h then .nx Z h else .bad
 |x::r=>λZ h=>if i.ok h then (match g x Z h with
   |.nx j l=>(match b j l with
    |.nx f a=>wI i g b r f a
    |.ct f a=>wI i g b r f a
    |.bk f a=>.nx f a
    |.rt v a=>.rt v a
    |.exc e f a=>.exc e f a
    |.rse e f a=>.rse e f a
    |.bad=>.bad)
   |.exc e j l=>.exc e j l
   |_=>.bad)else .bad
def ja(f:Mx MIt)(g:Mg)(b:nw):nw:=xx f λa=>wI a g b a.xs
def jI(gd:Good X N W G k)(hi:MI X tg iter mi)(hg:MG X tg g)(hb:Bi X body mb)(hs:∀x,foldedSetIterable iter X.env x=pure x:=by intro _;rfl):MS X (.For tg iter body [] pos) (ja mi g mb):=by
 refine PS.imp (GD gd.po gd.calm hi hg hb hs) λD Z H ⟨U,l,h,rs,rh,q⟩=>⟨U,l,h,rs,rh,bg.ex q λR H1 f ap h1 l1 an jr w=>?_⟩;refine⟨λi m Z H=>m=f.xs.length-i/\i<=f.xs.length/\∃U l h,Le R H1 U H/\RS X.K U H l Z/\RH X.K X.mg U H h/\bg X U H (wI f g mb (f.xs.drop i) l h) D,⟨_,rfl,wB _,R,l,h1,Le.refl _ _,rs.le l1,an,w⟩,?_⟩;rintro i m Z2 H2 ⟨rfl,hi,U2,E,S,l2,P,L,u⟩;by_cases B:i<f.xs.length
 .have ed:f.xs.drop i=f.xs[i]::f.xs.drop (i+1):=NK B;rw[ed]at u;unfold wI at u
  split at u
  .rename_i hok
   obtain⟨j1,j2⟩:=jr U2 H2 S i l2 L hok;obtain⟨go,yl⟩:=j1 B;refine .inr ⟨go,λZ3 O=>∃U3 C h3,Le R H1 U3 O/\RS X.K U3 O C Z3/\RH X.K X.mg U3 O h3/\bg X U3 O (wI f g mb (f.xs.drop (i+1)) C h3) D,λZ3 O z=>⟨_,by ext,rfl,B,z⟩,λx' H' y=>?_⟩;obtain⟨U',x,l',ai,ex,rx⟩:=yl x' H' y;have al:x=f.xs[i]:=by rw[xg B]at ex;exact(Option.some.inj ex).symm
   subst al;refine⟨U',E,S,_,P.le l',ai,rx,?_⟩;have j:=bg.le l' u
   cases eg:g f.xs[i] E S with
   |nx Z4 h4 =>
    rw[eg]at j;intro U5 H5 Z5 l5 r5 s5;refine⟨U5,Z4,h4,s5,r5,?_⟩;have a:=bg.le l5 j;have l6:Le R H1 U5 H5:=l2.trans (l'.trans l5);dsimp only at a
    cases em:mb Z4 h4 with
    |nx M F=>rw[em]at a;exact λU7 H7 Z7 Q r7 s7=>⟨U7,M,F,l6.trans Q,s7,r7,bg.le Q a⟩
    |ct M F=>rw[em]at a;exact λU7 H7 Z7 Q r7 s7=>⟨U7,M,F,l6.trans Q,s7,r7,bg.le Q a⟩
    |bk M F=>rw[em]at a;exact a
    |rt v F=>rw[em]at a;exact a
    |exc e M F=>rw[em]at a;exact a
    |rse e M F=>rw[em]at a;exact a
    |bad=>rw[em]at a;exact a
   |exc e Z4 h4=>rw[eg]at j;exact j
   |_=>rw[eg]at j;exact j.elim
  .exact u.elim
 .have e:i=f.xs.length:=by ext
  rw[e,List.drop_length]at u;unfold wI at u
  split at u
  .rename_i hok
   obtain⟨j1,j2⟩:=jr U2 H2 S i l2 L hok;exact .inl ⟨j2 (by ext),u U2 H2 Z2 (Le.refl _ _) L P⟩
  .exact u.elim
def Fm(v:PV)(h:MH):Out MIt:=match v with
 |.loc n=>(match h[n]? with
  |some (.lst xs)=>.ok ⟨xs,[(n,xs)]⟩ h
  |_=>.bad)
 |.frl xs=>.ok ⟨xs,[]⟩ h
 |_=>.bad
def Lv(m:Mx PV):Mx MIt:=λZ h=>(m Z h).bind Fm
def vT(M:∀j f h,Le U H j f->RH X.K X.mg j f h->(⟨xs,gd⟩:MIt).ok h->∃ys,SqL X.K f a ys/\RPs X.K j f xs ys):pV X U H ⟨xs,gd⟩ (PH X.K a):=by
 intro j f h i l C ok;obtain⟨ys,B,rs⟩:=M j f h l C ok;refine⟨λu=>?_,λu=>⟨ys,B,by rw[<-rs.length];exact u⟩⟩;have E:xs[i]?=J (xs[i]'u):=xg u;obtain⟨y,F,O⟩:=rs.get E;refine⟨⟨ys,y,B,F⟩,λL P ⟨e,z⟩=>?_⟩;subst e
 have:ys[i]?=J L:=z ys B
 rw[F]at this;cases this;exact⟨j,_,Le.refl _ _,C,E,O⟩
def Dr(hl:ME X l m):MI X tg l (Lv m) :=
 PI.imp (C_ hl) λZ H Q ⟨U,B,h,rs,R,q⟩=>⟨U,B,h,rs,R,Ful.bind q λF E x x' h1 _ l1 f M i=>by
  cases M with
  |@loc n a e =>
   obtain⟨ob,O,u⟩:=f.obj e;dsimp only[Fm]at i;rw[O]at i
   cases ob with
   |dic fz ks xs=>exact i.elim
   |exc x=>exact i.elim
   |lst xs =>
    obtain⟨ys,ey,ry⟩:=u;refine⟨a,rfl,⟨ys,SqL.of ey⟩,i F E _ (Le.refl _ _) f (vT λS L P l j ok=>?_)⟩;obtain⟨z,y,C⟩:=j.at' n a _ (l.get e) (ok (n,xs) (by simp));exact⟨z,SqL.of y,C⟩
  |frl s r =>
   exact⟨_,rfl,⟨_,s.sq⟩,i F E _ (Le.refl _ _) f (vT λS L P l j ok=>⟨_,(l.sqf s).sq,r.le l⟩)⟩
  |_=>exact i.elim⟩
def Lw(m:Mx PV):Mx MIt:=λZ h=>(m Z h).bind λv a=>match v with
 |.tup xs=>.ok ⟨xs,[]⟩ a
 |_=>.bad
def Hi(hl:ME X l m):MI X tg l (Lw m) :=
 PI.imp (GC hl) λZ H Q ⟨U,u,h,rs,P,q⟩=>⟨U,u,h,rs,P,Ful.bind q λU1 R x F h1 _ l1 B O M=>by
  cases O with
  |@tup xs a ys s r =>
   refine⟨_,rfl,⟨_,s⟩,M U1 R _ (Le.refl _ _) B ?_⟩;intro S H' h' i l j ok;have C:=l.sqt s;have r':=r.le l;refine⟨λf=>?_,λf=>⟨ys,C,by rw[<-r.length];exact f⟩⟩;have E:xs[i]?=J (xs[i]'f):=xg f;obtain⟨y,L,ry⟩:=r'.get E;refine⟨⟨ys,y,C,L⟩,λF H2 ⟨e,z⟩=>?_⟩;subst e
   have:ys[i]?=J F:=z ys C
   rw[L]at this;cases this;exact⟨S,_,Le.refl _ _,j,E,ry⟩
  |_=>exact M.elim⟩
def aW(lo:Int)(n:Nat):TL:=(List.range n).map λ(i:Nat)=>PV.int (lo+(i:Int))
def dR(lo:Int)(n:Nat):(aW lo n).length=n:=by simp[aW]
def vn(lo:Int)(n:Nat):pV X U H ⟨aW lo n,[]⟩ (KZ lo n):=by intro j z h i l u ok;have f:(aW lo n).length=n:=dR lo n;refine⟨λa=>⟨by rw[f]at a;exact a,λB y ⟨e1,e2⟩=>?_⟩,λa=>by rw[f]at a;exact a⟩;subst e1;subst e2;rw[f]at a;exact⟨j,.int (lo+i),Le.refl _ _,u,by simp[aW,a],.int _⟩
def dP(m:Mx (TL)):Mx MIt:=λZ h=>(m Z h).bind λf a=>match f with
 |[.int j]=>if -(2^62)<=j/\j<2^62 then .ok ⟨aW 0 j.toNat,[]⟩ a else .bad
 |_=>.bad
def Fo(m:Mx (TL)):Mx MIt:=λZ h=>(m Z h).bind λf a=>match f with
 |[.int i,.int j]=>if -(2^62)<=i/\i<2^62 /\ -(2^62)<=j/\j<2^62 then .ok ⟨aW i (j-i).toNat,[]⟩ a else .bad
 |_=>.bad
def qy(z:Gl X "range")(C:X.mg "range"=Y)(O:MA X [a] m)(L:starEach [a] X.env=[(T,eval a X.env)]:=by rfl):MI X tg (.Call (.Name "range" p) [a] [] pos) (dP m):=by
 refine PI.imp (yB z C O L) λZ H Q ⟨U,i,h,rs,E,q⟩=>⟨U,i,h,rs,E,Ful.bind q λM F x x' S _ R l B f=>?_⟩
 cases B with
 |nil=>exact f.elim
 |cons u P =>
  cases P with
  |nil =>
   cases u with
   |int j =>
    dsimp only at f
    split at f
    .rename_i y
     exact⟨j,rfl,y.1,y.2,f M F _ (Le.refl _ _) l (vn 0 j.toNat)⟩
    .exact f.elim
   |_=>exact f.elim
  |cons r2 t2=>cases u<;>exact f.elim
def zg{O a b:Expr}{m:Mx (TL)}{p l:Pos}(y:Gl X "range")(E:X.mg "range"=Y)(S:MA X [a,b] m)(M:starEach [a,b] X.env=[(T,eval a X.env),(T,eval b X.env)]:=by rfl)(i:starEach [b] X.env=[(T,eval b X.env)]:=by rfl):MI X O (.Call (.Name "range" p) [a,b] [] l) (Fo m):=by
 refine PI.imp (yf y E S M i) λZ H Q ⟨U,j,h,rs,F,q⟩=>⟨U,j,h,rs,F,Ful.bind q λR L x x' h1 _ l1 u z f=>?_⟩
 split at f
 .cases z with
  |cons B t1 =>
   cases t1 with
   |cons P t2 =>
    cases t2;cases B;cases P
    split at f
    .rename_i C
     exact⟨_,_,rfl,C,f R L _ (Le.refl _ _) u (vn _ _)⟩
    .exact f.elim
 .exact f.elim
def bP(c:Mx Bool)(b:nw):Nat->nw
 |0=>λ_ _=>.bad
 |n+1=>xx c λx=>if x=I then (λZ h=>match b Z h with
   |.nx f a=>bP c b n f a
   |.ct f a=>bP c b n f a
   |.bk f a=>.nx f a
   |.rt v a=>.rt v a
   |.exc e f a=>.exc e f a
   |.rse e f a=>.rse e f a
   |.bad=>.bad)else pj
def Hj(c:Mx Bool)(b:nw):nw:=λZ h=>if z:∃n,bP c b n Z h≠.bad then bP c b (Classical.choose z) Z h else .bad
def lA:∀{n:Nat}{Z:n4}{h:MH},bP c b n Z h≠.bad->bP c b (n+1) Z h=bP c b n Z h
 |0,_,_,q=>absurd rfl q
 |n+1,Z,h,q=>by
  rw[bP]at q
  conv=>lhs;rw[bP]
  conv=>rhs;rw[bP]
  unfold xx at q ⊢
  cases e:c Z h with
  |exc x a=>rfl
  |bad=>rfl
  |ok x a =>
   rw[e]at q;dsimp only at q ⊢
   cases x with
   |false=>rfl
   |true =>
    simp only[if_true]at q ⊢
    cases em:b Z a with
    |nx i f=>rw[em]at q;exact lA q
    |ct i f=>rw[em]at q;exact lA q
    |_=>rfl
def vJ(q:bP c b n Z h≠.bad)(l:n<=m):bP c b m Z h=bP c b n Z h:=by
 induction l with
 |refl=>rfl
 |step l a=>rw[lA (by rw[a];exact q),a]
def jt(q:bP c b n Z h≠.bad):Hj c b Z h=bP c b n Z h:=by
 have z:∃n,bP c b n Z h≠.bad:=⟨n,q⟩;unfold Hj;rw[dif_pos z];have a:=Classical.choose_spec z;rcases Nat.le_total n (Classical.choose z)with l|l
 .exact vJ q l
 .exact (vJ a l).symm
def Ak(gd:Good X N W G k)(Q:MT X c mc)(hb:Bi X body mb):MS X (.While c body [] pos) (Hj mc mb):=by
 refine PS.imp (Bu gd.po Q hb) λD Z H ⟨U,a,h,rs,S,q⟩=>?_;refine⟨λm Z H=>∃U a h,RS X.K U H a Z/\RH X.K X.mg U H h/\bg X U H (bP mc mb m a h) D,?_,?_⟩
 .unfold Hj at q
  split at q
  .exact⟨_,U,a,h,rs,S,q⟩
  .exact q.elim
 .rintro m Z1 H1 ⟨U1,f,h1,i,E,F⟩
  cases m with
  |zero=>exact F.elim
  |succ m =>
   rw[bP]at F;refine⟨U1,f,h1,i,E,bg.ex F λO H2 v v' M P L z w=>?_⟩;cases z
   cases v with
   |false=>rw[e_ F6]at w ⊢;exact w O H2 Z1 (Le.refl _ _) L (i.le P)
   |true =>
    rw[b_ rfl]at w ⊢;refine⟨λZ H=>∃U a h,RS X.K U H a Z/\RH X.K X.mg U H h/\bg X U H (bP mc mb m a h) D,λZ' H' z=>⟨m,NR _,z⟩,O,f,M,i.le P,L,?_⟩
    cases em:mb f M with
    |nx l j=>rw[em]at w;exact λC R Z7 y B u=>⟨C,l,j,u,B,bg.le y w⟩
    |ct l j=>rw[em]at w;exact λC R Z7 y B u=>⟨C,l,j,u,B,bg.le y w⟩
    |bk l j=>rw[em]at w;exact w
    |rt v j=>rw[em]at w;exact w
    |exc e l j=>rw[em]at w;exact w
    |rse e l j=>rw[em]at w;exact w
    |bad=>rw[em]at w;exact w
def cg(f:PV->Option PyData):TL->Option (List PyData)
 |[]=>J []
 |x::r=>match f x,cg f r with
  |some d,J a=>J (d::a)
  |_,_=>Y
def rd:Nat->MH->PV->Option PyData
 |0,_,v=>(match v with
  |.non=>J .none
  |.bl b=>J (.bool b)
  |.int i=>J (.int i)
  |.str x=>J (.str x)
  |_=>Y)
 |n+1,h,v=>(match v with
  |.non=>J .none
  |.bl b=>J (.bool b)
  |.int i=>J (.int i)
  |.str x=>J (.str x)
  |.tup xs=>(cg (rd n h) xs).map PyData.tuple
  |.frl xs=>(cg (rd n h) xs).map PyData.list
  |.loc m=>(match h[m]? with
   |some (.lst xs)=>(cg (rd n h) xs).map PyData.list
   |_=>Y))
def fZ{l:Heap}{f:PV->Option PyData}{K:hH}{U:TV}{H:Hp}(hf:∀v y u d,RP K U H v y->aJ y u->f v=J d->∃j,Reads l u d j):
  ∀{xs:TL}{ys:List V}{a:TW}{i:List PyData},RPs K U H xs ys->aG ys a->cg f xs=J i->∃j,ReadsAll l a i j:=by
 intro xs
 induction xs with
 |nil =>
  intro ys a i r v e;cases r;cases v;cases e;exact⟨_,.nil⟩
 |cons x xs z =>
  intro ys a i r v e;cases r with|cons r t=>cases v with|cons v w =>
  simp only[cg]at e
  split at e
  .rename_i d C e1 e2
   cases e;obtain⟨F,E⟩:=hf _ _ _ _ r v e1;obtain⟨L,B⟩:=z t w e2;exact⟨_,.cons E B⟩
  .cases e
def fP{P:TX}{Z:L2.St}{H:Hp}{s:Shared}{U:TV}{h:MH}(f:Inv X P Z H s)(O:RH X.K X.mg U H h):
  ∀(n:Nat)(v:PV)(B:V)(u:Value)(d:PyData),RP X.K U H v B->aJ B u->rd n h v=J d->∃z,Reads s.heap u d z:=by
 intro n
 induction n with
 |zero =>
  intro v B u d rp r e
  cases rp with
  |non=>cases e;cases r;exact⟨_,.none⟩
  |bl b=>cases e;cases r;exact⟨_,.bool b⟩
  |int i=>cases e;obtain⟨t,rfl⟩:=r;exact⟨_,.int i t⟩
  |str i=>cases e;obtain⟨t,rfl⟩:=r;exact⟨_,.str i t⟩
  |_=>cases e
 |succ n E =>
  intro v B u d rp r e
  cases rp with
  |non=>cases e;cases r;exact⟨_,.none⟩
  |bl b=>cases e;cases r;exact⟨_,.bool b⟩
  |int i=>cases e;obtain⟨t,rfl⟩:=r;exact⟨_,.int i t⟩
  |str i=>cases e;obtain⟨t,rfl⟩:=r;exact⟨_,.str i t⟩
  |@tup xs a ys s F =>
   cases r;simp only[rd]at e
   cases q:cg (rd n h) xs with
   |none=>rw[q]at e;cases e
   |some L =>
    rw[q]at e;cases e;obtain⟨y,j,⟨o,e1,e2,m,e3⟩,_⟩:=f.tuple s;obtain⟨z,l⟩:=fZ (E) F j q;exact⟨_,.tuple e1 e2 e3 (by simpa using l)⟩
  |@frl xs a ys s F =>
   cases r;simp only[rd]at e
   cases q:cg (rd n h) xs with
   |none=>rw[q]at e;cases e
   |some L =>
    rw[q]at e;cases e;obtain⟨y,j,⟨o,m,e1,e2,_,e3⟩,_⟩:=f.list s.sq;obtain⟨z,l⟩:=fZ (E) F j q;exact⟨_,.list e1 e2 e3 (by simpa using l)⟩
  |loc Q =>
   cases r;simp only[rd]at e;obtain⟨S,M,C⟩:=O.obj Q;rw[M]at e
   cases S with
   |dic fz ks xs=>cases e
   |exc x=>cases e
   |lst xs =>
    obtain⟨ys,R,ry⟩:=C;dsimp only at e
    cases q:cg (rd n h) xs with
    |none=>rw[q]at e;cases e
    |some L =>
     rw[q]at e;cases e;obtain⟨y,j,⟨o,m',e1,e2,_,e3⟩,_⟩:=f.list (SqL.of (K:=X.K) R);obtain⟨z,l⟩:=fZ (E) ry j q;exact⟨_,.list e1 e2 e3 (by simpa using l)⟩
def AW(x y:PV)(h:MH):TD:=match rd 60 h x,rd 60 h y with
 |some a,J b=>if SeqAt.shaped a=I/\SeqAt.shaped b=I then .ok (.bl (PyData.eqv a b)) h else .bad
 |_,_=>.bad
def BC(x y:PV)(h:MH):TD:=match rd 60 h x,rd 60 h y with
 |some a,J b=>if SeqAt.shaped a=I/\SeqAt.shaped b=I then .ok (.bl (!PyData.eqv a b)) h else .bad
 |_,_=>.bad
def Fp(F:Room k X.A):zL X (compareOp .Eq) AW:=by
 intro S s Z H L E u v Q f l j ⟨U,h,x,y,i,C,R,q⟩;unfold AW at q
 split at q
 .rename_i a b B O
  split at q
  .rename_i z
   obtain⟨_,M⟩:=fP f i 60 x L u a C l B;obtain⟨_,P⟩:=fP f i 60 y E v b R j O;exact eq_dataH M P z.1 z.2 F.units ⟨.bl _,H,f,rfl,q U H _ (Le.refl _ _) i (.bl _)⟩
  .exact q.elim
 .exact q.elim
def Fq(F:Room k X.A):zL X (compareOp .NotEq) BC:=by
 intro S s Z H L E u v Q f l j ⟨U,h,x,y,i,C,R,q⟩;unfold BC at q
 split at q
 .rename_i a b B O
  split at q
  .rename_i z
   obtain⟨_,M⟩:=fP f i 60 x L u a C l B;obtain⟨_,P⟩:=fP f i 60 y E v b R j O;exact ne_dataH M P z.1 z.2 F.units ⟨.bl _,H,f,rfl,q U H _ (Le.refl _ _) i (.bl _)⟩
  .exact q.elim
 .exact q.elim
def nZ(f:Int->Int->PV):PV->PV->MH->TD:=λx y h=>match x,y with
 |.int i,.int j=>.ok (f i j) h
 |_,_=>.bad
def pG(M:OpR X F (Db f))(B:∀U H i j,RP X.K U H (g i j) (f i j)):zL X F (nZ g):=by
 intro L s Z H R P u v Q a z l ⟨U,h,x,y,E,C,O,q⟩;unfold nZ at q
 split at q
 .cases C;cases O;exact M L s Z H _ _ u v Q a z l ⟨_,_,rfl,rfl,q U H _ (Le.refl _ _) E (B U H _ _)⟩
 .exact q.elim
def Ct:=nZ λi j=>.bl (decide (i<j))
def Hk:=nZ λi j=>.bl (decide (i<=j))
def Cu:=nZ λi j=>.bl (decide (j<i))
def Cv:=nZ λi j=>.bl (decide (j<=i))
def Fs:zL X (compareOp .Lt) Ct:=pG K7 λ_ _ _ _=>.bl _
def Lx:zL X (compareOp .LtE) Hk:=pG K8 λ_ _ _ _=>.bl _
def Ft:zL X (compareOp .Gt) Cu:=pG K9 λ_ _ _ _=>.bl _
def Ly:zL X (compareOp .GtE) Cv:=pG K_ λ_ _ _ _=>.bl _
def LA(a:Bool):PV->PV->MH->TD:=λx y h=>match y with
 |.non=>(match x with
  |.non=>.ok (.bl (!a)) h
  |_=>.ok (.bl a) h)
 |.bl b=>(match x with
  |.bl c=>.ok (.bl (if a then !(c==b)else c==b)) h
  |.non=>.ok (.bl a) h
  |.int _=>.ok (.bl a) h
  |.str _=>.ok (.bl a) h
  |.tup _=>.ok (.bl a) h
  |_=>.bad)
 |_=>.bad
def j3(x y:PV)(h:MH):TD:=match x,y with
 |.int i,.int j=>if IntMulOk i j then .ok (.int (i*j)) h else .bad
 |.loc n,.int j=>(match h[n]? with
  |some (.lst xs)=>if -(2^63)<=j/\j<2^63 then se (List.flatten (List.replicate j.toNat xs)) h else .bad
  |_=>.bad)
 |_,_=>.bad
def BU(x y:PV)(h:MH):TD:=match x,y with
 |.int i,.int j=>if j≠0 then .ok (.int (i.fdiv j)) h else .bad
 |_,_=>.bad
def mn(x y:PV)(h:MH):TD:=match x,y with
 |.int i,.int j=>if j≠0 then .ok (.int (i.fmod j)) h else .bad
 |_,_=>.bad
def sw(x y:PV)(h:MH):TD:=match x,y with
 |.int i,.int j=>if iG i j then .ok (.int (i^j.toNat)) h else .bad
 |_,_=>.bad
def jj(x y:PV)(h:MH):TD:=match x,y with
 |.int i,.int j=>.ok (.int (i+j)) h
 |.str a,.str b=>if a.length+b.length<=sizeLine then .ok (.str (a++b)) h else .bad
 |.loc n,.loc m=>(match h[n]?,h[m]? with
  |some (.lst xs),J (.lst ys)=>se (xs++ys) h
  |_,_=>.bad)
 |.tup xs,.tup ys=>if xs≠[]then lw (xs++ys) h else .bad
 |_,_=>.bad
def Cw:=nZ λi j=>.int (i-j)
def Cy(x:PV)(h:MH):TD:=match x with
 |.int i=>.ok (.int (-i)) h
 |_=>.bad
def Hl:zL X (binaryOp .Sub) Cw:=pG GH λ_ _ _ _=>.int _
def Hm:RN X (unaryOp .USub) Cy:=by
 intro j s Z H z u Q a f ⟨U,h,x,y,l,q⟩
 cases l with
 |int i=>exact GK j s Z H _ u Q a f ⟨i,rfl,q U H _ (Le.refl _ _) y (.int _)⟩
 |_=>exact q.elim
def S0{f:TX}{Z:L2.St}{H:Hp}{s:Shared}(y:Room k X.A)(a:Inv X f Z H s):PylongRoom (model X.prog X.w) X.A s:=by obtain⟨e,l,j,u,z,i,B⟩:=a.ok.top;exact PylongRoom.of a.nolimit (by have:=y.dp;show X.A.depth+100<_;ext) (SeerAt.of (a.ok.mod.seer.keeps a.bk) a.ok.tree (a.ok.frames.trans (congrArg J j)) u z i B)
def wE(E:Room k X.A):zL X (binaryOp .FloorDiv) BU:=by
 intro O s Z H M L u v Q a l f ⟨U,h,x,y,C,B,F,q⟩;unfold BU at q
 split at q
 .rename_i i j
  cases B;cases F;obtain⟨t,rfl⟩:=l;obtain⟨P,rfl⟩:=f;by_cases z:j≠0
  .rw[b_ z]at q;exact floordiv_int z ⟨.int _,H,a.tok _,⟨_,rfl⟩,q U H _ (Le.refl _ _) C (.int _)⟩ (.inr (S0 E a))
  .rw[e_ z]at q;exact q.elim
 .exact q.elim
def dG:zL X (binaryOp .Mod) mn:=by
 intro M s Z H L F u v Q a l f ⟨U,h,x,y,C,B,E,q⟩;unfold mn at q
 split at q
 .rename_i i j
  cases B;cases E
  split at q
  .rename_i z
   obtain⟨t,rfl⟩:=l;obtain⟨O,rfl⟩:=f;exact mod_int' z ⟨.int _,H,a.tok _,⟨_,rfl⟩,q U H _ (Le.refl _ _) C (.int _)⟩
  .exact q.elim
 .exact q.elim
def zu:zL X (binaryOp .Pow) sw:=by
 intro E s Z H M L u v Q a l f ⟨U,h,x,y,C,B,F,q⟩;unfold sw at q
 split at q
 .rename_i i j
  cases B;cases F
  split at q
  .rename_i z
   exact GJ E s Z H _ _ u v Q a l f ⟨i,j,rfl,rfl,z,q U H _ (Le.refl _ _) C (.int _)⟩
  .exact q.elim
 .exact q.elim
def cQ:zL X (binaryOp .Add) jj:=by
 intro M s Z H x' y' u v Q f B l ⟨U,h,x,y,C,rx,F,q⟩
 cases rx with
 |int i =>
  cases F with
  |int j=>exact GG M s Z H _ _ u v Q f B l ⟨i,j,rfl,rfl,q U H _ (Le.refl _ _) C (.int _)⟩
  |_=>exact q.elim
 |str a =>
  cases F with
  |str b =>
   dsimp only[jj]at q
   split at q
   .rename_i hl
    exact wp M s Z H _ _ u v Q f B l ⟨a,b,rfl,rfl,hl,q U H _ (Le.refl _ _) C (.str _)⟩
   .exact q.elim
  |_=>exact q.elim
 |@loc n a e =>
  cases F with
  |@loc m b e2 =>
   dsimp only[jj]at q;obtain⟨o1,h1,E⟩:=C.obj e;obtain⟨o2,h2,L⟩:=C.obj e2;rw[h1,h2]at q
   cases o1 with
   |dic fz ks xs=>exact q.elim
   |exc x=>exact q.elim
   |lst xs =>
    cases o2 with
    |dic fz ks xs=>exact q.elim
    |exc x=>exact q.elim
    |lst ys =>
     obtain⟨O,ex,P⟩:=E;obtain⟨R,ey,S⟩:=L;obtain⟨z1,z2⟩:=m9 C (P.append S) q;exact GX M s Z H _ _ u v Q f B l ⟨a,b,O,R,rfl,rfl,ex,ey,by rw[<-BP];exact z1,z2⟩
  |_=>exact q.elim
 |tup s1 E =>
  cases F with
  |tup s2 L =>
   dsimp only[jj]at q
   split at q
   .rename_i ai
    obtain⟨z1,z2⟩:=we C (E.append L) q;refine Dk M s Z H _ _ u v Q f B l ⟨_,_,_,_,rfl,rfl,s1,s2,?_,by rw[<-BP];exact z1,λz=>?_,λ_=>z2⟩
    .rintro rfl;cases E;exact ai rfl
    .subst z;cases L;unfold lw at q
     split at q
     .exact q U H _ (Le.refl _ _) C (by rw[JZ];exact .tup s1 E)
     .exact q.elim
   .exact q.elim
  |_=>exact q.elim
 |_=>cases F<;>exact q.elim
def RPs.rep{K:hH}{U:TV}{H:Hp}{xs:TL}{ys:List V}(r:RPs K U H xs ys):∀n:Nat,RPs K U H (List.replicate n xs).flatten (List.replicate n ys).flatten
 |0=>.nil
 |n+1=>by rw[B7,B7,Fe,Fe];exact r.append (RPs.rep r n)
def gn:zL X (binaryOp .Mult) j3:=by
 intro Lz s Z H x' y' u v Q f z l ⟨U,h,x,y,B,O,F,q⟩
 cases O with
 |int i =>
  cases F with
  |int j =>
   dsimp only[j3]at q
   split at q
   .rename_i M
    obtain⟨t,rfl⟩:=z;obtain⟨t',rfl⟩:=l;exact PyProof.Rows.mul_int ⟨.int _,H,f.tok _,⟨_,rfl⟩,q U H _ (Le.refl _ _) B (.int _)⟩ M
   .exact q.elim
  |_=>exact q.elim
 |@loc n a e =>
  cases F with
  |int j =>
   dsimp only[j3]at q;obtain⟨S,R,P⟩:=B.obj e;rw[R]at q
   cases S with
   |dic fz ks xs=>exact q.elim
   |exc x=>exact q.elim
   |lst xs =>
    dsimp only at q
    split at q
    .rename_i L
     obtain⟨C,ex,E⟩:=P;obtain⟨z1,z2⟩:=m9 B (E.rep j.toNat) q;refine GY Lz s Z H _ _ u v Q f z l ⟨a,j,C,rfl,rfl,ex,L.1,L.2,?_,z2⟩;rw[wd]at z1;rw[Nat.mul_comm];exact z1
    .exact q.elim
  |_=>exact q.elim
 |_=>cases F<;>exact q.elim
def oS{f:TX}{Z:L2.St}{H:Hp}{s:Shared}{Q:VK}{x':V}{u:Value}{b c:Bool}(a:Inv X f Z H s)(r:aJ x' u)(j:plainIs u (.bool b)=I)(i:(u == .bool b)=c)(q:Q (.bl c) H):
  wpAny (model X.prog X.w) X.A (compareOp .Is u (.bool b)) (EP X f Z Q) X.xe s:=by
 show wpAny _ _ (do return Value.bool (<-isSame u (.bool b))) _ _ _;exact g_ (wpAny_isSame_plain j (j_ (by rw[i];exact⟨.bl c,H,a,rfl,q⟩)))
def LC:zL X (compareOp .Is) (LA T):=by
 intro B s Z H L F u v Q a f l ⟨U,h,x,y,j,z,C,q⟩
 cases C with
 |non =>
  refine GN B s Z H _ _ u v Q a f l ⟨rfl,?_⟩;cases z<;>exact q U H _ (Le.refl _ _) j (by first | exact .bl I | exact .bl T)
 |bl b =>
  cases l
  cases z with
  |non=>cases f;exact oS (x':=.non) (c:=T) a rfl (by cases b<;>rfl) (by cases b<;>rfl) (q U H _ (Le.refl _ _) j (.bl T))
  |bl c=>cases f;exact oS (x':=.bl c) (c:=c==b) a rfl (by cases b<;>cases c<;>rfl) (by cases b<;>cases c<;>rfl) (q U H _ (Le.refl _ _) j (.bl _))
  |int i=>obtain⟨t,rfl⟩:=f;exact oS (x':=.int i) (c:=T) a ⟨_,rfl⟩ (by cases b<;>rfl) (by cases b<;>rfl) (q U H _ (Le.refl _ _) j (.bl T))
  |str i=>obtain⟨t,rfl⟩:=f;exact oS (x':=.str i) (c:=T) a ⟨_,rfl⟩ (by cases b<;>rfl) (by cases b<;>rfl) (q U H _ (Le.refl _ _) j (.bl T))
  |tup M E=>cases f;exact oS (x':=.ref _) (c:=T) a rfl (by cases b<;>rfl) (by cases b<;>rfl) (q U H _ (Le.refl _ _) j (.bl T))
  |_=>exact q.elim
 |_=>exact q.elim
def ba(x y:PV)(h:MH):TD:=match y with
 |.int i=>(match x with
  |.loc n=>(match h[n]? with
   |some (.lst xs)=>(match ng xs i with
    |some v=>.ok v h
    |none=>.bad)
   |_=>.bad)
  |.tup xs=>(match ng xs i with
   |some v=>.ok v h
   |none=>.bad)
  |.frl xs=>(match ng xs i with
   |some v=>.ok v h
   |none=>.bad)
  |.str z=>(match ng z.cps.toList i with
   |some c=>if z.length<=sizeLine then .ok (.str ⟨#[c]⟩) h else .bad
   |none=>.bad)
  |_=>.bad)
 |_=>.bad
def qe{K:hH}{U:TV}{H:Hp}{xs:TL}{ys:List V}{i:Int}{v:PV}(r:RPs K U H xs ys)(e:ng xs i=J v):∃a,ng ys i=J a/\RP K U H v a:=by
 unfold ng at e ⊢;rw[<-r.length]
 cases q:wC xs.length i with
 |none=>rw[q]at e;cases e
 |some j =>
  rw[q]at e;exact r.get e
def Fv{a b:Expr}{ma mb:Mx PV}{R:Pos}(ha:ME X a ma)(hb:ME X b mb)(hs:jB b):ME X (.Subscript a b R) (az ba ma mb):=by
 refine PE.imp (Lg GV ha hb hs) λZ H Q q=>?_;obtain⟨U,C,h,rs,rh,q⟩:=q;refine⟨U,C,h,rs,rh,Ful.bind q λU1 H1 x x' h1 _ l1 S rx q1=>⟨U1,C,h1,rs.le l1,S,Ful.bind q1 λM L y y' h2 _ l2 l ry f=>?_⟩⟩;have P:=rx.le l2
 cases ry with
 |int i =>
  cases P with
  |@loc n a e =>
   obtain⟨ob,eo,O⟩:=l.obj e;dsimp only[ba]at f;rw[eo]at f
   cases ob with
   |dic fz ks xs=>exact f.elim
   |exc x=>exact f.elim
   |lst xs =>
    obtain⟨ys,ey,F⟩:=O;dsimp only at f
    cases j:ng xs i with
    |none=>rw[j]at f;exact f.elim
    |some v =>
     rw[j]at f;obtain⟨B,E,u⟩:=qe F j;exact .inl ⟨a,ys,i,B,rfl,rfl,SqL.of ey,E,f M L _ (Le.refl _ _) l u⟩
  |@tup xs a ys s1 F =>
   dsimp only[ba]at f
   cases j:ng xs i with
   |none=>rw[j]at f;exact f.elim
   |some v =>
    rw[j]at f;obtain⟨B,E,u⟩:=qe F j;exact .inr (.inl ⟨_,_,i,B,rfl,rfl,s1,E,f M L _ (Le.refl _ _) l u⟩)
  |@frl xs a ys s1 F =>
   dsimp only[ba]at f
   cases j:ng xs i with
   |none=>rw[j]at f;exact f.elim
   |some v =>
    rw[j]at f;obtain⟨B,E,u⟩:=qe F j;exact .inl ⟨_,_,i,B,rfl,rfl,s1.sq,E,f M L _ (Le.refl _ _) l u⟩
  |str z =>
   dsimp only[ba]at f
   cases j:ng z.cps.toList i with
   |none=>rw[j]at f;exact f.elim
   |some c =>
    rw[j]at f;dsimp only at f
    split at f
    .rename_i hz
     exact .inr (.inr ⟨z,i,c,rfl,rfl,hz,j,f M L _ (Le.refl _ _) l (.str _)⟩)
    .exact f.elim
  |_=>exact f.elim
 |_=>exact f.elim
def qr(f:TL->MH->TD)(m:Mx (TL)):Mx PV:=λZ h=>(m Z h).bind λxs a=>(f xs a).ne
section
variable{x:Str}{id T:String}{e:Expr}{es:TC}{f:TL->MH->TD}{m:Mx (TL)}{p pos:Pos}
def Fw{Z:L2.St}{H:Hp}{Q:VK}(q:tM X (RV' X) (qr f m) Z H Q):PQ (cJ X f) (tM X (RVs' X) m) Z H Q:=by obtain⟨U,a,h,rs,l,q⟩:=q;exact⟨U,a,h,rs,l,Ful.bind q λy C x E u _ B i j z=>⟨y,u,x,i,j,z.zero⟩⟩
def sT(g:Good X N W G k)(j:Nat)(i:G[j]?=J x)(u:cz X (.builtin id) f)(y:X.mg x=Y)(hv:bootBuiltins x=J (.builtin id))(l:MA X (e::es) m)(z:starEach (e::es) X.env=(false,eval e X.env)::starEach es X.env:=by rfl)(a:(backTo pos (starEach es X.env)).any (·.1)=false:=by rfl):ME X (.Call (.Name x p) (e::es) [] pos) (qr f m) :=
 have d:=g.dbg x (u_ _ (aM i))
 PE.imp (n8 u (g.gl x (aM i)) y hv l d.2.2 d.1 z a) λ_ _ _ q=>Fw q
def qY(g:Good X N W G k)(j:Nat)(i:G[j]?=J x)(u:cz X (.type T) f)(y:X.mg x=Y)(hv:bootBuiltins x=J (.type T))(l:MA X (e::es) m)(z:starEach (e::es) X.env=(false,eval e X.env)::starEach es X.env:=by rfl)(a:(backTo pos (starEach es X.env)).any (·.1)=false:=by rfl):ME X (.Call (.Name x p) (e::es) [] pos) (qr f m) :=
 have d:=g.dbg x (u_ _ (aM i))
 PE.imp (rn u (g.gl x (aM i)) y hv l d.2.2 d.1 z a) λ_ _ _ q=>Fw q
end
def A4(xs:TL)(h:MH):TD:=match xs with
 |[.int i]=>.ok (.int (if i<0 then -i else i)) h
 |_=>.bad
def zT(xs:TL)(h:MH):TD:=match xs with
 |[.int i,.int j]=>.ok (.int (if j<i then j else i)) h
 |_=>.bad
def BD(xs:TL)(h:MH):TD:=match xs with
 |[.int i,.int j]=>.ok (.int (if j>i then j else i)) h
 |_=>.bad
def Ds(xs:TL)(h:MH):TD:=match xs with
 |[.int i]=>.ok (.int i) h
 |[.bl b]=>.ok (.int (if b then 1 else 0)) h
 |_=>.bad
def qp(xs:TL)(h:MH):TD:=match xs with
 |[.loc n]=>(match h[n]? with
  |some (.lst ys)=>.ok (.int ys.length) h
  |_=>.bad)
 |[.tup ys]=>.ok (.int ys.length) h
 |[.frl ys]=>.ok (.int ys.length) h
 |[.str z]=>if z.length<=sizeLine then .ok (.int z.length) h else .bad
 |_=>.bad
def tR:cz X (.builtin "abs") A4:=by
 intro u s Z H xs l Q a r ⟨U,h,z,j,rp,q⟩
 cases rp with
 |nil=>exact q.elim
 |cons f y =>
  cases y with
  |cons _ _=>cases f<;>exact q.elim
  |nil =>
   cases f with
   |int i=>exact Bf u s Z H _ l Q a r ⟨i,rfl,q U H _ (Le.refl _ _) j (.int _)⟩
   |_=>exact q.elim
def ul{f:TL->MH->TD}{F:Int->Int->Int}{r:List V->Hp->VK->Prop}{u:Value}(hf:∀i j h,f [.int i,.int j] h=.ok (.int (F i j)) h)(E:∀xs h,(∀i j,xs≠[.int i,.int j])->f xs h=.bad)(y:cG X u (λxs H Q=>∃i j,xs=[.int i,.int j]/\Q (.int (F i j)) H)):cz X u f:=by
 intro O s Z H xs L Q a r ⟨U,h,l,C,rp,q⟩;by_cases z:∃i j,l=[.int i,.int j]
 .obtain⟨i,j,rfl⟩:=z
  cases rp with
  |cons B P=>cases P with
   |cons M R =>
    cases R;cases B;cases M;rw[hf]at q;exact y O s Z H _ L Q a r ⟨i,j,rfl,q U H _ (Le.refl _ _) C (.int _)⟩
 .rw[E l h λi j e=>z ⟨i,j,e⟩]at q;exact q.elim
def sU(g:Good X N W G k):cz X (.builtin "min") zT:=ul (r:=λ_ _ _=>True) (F:=λi j=>if j<i then j else i) (λ_ _ _=>rfl) (λxs h z=>by unfold zT;split<;>first | rfl | exact absurd rfl (z _ _)) (zr g.calm)
def xY(g:Good X N W G k):cz X (.builtin "max") BD:=ul (r:=λ_ _ _=>True) (F:=λi j=>if j>i then j else i) (λ_ _ _=>rfl) (λxs h z=>by unfold BD;split<;>first | rfl | exact absurd rfl (z _ _)) (yk g.calm)
def Hn:cz X (.type "int") Ds:=by
 intro u s Z H xs l Q a r ⟨U,h,z,j,rp,q⟩
 cases rp with
 |nil=>exact q.elim
 |cons f y =>
  cases y with
  |cons _ _=>cases f<;>exact q.elim
  |nil =>
   cases f with
   |int i=>exact qz u s Z H _ l Q a r (.inl ⟨i,rfl,q U H _ (Le.refl _ _) j (.int _)⟩)
   |bl b=>exact qz u s Z H _ l Q a r (.inr ⟨b,rfl,q U H _ (Le.refl _ _) j (.int _)⟩)
   |_=>exact q.elim
def lb:cz X (.builtin "len") qp:=by
 intro u s Z H xs l Q f r ⟨U,h,R,i,rp,q⟩
 cases rp with
 |nil=>exact q.elim
 |cons C O =>
  cases O with
  |cons _ _=>cases C<;>exact q.elim
  |nil =>
   cases C with
   |@loc n a e =>
    obtain⟨M,E,y⟩:=i.obj e;dsimp only[qp]at q;rw[E]at q
    cases M with
    |dic fz P xs=>exact q.elim
    |exc x=>exact q.elim
    |lst xs =>
     obtain⟨ys,L,j⟩:=y;exact jP u s Z H _ l Q f r ⟨_,_,rfl,.inl ⟨ys,SqL.of L,rfl⟩,by rw[<-j.length];exact q U H _ (Le.refl _ _) i (.int _)⟩
   |tup B j=>exact jP u s Z H _ l Q f r ⟨_,_,rfl,.inr ⟨_,B,rfl⟩,by rw[<-j.length];exact q U H _ (Le.refl _ _) i (.int _)⟩
   |frl B j=>exact jP u s Z H _ l Q f r ⟨_,_,rfl,.inl ⟨_,B.sq,rfl⟩,by rw[<-j.length];exact q U H _ (Le.refl _ _) i (.int _)⟩
   |str z =>
    dsimp only[qp]at q
    split at q
    .rename_i F
     exact jP u s Z H _ l Q f r ⟨_,_,rfl,⟨F,rfl⟩,q U H _ (Le.refl _ _) i (.int _)⟩
    .exact q.elim
   |_=>exact q.elim
def Dt(h:MH):PV->Option String
 |.non=>J "NoneType"
 |.bl _=>J "bool"
 |.int _=>J "int"
 |.str _=>J "str"
 |.tup _=>J "tuple"
 |.frl _=>J "list"
 |.loc n=>match h[n]? with
  |some (.lst _)=>J "list"
  |some (.dic _ _ _)=>J "dict"
  |_=>Y
def cW(t:String)(a:String):Bool:=t==a||(t == "bool" && a == "int")
def k6(a:List String)(x:PV)(h:MH):TD:=match Dt h x with
 |some t=>.ok (.bl (a.any (cW t))) h
 |none=>.bad
def Du(a:String):Prop:=∀K:hH,∀t∈["NoneType","bool","int","str","tuple","list","dict"],PySem.W.kitOne K (.type t) (.type a)=J (cW t a)
def oP(j:∀K,PySem.W.kitOne K (.type "NoneType") (.type b)=J (cW "NoneType" b))(l:∀K,PySem.W.kitOne K (.type "bool") (.type b)=J (cW "bool" b))(u:∀K,PySem.W.kitOne K (.type "int") (.type b)=J (cW "int" b))(i:∀K,PySem.W.kitOne K (.type "str") (.type b)=J (cW "str" b))(y:∀K,PySem.W.kitOne K (.type "tuple") (.type b)=J (cW "tuple" b))(z:∀K,PySem.W.kitOne K (.type "list") (.type b)=J (cW "list" b))(f:∀K,PySem.W.kitOne K (.type "dict") (.type b)=J (cW "dict" b)):Du b:=by
 intro K t a;simp only[mx,CJ,or_false]at a;rcases a with rfl|rfl|rfl|rfl|rfl|rfl|rfl
 .exact j K
 .exact l K
 .exact u K
 .exact i K
 .exact y K
 .exact z K
 .exact f K
def Dv:Du "int":=oP (λ_=>rfl) (λ_=>rfl) (λ_=>rfl) (λ_=>rfl) (λ_=>rfl) (λ_=>rfl) (λ_=>rfl)
def Bk:Du "bool":=oP (λ_=>rfl) (λ_=>rfl) (λ_=>rfl) (λ_=>rfl) (λ_=>rfl) (λ_=>rfl) (λ_=>rfl)
def Ah:Du "list":=oP (λ_=>rfl) (λ_=>rfl) (λ_=>rfl) (λ_=>rfl) (λ_=>rfl) (λ_=>rfl) (λ_=>rfl)
def zc:Du "tuple":=oP (λ_=>rfl) (λ_=>rfl) (λ_=>rfl) (λ_=>rfl) (λ_=>rfl) (λ_=>rfl) (λ_=>rfl)
def vH{S:TX}{Z:L2.St}{H:Hp}{s:Shared}{U:TV}{h:MH}{x:PV}{F:V}{u:Value}{t:String}(f:Inv X S Z H s)(Q:RH X.K X.mg U H h)(P:RP X.K U H x F)(j:aJ F u)(e:Dt h x=J t):
  t∈["NoneType","bool","int","str","tuple","list","dict"]/\u≠.builtin "__main__.__loader__#opaque"/\∃L,PySem.W.KitX X.K u (.type t) L/\L s.heap:=by
 cases P with
 |non=>cases e;cases j;exact⟨by simp,(λz=>nomatch z),_,PySem.W.kitx_none,trivial⟩
 |bl b=>cases e;cases j;exact⟨by simp,(λz=>nomatch z),_,PySem.W.kitx_bool,trivial⟩
 |int i=>cases e;obtain⟨t,rfl⟩:=j;exact⟨by simp,(λz=>nomatch z),_,PySem.W.kitx_int,trivial⟩
 |str i=>cases e;obtain⟨t,rfl⟩:=j;exact⟨by simp,(λz=>nomatch z),_,PySem.W.kitx_str,trivial⟩
 |tup C M =>
  cases e;cases j;obtain⟨y,E,⟨o,e1,e2,_⟩,_⟩:=f.tuple C;exact⟨by simp,(λz=>nomatch z),_,PySem.W.kitx_tuple,⟨o,e1,e2⟩⟩
 |frl C M =>
  cases e;cases j;obtain⟨y,E,⟨o,m,e1,e2,_,e3⟩,_⟩:=f.list C.sq;exact⟨by simp,(λz=>nomatch z),_,PySem.W.kitx_list,⟨o,e1,e2⟩⟩
 |@loc n a en =>
  obtain⟨ob,O,l⟩:=Q.obj en;dsimp only[Dt]at e;rw[O]at e;cases j
  cases ob with
  |lst xs =>
   cases e;obtain⟨ys,B,_⟩:=l;obtain⟨y,E,⟨o,m,e1,e2,_,e3⟩,_⟩:=f.list (SqL.of (K:=X.K) B);exact⟨by simp,(λz=>nomatch z),_,PySem.W.kitx_list,⟨o,e1,e2⟩⟩
  |dic fz ks xs =>
   cases e;obtain⟨zs,_,_,B⟩:=l;obtain⟨_,_,vs,_,p⟩:=mq f.hok B;obtain⟨o,es,ep,R,h2,_⟩:=p;exact⟨by simp,(λz=>nomatch z),_,PySem.W.kitx_dict,⟨o,R,h2.1⟩⟩
  |exc x=>cases e
def Ho(g:Good X N W G k){a:Expr}{m:Mx PV}{f:String}{c:Str}{i j:Nat}{p q B:Pos}(S:G[i]?=J "isinstance")(hm:X.mg "isinstance"=Y)(hj:G[j]?=J c)(hc:X.mg c=Y)(hv:bootBuiltins c=J (.type f))(hT:Du f)(ha:ME X a m)(he:starEach [a,.Name c q] X.env=(T,eval a X.env)::starEach [.Name c q] X.env:=by rfl)(E:starEach [.Name c q] X.env=[(T,eval (.Name c q) X.env)]:=by rfl)(L:(backTo B (starEach [.Name c q] X.env)).any (·.1)=T:=by rfl):
  ME X (.Call (.Name "isinstance" p) [a,.Name c q] [] B) (Lp (k6 [f]) m):=by
 have d1:=g.dbg _ (u_ _ (aM S));have d:=g.dbg c (u_ _ (aM hj));have y:cG X (.builtin "isinstance") (λxs H Q=>∃z,xs=[z,.ty f]/\uJ X (k6 [f]) z H Q):=by
  intro Lz s Z H xs us Q l r ⟨z,e,U,h,x,C,F,q⟩;subst e
  cases r with
  |cons r1 t1=>cases t1 with
   |cons r2 t2 =>
    cases t2;obtain rfl:=(show _=Value.type f from r2);unfold k6 at q
    cases O:Dt h x with
    |none=>rw[O]at q;exact q.elim
    |some t =>
     rw[O]at q;obtain⟨ht,R,Hq,Za,hz⟩:=vH l C F r1 O
     exact PySem.W.kia_one Za l.kIn hz (hT X.K t ht) R λtk=>⟨.bl _,H,l.tok _,rfl,by
      have q':=q U H _ (Le.refl _ _) C (.bl _)
      simpa using q'⟩
 refine PE.imp (n8 y (g.gl _ (aM S)) hm PyProof.Rows.Boot.«isinstance» (eO ha (eO (pW (v:=.ty f) (u:=.type f) (g.gl c (aM hj)) hc hv rfl d.2.2 d.1) ld E) he) d1.2.2 d1.1 he L) λZ H Q ⟨U,M,h,rs,C,q⟩=>?_;exact⟨U,M,h,rs,C,Ful.bind q λU1 H1 x z h1 _ l1 P F q1=>⟨z,rfl,U1,h1,x,P,F,q1.zero⟩⟩
def Hr(K:hH)(mg:Cs)(F:TL->MH->TD):Sp:=λu H Q E=>∃U l h,RPs K U H l u/\RH K mg U H h/\match F l h with
 |.ok v i=>∀f a j,Le U H f a->RH K mg f a i->RP K f a v j->Q j a
 |.exc x i=>∀C f a,x.fs=[]->mg x.cls=J (.ref C)->Le U H f a->RH K mg f a i->E (.ref C) Y a
 |.bad=>False
def J1(P:Program)(w:World):Ci:=λouter H s E e a=>∃i C f,e=.ref i/\a.os=s.os/\AllBare a.gens/\Un (zK outer) [] H f s.heap a.heap/\HOk P w f a.heap/\P2 outer f s.heap C i a.heap/\E (.ref C) Y f
structure Cal(X:Cx)(x:Str)(ps:TM)(F:TL->MH->TD)(k:Nat):Prop where
 ex:∃f fd,X.mg x=J (.ref f)/\PySem.W.keepIn X.K (.ref f)=I/\o9 X.K fd ps []/\FnOk X.prog X.w X.K X.mg X.base (J1 X.prog X.w) k f fd ps (Hr X.K X.mg F)
def Cal.to(c:Cal X x ps F i)(e1:g.prog=X.prog)(e2:g.w=X.w)(e3:g.K=X.K)(e4:g.mg=X.mg)(e5:g.base=X.base):Cal g x ps F i:=by obtain⟨f,fd,a,b,d,e⟩:=c.ex;refine⟨f,fd,by rw[e4];exact a,by rw[e3];exact b,by rw[e3];exact d,?_⟩;rw[e1,e2,e3,e4,e5];exact e
def eX(F:TL->MH->TD)(m:Mx (TL)):Mx PV:=λZ h=>(m Z h).bind F
def vC(g:Good X N W G k){x:Str}{j:Nat}(hj:G[j]?=J x){ps:TM}{F:TL->MH->TD}(C:Cal X x ps F k){e:Expr}{es:TC}{m:Mx (TL)}{p S:Pos}(ha:MA X (e::es) m)(he:starEach (e::es) X.env=(T,eval e X.env)::starEach es X.env:=by rfl)(ap:(backTo S (starEach es X.env)).any (·.1)=T:=by rfl):ME X (.Call (.Name x p) (e::es) [] S) (eX F m):=by
 obtain⟨f,fd,hm,hk,hb,F'⟩:=C.ex;have d:=g.dbg x (u_ _ (aM hj));intro Lz s Z H Q R ⟨U,al,h,rs,rh,q⟩;refine wpAny_Call_Name_kw (v6 R (g.gl x (aM hj)) hm ?_ d.1)
 refine PySem.W.callWith_K (h₀:=X.base) R.ok.mod.kin hk (kx (ha S Lz s Z H (λvs B=>∃y xs M,Le U H y B/\RH X.K X.mg y B M/\RPs X.K y B xs vs/\Ful X (RV' X) al y B (F xs M) Q) R
  ⟨U,al,h,rs,rh,Ful.bind q λy B xs vs M _ l1 L rx O=>⟨y,xs,M,l1,L,rx,O⟩⟩) λus P ⟨vs,B,I1,r,y,xs,M,l1,L,rx,O⟩=>⟨I1.kIn,?_⟩) he ap
 have run:∀E:XK,Hr X.K X.mg F vs B Q E->(∀ea C i l,l.os=P.os->AllBare l.gens->Un (zK X.stack) [] B i P.heap l.heap->HOk X.prog X.w i l.heap->P2 X.stack i P.heap C ea l.heap->E (.ref C) Y i->X.xe (.ref ea) l) ->
   wpAny (model X.prog X.w) X.A (call (.ref f) us) (EP X Lz Z Q) X.xe P:=λE an hE=>by
  have hl:(us++[]).length=ps.length:=by rw[JZ,<-r.length];exact F'.len _ _ _ _ an
  have ai:=hb P us I1.kIn hl;rw[JZ]at ai;refine wpAny_call (codeAny_mono (F'.run X.A X.stack P B ⟨us,[]⟩ us vs Q E g.room I1.env0 ai r an) λr l hq=>?_)
  cases r with
  |error e =>
   obtain⟨ea,C,i,rfl,a1,a2,a3,a4,a5,a6⟩:=hq;exact hE ea C i l a1 a2 a3 a4 a5 a6
  |ok fl =>
   cases fl with
   |ret u=>exact I1.after hq
   |next=>exact False.elim hq
   |brk=>exact False.elim hq
   |cont=>exact False.elim hq
 cases eF:F xs M with
 |bad=>rw[eF]at O;exact O.elim
 |ok v h' =>
  rw[eF]at O;exact run (λ_ _ _=>False) ⟨y,xs,M,rx,L,by rw[eF];exact O⟩ λ_ _ _ _ _ _ _ _ _ z=>z.elim
 |exc x' h' =>
  rw[eF]at O;refine run (λc _ i=>∃C U',c=.ref C/\x'.fs=[]/\X.mg x'.cls=J (.ref C)/\Le y B U' i/\RH X.K X.mg U' i h') ⟨y,xs,M,rx,L,by rw[eF];exact λC U' i a b c d=>⟨C,U',rfl,a,b,c,d⟩⟩ λea C i l a1 a2 a3 a4 a5 a6=>?_;obtain⟨C',U',eC,b1,b2,b3,b4⟩:=a6;cases eC;have IX:=I1.call' (s':=l) (ch:=[]) a1 a3 a4 a2 (λb z=>absurd z (by simp));have ar:Inv X [] Z i l:=Inv.unpinned (Lz:=[]) (pl:=Lz) IX;exact O ea C U' i Z l P.heap b1 b2 b3 b4 (rs.le (l1.trans b3)) ar (Inv.bears I1) a5
def bq(n:Nat)(a:TL):n4:=a.map J++List.replicate (n-a.length) Y
def cB(n np:Nat)(m:nw):TL->MH->TD:=λf h=>if f.length=np then (match m (bq n f) h with
 |.nx _ a=>.ok .non a
 |.rt v a=>.ok v a
 |.exc x _ a=>.exc x a
 |.rse x _ a=>.exc x a
 |_=>.bad)else .bad
def A5{K:hH}{U:TV}{H:Hp}{N:TM}{a:TL}{j:List V}(r:RPs K U H a j):RS K U H (bq N.length a) (L2.start N j):=by
 have z:=r.length;refine⟨by simp[bq,L2.start,z],λi v e=>?_⟩;unfold bq at e;by_cases f:i<a.length
 .rw[qi (by simpa using f),qo]at e
  cases q:a[i]? with
  |none=>rw[q]at e;cases e
  |some x =>
   rw[q]at e;cases e;obtain⟨u,y,l⟩:=r.get q;refine⟨u,?_,l⟩;unfold L2.start;rw[qi (by simp;lia),qo,y];rfl
 .rw[Br (by simpa using f),F2]at e
  split at e<;>cases e
def AK{B h:Heap}(k:B.StaysIn h){b:Addr}{o a:Obj}(e1:B.get? b=J a)(e2:h.get? b=J o):a=o:=by
 have:=k b a e1
 rw[e2]at this;exact(Option.some.inj this).symm
def wg{X:Cx}{Z':L2.St}{M:Hp}{O:Shared}{y B:Heap}(f:Inv X [] Z' M O)(S:X.ex=[])(hB:B.StaysIn O.heap)(E:B.StaysIn y)(U:O.heap.UpToSlots y)(F:∀b o,X.s₀.heap.get? b=J o->b∉X.fs->∃i,B.get? b=J i)(L:∀b o,M b=J o->∃i,B.get? b=J i):Un X.fs [] X.H₀ M X.s₀.heap y/\HOk X.prog X.w M y:=by
 have j:∀b:Addr,b∉X.ex:=λb=>by rw[S];simp
 have kp:∀b o i,B.get? b=J i->O.heap.get? b=J o->y.get? b=J o:=λb o i e1 e2=>by
  have:=AK hB e1 e2
  subst this;exact E b i e1
 refine⟨⟨λb o e n hf _=>?_,λb o e n hf _=>?_,λb o e n _=>f.base.free b o e n (j b),λb o e _=>?_,f.base.tups,f.base.frzs,f.base.tbls⟩,λa o e=>?_⟩
 .obtain⟨i,l⟩:=F b o e hf;exact kp b o i l (f.base.keep b o e n hf (j b))
 .obtain⟨Z,e1⟩:=f.base.slot b o e n hf (j b);obtain⟨_,oF,C,P⟩:=f.ok.funs.mem hf;rw[e]at C;cases C;obtain⟨H,e2⟩:=U b _ e1 (λQ z=>P Q z);exact⟨H,e2⟩
 .by_cases hf:b∈X.fs
  .obtain⟨_,oF,C,P⟩:=f.ok.funs.mem hf;rw[e]at C;cases C;obtain⟨Z,e1⟩:=f.base.slot b o e (f.ok.frf b hf) hf (j b);obtain⟨H,e2⟩:=U b _ e1 (λQ z=>P Q z);exact⟨_,e2⟩
  .obtain⟨i,l⟩:=F b o e hf;exact⟨i,E b i l⟩
 .refine (f.hok a o e).stay (λb u R z=>?_) (λ_ z=>z) λ_ _ z=>z;rcases R with rfl|R
  .obtain⟨i,l⟩:=L _ _ e;exact kp _ u i l z
  .obtain⟨i,l⟩:=L _ _ R;exact kp _ u i l z
def _root_.L2.ObjOk.has(x:ObjOk P w H h a o):∃u,h.get? a=J u:=by
 cases o with
 |lst xs=>obtain⟨_,_,_,_,e⟩:=x;exact⟨_,e⟩
 |tup xs=>obtain⟨_,_,_,o,e,_⟩:=x;exact⟨o,e⟩
 |dK i=>obtain⟨_,_,_,_,o,_,_,e,_⟩:=x;exact⟨o,e⟩
 |dT i=>obtain⟨_,_,_,_,o,_,_,e,_⟩:=x;exact⟨o,e⟩
 |set S n=>obtain⟨o,_,_,_,e,_⟩:=x;exact⟨o,e⟩
 |ins C l fs=>obtain⟨_,_,_,e,_⟩:=x;exact⟨_,e⟩
 |own y=>obtain⟨o,e⟩:=x;exact⟨o,e⟩
 |xd fs=>obtain⟨_,⟨o,_,_,e,_⟩,_⟩:=x;exact⟨o,e⟩
 |rng lo j=>obtain⟨_,_,_,e⟩:=x;exact⟨_,e⟩
 |frz B u=>obtain⟨e,_⟩:=x;exact⟨_,e⟩
 |tbl z=>exact⟨_,(show h.get? a=J _ from x)⟩
 |met f y=>exact⟨_,(show h.get? a=J _ from x)⟩
 |ext φ=>obtain⟨_,⟨o,e⟩,_⟩:=x;exact⟨o,e⟩
structure h8(X:Cx):Prop where
 stk:X.stack=X.env::X.outer
 fr:X.env.frame=J X.env.locals
 ex:X.ex=[]
def P5{P:Program}{w:World}{K:hH}{mg:TH}{base:Heap}{x a:Str}{st:Stmt}{f:Addr}{fd:FuncData}{ps:TM}{m:nw}(Fu:Fun K x a st f fd)(S:p_ N ps (ae st))(hl:∀y∈N,Loc (ae st) y)(a4:∀y∈G,(ae st).names.lookup y=J .globalImplicit)(dbg:∀x∈N++G,(x==("__debug__":Str))=T/\(x==("__classdict__":Str))=T/\x≠"__name__")(hb:∀X:Cx,X.prog=P->X.w=w->X.K=K->X.mg=mg->X.base=base->X.env.scope=ae st->Good X N N G k->h8 X->Bi X (aA st) m):
  FnOk P w K mg base (J1 P w) (k+1) f fd ps (Hr K mg (cB N.length ps.length m)):=by
 have len:∀vs H Q E,Hr K mg (cB N.length ps.length m) vs H Q E->vs.length=ps.length:=by
  rintro vs H Q E ⟨U,zs,h,r,rh,q⟩;rw[<-r.length];unfold cB at q;by_cases hp:zs.length=ps.length
  .exact hp
  .rw[e_ hp]at q;exact q.elim
 obtain⟨oc,od,kV,bv,pm,an,i,ct,b1,rfl,lk,a9⟩:=Fu.ex;refine Lc lk a9 S len λA outer s H vs Q E hr a5=>?_;obtain⟨U,zs,h,r,rh,q⟩:=a5;refine⟨_,hb _ rfl rfl rfl rfl rfl rfl ⟨rfl,S.nd,hl,λ_ _=>.inl rfl,a4,dbg,rfl,hr,PassesOwn.leaving⟩ ⟨rfl,rfl,rfl⟩,U,bq N.length zs,h,A5 r,rh,?_⟩;unfold cB at q;by_cases hp:zs.length=ps.length
 .rw[b_ hp]at q
  cases e:m (bq N.length zs) h with
  |nx Z' h'=>rw[e]at q;exact λU' R Z' l r' s'=>q U' R .non l r' .non
  |rt v h'=>rw[e]at q;exact q
  |bk Z h'=>rw[e]at q;exact q.elim
  |ct Z h'=>rw[e]at q;exact q.elim
  |bad=>rw[e]at q;exact q.elim
  |exc x Z h' =>
   rw[e]at q;intro ea C U' R Z' s' br ar al l ap a1 j a3 a6;obtain⟨B,t,ax,O,ay,ai⟩:=a6;refine wpAny_leaves_onW (base:=B) (env:=envOfC a (ae st) s.heap.objs.size f i) (outer:=outer) j.ok.frames rfl ax λa0 F sm=>?_;have L:∀b o,s.heap.get? b=J o->b∉zK outer->∃ob,B.get? b=J ob:=λb o eb hf=>by
    obtain⟨o',e'⟩:=a3.old b o eb (by show b∉([]:TV);simp);refine ay b o' e' λhm=>?_;rcases mx.mp (j.stkSub b hm)with z|z
    .exact absurd (m_ eb) (by rw[z];exact BR _)
    .exact hf z
   obtain⟨un,as⟩:=wg (B:=B) j rfl ax.1 F.1 sm L O;exact⟨ea,C,R,rfl,j.os,j.bare,un,as,⟨B,t,F,O,L,ai⟩,q C U' R ar al l ap⟩
  |rse x Z h' =>
   rw[e]at q;intro ea C U' R Z' s' h0 bm ar al l ap a1 j M;have a7:=j.stack;have a2:∀env∈(envOfC a (ae st) s.heap.objs.size f i::outer),∀b,env.frame=J b->b∈zK (envOfC a (ae st) s.heap.objs.size f i::outer):=λenv he b hb=>CY.mpr ⟨env,he,hb⟩;refine wpAny_leaves_madeW (base:=PySem.W.hideAll h0 (zK (envOfC a (ae st) s.heap.objs.size f i::outer))) (h:=h0) (env:=envOfC a (ae st) s.heap.objs.size f i) (outer:=outer) j.ok.frames rfl (λb o z=>PySem.W.of_hideAll _ z)
    (PySem.W.funFrames_hide (base:=base) a7 a2) M λa0 t F _ _ sm=>?_
   have sub:∀b,b∈zK (envOfC a (ae st) s.heap.objs.size f i::outer)->b=s.heap.objs.size\/b∈zK outer:=λb hm=>mx.mp (j.stkSub b hm);have L:∀b o,s.heap.get? b=J o->b∉zK outer->∃ob,(PySem.W.hideAll h0 (zK (envOfC a (ae st) s.heap.objs.size f i::outer))).get? b=J ob:=λb o eb hf=>by
    obtain⟨o',e'⟩:=j.base.there b o eb (by show b∉([]:TV);simp);refine⟨o',PySem.W.hideAll_get _ e' λhm=>?_⟩;rcases sub b hm with z|z
    .exact absurd (m_ eb) (by rw[z];exact BR _)
    .exact hf z
   have O:∀b o,R b=J o->∃ob,(PySem.W.hideAll h0 (zK (envOfC a (ae st) s.heap.objs.size f i::outer))).get? b=J ob:=λb o eb=>by
    have b0:=j.hok.lt eb;obtain⟨u,eu⟩:∃u,h0.get? b=J u:=(j.hok b o eb).has;refine⟨u,PySem.W.hideAll_get _ eu λhm=>?_⟩
    have:=j.stkFree b hm
    rw[eb]at this;cases this
   have a8:h0.UpToSlots a0:=(Heap.UpToSlots.of_keeps M.keeps).trans sm;obtain⟨un,as⟩:=wg (B:=PySem.W.hideAll h0 (zK (envOfC a (ae st) s.heap.objs.size f i::outer))) j rfl (λb o z=>PySem.W.of_hideAll _ z) F.1 a8 L O;have ai:R ea=Y:=by
    cases z:R ea with
    |none=>rfl
    |some o =>
     obtain⟨u,eu⟩:=(j.hok ea o z).has;rw[M.new]at eu;cases eu
   exact⟨ea,C,R,rfl,j.os,j.bare,un,as,⟨_,t,F,O,L,ai⟩,q C U' R ar al l ap⟩
 .rw[e_ hp]at q;exact q.elim
def qx(v:PV)(h:MH):Out MIt:=match v with
 |.loc n=>(match h[n]? with
  |some (.lst xs)=>.ok ⟨xs,[(n,xs)]⟩ h
  |_=>.bad)
 |.frl xs=>.ok ⟨xs,[]⟩ h
 |.tup xs=>.ok ⟨xs,[]⟩ h
 |_=>.bad
def dY(m:Mx PV):Mx MIt:=λZ h=>(m Z h).bind qx
def ik(y:ME X l m):MI X tg l (dY m):=by
 intro u s Z H R f ⟨U,a,h,rs,j,q⟩;by_cases z:∃xs i,m a h=.ok (.tup xs) i
 .obtain⟨xs,i,e⟩:=z;refine Hi (tg:=tg) y u s Z H R f ⟨U,a,h,rs,j,?_⟩;unfold dY at q;unfold Lw;rw[e]at q ⊢;exact q
 .refine Dr (tg:=tg) y u s Z H R f ⟨U,a,h,rs,j,?_⟩;unfold dY at q;unfold Lv
  cases e:m a h with
  |ok v i =>
   rw[e]at q
   cases v with
   |tup xs=>exact absurd ⟨xs,i,e⟩ z
   |_=>exact q
  |exc x i=>rw[e]at q;exact q
  |bad=>rw[e]at q;exact q
def Inv.bigM{f:TX}{Z:L2.St}{H:Hp}{s:Shared}(a:Inv X f Z H s):sysModules<s.heap.objs.size:=by have h:mainGlobals<s.heap.objs.size:=(a.mod.glob.keeps a.bk).lt;exact NZ (by decide) h
def Hs:Mx PV:=λ_ h=>.ok (.loc h.length) (h++[.dic T [] []])
def Dw:ME X (.Dict [] [] pos) Hs:=λy s Z H Q f ⟨U,u,h,rs,i,q⟩=>by
 have hf:H s.heap.objs.size=Y:=f.hok.fresh (i_ _);obtain⟨l,j⟩:=i.new hf (o:=.dic T [] []) (ho:=.dK []) ⟨[],rfl,.nil,rfl⟩;refine wpAny_Dict_empty ⟨.ref s.heap.objs.size,_,f.laid (a:=s.heap.objs.size) (o:=.dK []) (t':=s.toks) (λ_ _ q=>lR _ q) (i_ _) ?_,rfl,q _ _ _ j l (.loc (by rw[<-i.len];simp))⟩;exact⟨wB _,beq_eq_false_iff_ne.mpr (Ne.symm (ww (Inv.bigM f))),[],.nil,Heap.DictOf.new s.heap⟩
structure FnAt(P:Program)(w:World)(K:hH)(mg:TH)(base:Heap)(x:Str)(ps:TM)(F:TL->MH->TD)(k:Nat):Prop where
 ex:∃f fd,mg x=J (.ref f)/\PySem.W.keepIn K (.ref f)=I/\o9 K fd ps []/\FnOk P w K mg base (J1 P w) k f fd ps (Hr K mg F)/\∃oc od osl,K.lookup f=J ⟨oc,od,.func fd,osl⟩
def FnAt.mono{P:Program}{w:World}{K:hH}{mg:TH}{base:Heap}{x:Str}{l:TM}{F:TL->MH->TD}{i j:Nat}(c:FnAt P w K mg base x l F i)(h:i<=j):FnAt P w K mg base x l F j :=
 let⟨f,fd,a,b,d,e,z⟩:=c.ex;⟨f,fd,a,b,d,e.mono h,z⟩
def FnAt.cal{P:Program}{w:World}{K:hH}{mg:TH}{base:Heap}{x:Str}{j:TM}{F:TL->MH->TD}{i:Nat}(c:FnAt P w K mg base x j F i){X:Cx}(e1:X.prog=P)(e2:X.w=w)(e3:X.K=K)(e4:X.mg=mg)(e5:X.base=base):Cal X x j F i:=by subst e1;subst e2;subst e3;subst e4;subst e5;obtain⟨f,fd,a,b,d,e,_⟩:=c.ex;exact⟨f,fd,a,b,d,e⟩
structure c_(K:hH)(x:Str)(st:Stmt):Prop where
 ex:∃f fd,PySem.W.nsIn K mainGlobals x=J (J (.ref f))/\Fun K x x st f fd
def Cz{K:hH}{x:Str}{st:Stmt}{f:Addr}{j:Value}{z y:Option Addr}{u:Array (TZ)}{kV B pm i ct:Value}(a:PySem.W.nsIn K mainGlobals x=J (J (.ref f)))(l:K.lookup f=J ⟨j,z,.func (PySem.W.fnOf x x (hW st) (aA st) (ae st) .none kV B pm y i ct),u⟩)(c:PySem.W.codeIn K i x=I)(kp:PySem.W.keepIn K (.ref f)=I):c_ K x st :=
 ⟨f,_,a,G0 l c kp⟩
def fQ(x:Str)(st:Stmt)(j:TM):Prop:=∀(kV f pm:Value)(l:Option Addr)(i ct:Value)(a:TW),a.length=j.length->bindArgs (PySem.W.fnOf x x (hW st) (aA st) (ae st) .none kV f pm l i ct) ⟨a,[]⟩=pure (j.zip a)
def oZ{P:Program}{w:World}{K:hH}{mg:TH}{base:Heap}{x:Str}{st:Stmt}{j:TM}{m:nw}(kin:K.In base)(ns:base.Ns mainGlobals mg)(D:c_ K x st)(S:p_ N j (ae st))(B:fQ x st j)(H:∀y∈N,(ae st).names.lookup y=J .local\/(ae st).names.lookup y=J .cell)(l:∀y∈G,(ae st).names.lookup y=J .globalImplicit)(dbg:∀x∈N++G,(x==("__debug__":Str))=T/\(x==("__classdict__":Str))=T/\x≠"__name__")(F:∀X:Cx,X.prog=P->X.w=w->X.K=K->X.mg=mg->X.base=base->X.env.scope=ae st->Good X N N G k->h8 X->Bi X (aA st) m):
  FnAt P w K mg base x j (cB N.length j.length m) (k+1):=by
 obtain⟨f,fd,a,i⟩:=D.ex;have E:=i.ex;obtain⟨M,z,kV,C,pm,O,L,ct,u,e1,e2,_⟩:=E;exact⟨f,fd,PySem.W.mg_of kin ns a,i.kp,i.binds B,P5 i S H l dbg F,M,z,u,e2⟩
def Ht{P:Program}{w:World}{K:hH}{mg:TH}{h:Heap}{x y:Str}{st:Stmt}{F:TL->MH->TD}{L:Addr}(D:c_ K x st)(B:fQ x st [y])(i:mg x=J (.ref L))(kin:K.In h)(ns:h.Ns mainGlobals mg)(H:∀base:Heap,K.In base->base.Ns mainGlobals mg->FnAt P w K mg base x [y] F k):
  ∃fd:FuncData,(∀(s:Shared)(u:Value),BindsTo s fd ⟨[u],[]⟩ [(y,u)])/\∀base:Heap,K.In base->base.Ns mainGlobals mg->FnOk P w K mg base (J1 P w) k L fd [y] (Hr K mg F):=by
 obtain⟨f,fd,a,M⟩:=D.ex;have e:=i.symm.trans (PySem.W.mg_of kin ns a);cases e;obtain⟨oc,od,kV,j,pm,S,l,ct,O,e1,e2,e3⟩:=M.ex;refine⟨fd,λs u=>.of_eq ?_,λbase kb nb=>?_⟩
 .rw[e1];exact B kV j pm S l ct [u] rfl
 .obtain⟨f',U,C,g2,g3,R,Z,Q,E,z⟩:=(H base kb nb).ex;rw[i]at C;cases C;rw[e2]at z;cases z;exact R
def LD(K:hH):Sp:=λi H Q _=>∃(a:Addr)(ns:TN),i=[.ref a]/\SqF K H a (ns.map V.int)/\ns.length<=63/\∀f,Q (.bl I) f
def Hu{l:PySem.W.OpenLaw}{q:Program}{loose:TM}{XP:(Str->TZ)->Heap->Prop}{R:World->Heap->Prop}{d:DefRec}{K:Params->hH}{x:Str}{F:TL->MH->TD}(hn:l.most=J 63)(B:d.params.defaults=[])(hr:Room k callerA)(U:PyProof.Rows.importsNone q=I)(O:l.prog.given.tree=Y)(hY:∀(w:World)(h:Heap),R w h->(K w.params).In h)(HF:∀(w:World)(mg:TH)(i:Addr)(h:Heap),(K w.params).In h->h.Ns mainGlobals mg->mg d.name=J (.ref i) ->
   ∃fd:FuncData,(∀(s:Shared)(u:Value),BindsTo s fd ⟨[u],[]⟩ [(x,u)])/\∀base:Heap,(K w.params).In base->base.Ns mainGlobals mg->FnOk l.prog w (K w.params) mg base (J1 l.prog w) k i fd [x] (Hr (K w.params) mg F))(ht:∀ns:TN,ns.length<=63->∃P,F [.frl (ns.map .int)] []=.ok (.bl I) P):
  PySem.W.WalkO q loose XP R l.row.toRowW d [] (λf S=>PySem.call f S):=by
 refine L2.Do (n:=63) (k:=k) (x:=x) (CX:=λw=>J1 l.prog w) (sp:=λw=>LD (K w.params)) hn (by decide) B hr U O hY (λw mg i h hK C M=>?_) (λw H a ns L hO hS=>?_) λw H s e s' z=>?_
 .obtain⟨fd,hb,hF⟩:=HF w mg i h hK C M;refine⟨fd,hb,λbase kb nb=>(hF base kb nb).imp λS H Q E z=>?_⟩;obtain⟨a,ns,rfl,j,L,hq⟩:=z;obtain⟨P,e⟩:=ht ns L;refine⟨[],[.frl (ns.map .int)],[],.cons (.frl j (RPs.ints ns)) .nil,⟨rfl,List.nodup_nil,λn a o z _=>by simp at z⟩,?_⟩;rw[e];intro U' Z v' _ _ r;cases r;exact hq Z
 .have j:SqF (K w.params) H a (ns.map V.int):=by
   rcases hS with(z|z)|z
   .rcases hO a with y|⟨o,xs,y⟩
    .rw[y]at z;cases z
    .rw[y]at z;cases z
   .exact .inl z
   .exact .inr z
  exact⟨a,ns,rfl,j,L,λ_=>rfl⟩
 .obtain⟨_,_,_,_,_,_,_,_,_,z⟩:=z;exact z
end
section
variable{α:Type}{Z:n4}{h:MH}
@[simp]theorem RR:mC v Z h=.ok v h:=rfl
@[simp]theorem xF{v:PV}{r:n4}:ah 0 (J v::r) h=.ok v h:=rfl
@[simp]theorem xN{i:Nat}{o:Tj}{r:n4}:ah (i+1) (o::r) h=ah i r h:=by simp[ah]
@[simp]theorem Dx:az f a b Z h=(a Z h).bind λx h1=>(b Z h1).bind λy h2=>(f x y h2).ne:=rfl
@[simp]theorem P6:Lp f a Z h=(a Z h).bind λx h1=>(f x h1).ne:=rfl
@[simp]theorem Hv:qr f a Z h=(a Z h).bind λx h1=>(f x h1).ne:=rfl
@[simp]theorem Bq:eX f a Z h=(a Z h).bind f:=rfl
@[simp]theorem mV:hG Z h=.ok [] h:=rfl
@[simp]theorem fO:ag a r Z h=(a Z h).bind λx h1=>(r Z h1).bind λxs h2=>.ok (x::xs) h2:=rfl
@[simp]theorem Dy:gK a Z h=(a Z h).bind se:=rfl
@[simp]theorem N7:dA a Z h=(a Z h).bind lw:=rfl
@[simp]theorem N8:Hs Z h=.ok (.loc h.length) (h++[.dic T [] []]):=rfl
@[simp]theorem RT:mB a Z h=(a Z h).bind λv h1=>match v with|.bl b=>.ok b h1|_=>.bad:=rfl
@[simp]theorem N9:G4 a Z h=(a Z h).bind λb h1=>.ok (!b) h1:=rfl
@[simp]theorem P7:P4 a b Z h=(a Z h).bind λx h1=>if x=I then .ok I h1 else b Z h1:=rfl
@[simp]theorem LF:wR a b Z h=(a Z h).bind λx h1=>match x with|.bl c=>if c=I then b Z h1 else .ok (.bl T) h1|_=>.bad:=rfl
@[simp]theorem LG:wY a Z h=(a Z h).bind λx h1=>match x with|.bl c=>.ok (.bl (!c)) h1|_=>.bad:=rfl
@[simp]theorem N_:G_ c a b Z h=(c Z h).bind λx h1=>if x=I then a Z h1 else b Z h1:=rfl
@[simp]theorem LH:pj Z h=.nx Z h:=rfl
@[simp]theorem dX:cw a b Z h=(a Z h).then b:=rfl
@[simp]theorem aw:(SOut.nx Z h).then k=k Z h:=rfl
@[simp]theorem then_rt:(SOut.rt v h).then k=.rt v h:=rfl
@[simp]theorem then_bk:(SOut.bk Z h).then k=.bk Z h:=rfl
@[simp]theorem then_ct:(SOut.ct Z h).then k=.ct Z h:=rfl
@[simp]theorem Al:(SOut.rse x Z h).then k=.rse x Z h:=rfl
@[simp]theorem AC:(SOut.exc x Z h).then k=.exc x Z h:=rfl
@[simp]theorem Bm:SOut.bad.then k=.bad:=rfl
def Out.rt(o:TD)(Z:n4):SOut:=match o with
 |.ok v a=>.rt v a
 |.exc x a=>.exc x Z a
 |.bad=>.bad
@[simp]theorem RU:(Out.ok v h).rt Z=.rt v h:=rfl
@[simp]theorem P8:(Out.exc x h:TD).rt Z=.exc x Z h:=rfl
@[simp]theorem P9:(Out.bad:TD).rt Z=.bad:=rfl
@[simp]theorem vw:cR m Z h=(m Z h).rt Z:=rfl
def Out.go{α:Type}(o:Out α)(Z:n4)(k:α->nw):SOut:=match o with
 |.ok v a=>k v Z a
 |.exc x a=>.exc x Z a
 |.bad=>.bad
@[simp]theorem aq:(Out.ok v h).go Z k=k v Z h:=rfl
@[simp]theorem go_exc:(Out.exc x h:Out α).go Z k=.exc x Z h:=rfl
@[simp]theorem go_bad:(Out.bad:Out α).go Z k=.bad:=rfl
@[simp]theorem Hw:xx m k Z h=(m Z h).go Z k:=rfl
@[simp]theorem tK:kE m Z h=(m Z h).go Z λ_=>pj:=rfl
@[simp]theorem yb:Cj c a b Z h=(c Z h).go Z λx=>if x=I then a else b:=rfl
@[simp]theorem mJ:bS i m Z h=(m Z h).go Z λv Z h=>.nx (Z.set i (J v)) h:=rfl
@[simp]theorem Oa:Hf i j m Z h=(m Z h).go Z λvs Z h=>match vs with|[v,w]=>.nx ((Z.set i (J v)).set j (J w)) h|_=>.bad:=rfl
@[simp]theorem Ob:pP m g Z h=(m Z h).go Z λv Z h=>match g v Z h with|.nx Z2 h2=>.nx Z2 h2|.exc x Z2 h2=>.exc x Z2 h2|_=>.bad:=rfl
@[simp]theorem P_:mh i v Z h=.nx (Z.set i (J v)) h:=rfl
@[simp]theorem Qa:zN [] Z h=.nx Z h:=rfl
@[simp]theorem Qb:p4 a r (v::vs) Z h=(a v Z h).then (r vs):=rfl
@[simp]theorem Qc:zQ r n (.tup xs) Z h=if xs.length=n then r xs Z h else .bad:=rfl
@[simp]theorem jp:ja mi g b Z h=(mi Z h).go Z λit=>wI it g b it.xs:=rfl
@[simp]theorem Dz:dY m Z h=(m Z h).bind qx:=rfl
@[simp]theorem LJ:dP m Z h=(m Z h).bind λvs h1=>match vs with
 |[.int j]=>if -(2^62)<=j/\j<2^62 then .ok ⟨aW 0 j.toNat,[]⟩ h1 else .bad
 |_=>.bad:=rfl
@[simp]theorem LK:Fo m Z h=(m Z h).bind λvs h1=>match vs with
 |[.int i,.int j]=>if -(2^62)<=i/\i<2^62 /\ -(2^62)<=j/\j<2^62 then .ok ⟨aW i (j-i).toNat,[]⟩ h1 else .bad
 |_=>.bad:=rfl
@[simp]theorem Hx:Hh mo mi v Z h=(mo Z h).go Z λo=>xx mi λi Z h=>match uD o i v h with
 |some h2=>.nx Z h2
 |none=>.bad:=rfl
def SOut.fin(o:SOut):TD:=match o with
 |.nx _ a=>.ok .non a
 |.rt v a=>.ok v a
 |.exc x _ a=>.exc x a
 |.rse x _ a=>.exc x a
 |_=>.bad
@[simp]theorem fin_exc:(SOut.exc x Z h).fin=.exc x h:=rfl
@[simp]theorem fin_rse:(SOut.rse x Z h).fin=.exc x h:=rfl
@[simp]theorem bB:(SOut.rt v h).fin=.ok v h:=rfl
@[simp]theorem sZ:(SOut.nx Z h).fin=.ok .non h:=rfl
theorem fG(e:ps.length=np):cB n np m ps h=(m (bq n ps) h).fin:=by unfold cB;rw[b_ e];rfl
end
section
variable{h:MH}{i j:Int}
@[simp]theorem LL:jj (.int i) (.int j) h=.ok (.int (i+j)) h:=rfl
@[simp]theorem LM:Cw (.int i) (.int j) h=.ok (.int (i-j)) h:=rfl
@[simp]theorem Oc:Cy (.int i) h=.ok (.int (-i)) h:=rfl
@[simp]theorem Od:Ct (.int i) (.int j) h=.ok (.bl (decide (i<j))) h:=rfl
@[simp]theorem Oe:Hk (.int i) (.int j) h=.ok (.bl (decide (i<=j))) h:=rfl
@[simp]theorem Of:Cu (.int i) (.int j) h=.ok (.bl (decide (j<i))) h:=rfl
@[simp]theorem Og:Cv (.int i) (.int j) h=.ok (.bl (decide (j<=i))) h:=rfl
@[simp]theorem Oh:AW (.int i) (.int j) h=.ok (.bl (decide (i=j))) h:=by simp[AW,rd,SeqAt.shaped,PyData.canLay0,PyData.depth,PyData.eqv,Kn]
@[simp]theorem Oi:BC (.int i) (.int j) h=.ok (.bl (!decide (i=j))) h:=by simp[BC,rd,SeqAt.shaped,PyData.canLay0,PyData.depth,PyData.eqv,Kn]
@[simp]theorem Oj:AW (.bl a) (.bl b) h=.ok (.bl (a==b)) h:=by simp[AW,rd,SeqAt.shaped,PyData.canLay0,PyData.depth,PyData.eqv]
@[simp]theorem Ol:BC (.bl a) (.bl b) h=.ok (.bl (!(a==b))) h:=by simp[BC,rd,SeqAt.shaped,PyData.canLay0,PyData.depth,PyData.eqv]
theorem fD(a:j≠0):mn (.int i) (.int j) h=.ok (.int (i.fmod j)) h:=by simp[mn,a]
def vN(a:j≠0):BU (.int i) (.int j) h=.ok (.int (i.fdiv j)) h:=by simp[BU,a]
def g9(a:-(2^64)<i/\i<2^64):j3 (.int i) (.int j) h=.ok (.int (i*j)) h:=by simp[j3,IntMulOk.of_left (intBits_le_64 a.1 a.2)]
def DA(a:-(2^64)<j/\j<2^64):j3 (.int i) (.int j) h=.ok (.int (i*j)) h:=by simp[j3,IntMulOk.of_right (intBits_le_64 a.1 a.2)]
def sO(a:0<=j/\j<=1000000/\i.natAbs<2^64):sw (.int i) (.int j) h=.ok (.int (i^j.toNat)) h:=by simp[sw,iG,a]
@[simp]theorem Qd:A4 [.int i] h=.ok (.int (if i<0 then -i else i)) h:=rfl
@[simp]theorem Om:zT [.int i,.int j] h=.ok (.int (if j<i then j else i)) h:=rfl
@[simp]theorem Oo:BD [.int i,.int j] h=.ok (.int (if j>i then j else i)) h:=rfl
@[simp]theorem Qe:Ds [.int i] h=.ok (.int i) h:=rfl
@[simp]theorem Qf:Ds [.bl b] h=.ok (.int (if b then 1 else 0)) h:=rfl
@[simp]theorem LN:qp [.frl xs] h=.ok (.int xs.length) h:=rfl
@[simp]theorem LO:qp [.tup xs] h=.ok (.int xs.length) h:=rfl
theorem gP(a:xs.length<=1000):lw xs h=.ok (.tup xs) h:=by unfold lw;rw[b_ (pf a (by decide))]
def pA(a:xs.length<=1000):se xs h=.ok (.loc h.length) (h++[.lst xs]):=by unfold se;rw[b_ (pf a (by decide))]
@[simp]theorem Qg:lw [] h=.ok (.tup []) h:=gP (by decide)
@[simp]theorem Qh:lw [a] h=.ok (.tup [a]) h:=gP (by simp)
@[simp]theorem Qi:lw [a,b] h=.ok (.tup [a,b]) h:=gP (by simp)
@[simp]theorem Qj:lw [a,b,c] h=.ok (.tup [a,b,c]) h:=gP (by simp)
theorem jH(a:m<n):wC n (m:Int)=J m:=by unfold wC;rw[b_ ⋯,b_ ⋯];simp
@[simp]theorem RV:ng (a::r) 0=J a:=cC (j:=0) rfl
@[simp]theorem RW:ng (a::b::r) 1=J b:=cC (j:=1) rfl
@[simp]theorem RX:ng (a::b::c::r) 2=J c:=cC (j:=2) rfl
@[simp]theorem RY:ng (a::b::c::d::r) 3=J d:=cC (j:=3) rfl
def Out.ofO(o:Tj)(h:MH):TD:=match o with
 |some v=>.ok v h
 |none=>.bad
@[simp]theorem LP:Out.ofO (J v) h=.ok v h:=rfl
@[simp]theorem LQ:ba (.tup xs) (.int i) h=Out.ofO (ng xs i) h:=rfl
@[simp]theorem LR:ba (.frl xs) (.int i) h=Out.ofO (ng xs i) h:=rfl
theorem fJ(e:h[n]?=J (.lst xs)):ba (.loc n) (.int i) h=Out.ofO (ng xs i) h:=by simp only[ba,e];rfl
def kC(e:h[n]?=J (.lst xs)):uD (.loc n) (.int i) v h=(wC xs.length i).map λp=>h.set n (.lst (xs.set p v)):=by simp only[uD,e]
def zj(e:h[n]?=J (.lst xs)):qx (.loc n) h=.ok ⟨xs,[(n,xs)]⟩ h:=by simp only[qx,e]
@[simp]theorem J2:qx (.tup xs) h=.ok ⟨xs,[]⟩ h:=rfl
@[simp]theorem J3:qx (.frl xs) h=.ok ⟨xs,[]⟩ h:=rfl
@[simp]theorem fE:(⟨xs,[]⟩:MIt).ok h↔True:=⟨λ_=>trivial,λ_ p hp=>nomatch hp⟩
@[simp]theorem Op:(⟨xs,[(n,zs)]⟩:MIt).ok h↔h[n]?=J (.lst zs):=by
 constructor
 .intro q;exact q (n,zs) (by simp)
 .intro q p hp;have e:p=(n,zs):=Kt.mp hp;subst e;exact q
end
def SOut.turn(o:SOut)(k:nw):SOut:=match o with
 |.nx f a=>k f a
 |.ct f a=>k f a
 |.bk f a=>.nx f a
 |.rt v a=>.rt v a
 |.exc e f a=>.exc e f a
 |.rse e f a=>.rse e f a
 |.bad=>.bad
@[simp]theorem Bp:(SOut.rse x Z h).turn k=.rse x Z h:=rfl
@[simp]theorem Bv:(SOut.exc x Z h).turn k=.exc x Z h:=rfl
@[simp]theorem turn_nx:(SOut.nx Z h).turn k=k Z h:=rfl
@[simp]theorem turn_ct:(SOut.ct Z h).turn k=k Z h:=rfl
@[simp]theorem turn_bk:(SOut.bk Z h).turn k=.nx Z h:=rfl
@[simp]theorem turn_rt:(SOut.rt v h).turn k=.rt v h:=rfl
theorem js(e:it.ok h):wI it g b [] Z h=.nx Z h:=by rw[wI];dsimp only;rw[b_ e]
def ib(e:it.ok h)(a:g x Z h=.nx Z1 h1):wI it g b (x::r) Z h=(b Z1 h1).turn (wI it g b r):=by rw[wI];dsimp only;rw[b_ e,a];rfl
def uq(a:Nat->Shared->Prop)(turn:∀n s,a n s->wpAny (model prog w) A (pyNext it) (λr l=>match r with
   |none=>R (.ok .next) l
   |some v=>wpAny (model prog w) A (letOwnedTupleGo target it v) (λ_ i=>wpAny (model prog w) A (assign target env v) (λ_ y =>
     wpAny (model prog w) A (forIn ifs I λc r=>if r=I then do let ok <-isTrue c env (eval c env);pure (ForInStep.yield ok)else pure (ForInStep.yield r)) (λok j =>
      if ok=I then wpAny (model prog w) A (eval elt env) (λx C =>
       wpAny (model prog w) A (call (.builtin "list.append") [acc,x]) (λ_ B=>∃m,m<n/\a m B) (λ_ _=>False) C) (λ_ _=>False) j
      else ∃m,m<n/\a m j) (λ_ _=>False) y) (λ_ _=>False) i) (λ_ _=>False) l) (λ_ _=>False) s)(n:Nat)(h:a n s):
  codeAny (model prog w) A (.compLoop (.ListComp elt [⟨target,iter,ifs,0⟩] scope pos) 0 it acc env) R s:=by
 refine codeAny_loop rfl a (λn s L=>?_) n h;refine wpAny_noted ?_;rw[compTurn_list];refine g_ (wpAny_standAt (g_ (wpAny_mono (turn n s L) (λr l z=>?_) λ_ _ f=>f.elim)))
 cases r with
 |none=>exact j_ z
 |some v =>
  refine g_ (wpAny_mono z (λ_ i E=>?_) λ_ _ f=>f.elim);refine g_ (wpAny_mono E (λ_ y G=>g_ (wpAny_mono G (λok j u=>?_) λ_ _ f=>f.elim)) λ_ _ f=>f.elim)
  cases ok with
  |false=>exact j_ ⟨rfl,u⟩
  |true =>
   exact g_ (g_ (wpAny_mono u (λx C F=>g_ (wpAny_mono F (λ_ B H=>j_ (j_ ⟨rfl,H⟩)) λ_ _ f=>f.elim)) λ_ _ f=>f.elim))
def j6(env:Env):List (Str×NameKind)->List (Str×Addr)->List (Str×Addr)
 |[],a=>a
 |(n,k)::r,a=>j6 env r (if(k==NameKind.free)=I then(n,(env.cells.lookup n).getD 0)::a else a)
def rL(h:∀y∈scope.names,y.2=.free->∃c,env.cells.lookup y.1=J c):closureFor scope env=pure (j6 env scope.names []):=by
 have key:∀(l:List (Str×NameKind))(f:List (Str×Addr)),(∀y∈l,y.2=.free->∃c,env.cells.lookup y.1=J c) ->
   (forIn l f λ(x:Str×NameKind)(r:List (Str×Addr))=>if(x.2==NameKind.free)=I then(do let a <-cellOf env x.1;pure (ForInStep.yield ((x.1,a)::r)):Sem _)else pure (ForInStep.yield r))=(pure (j6 env l f):Sem _):=by
  intro l
  induction l with
  |nil=>intro f _;rfl
  |cons y l C =>
   intro f B;obtain⟨n,k⟩:=y;rw[Pc];have E:=λz F=>B z (l7 _ F);by_cases i:(k==NameKind.free)=I
   .obtain⟨c,u⟩:=B (n,k) x_ (by simpa using i);rw[b_ i];have j:cellOf env n=pure c:=by unfold cellOf;rw[u]
    rw[j];refine(C ((n,c)::f) E).trans ?_;simp only[j6,i,if_true,u,Fg]
   .rw[e_ i];refine(C f E).trans ?_;simp[j6,i]
 exact(congrArg (λz=>z >>= λr=>pure r) (key scope.names [] h)).trans rfl
def nB:∀(l:List (Str×NameKind))(f:List (Str×Addr)),(∀a,f.lookup x=J a->a=(env.cells.lookup x).getD 0)->(∀a,(j6 env l f).lookup x=J a->a=(env.cells.lookup x).getD 0)/\((∃k,(x,k)∈l/\k=.free)\/(∃a,f.lookup x=J a)->∃a,(j6 env l f).lookup x=J a):=by
 intro l
 induction l with
 |nil =>
  intro f h;refine⟨h,λz=>?_⟩;rcases z with⟨k,z,_⟩|z
  .cases z
  .exact z
 |cons y r F =>
  intro f h;obtain⟨n,k⟩:=y;have C:∀a,(if(k==NameKind.free)=I then(n,(env.cells.lookup n).getD 0)::f else f).lookup x=J a->a=(env.cells.lookup x).getD 0:=λa i=>by
   split at i
   .rw[Cg]at i
    split at i
    .rename_i e
     have:x=n:=by simpa using e
     subst this;exact(Option.some.inj i).symm
    .exact h a i
   .exact h a i
  obtain⟨u,E⟩:=F _ C;refine⟨u,λz=>E ?_⟩;rcases z with⟨B,z,j⟩|⟨a,z⟩
  .rcases mx.mp z with e|e
   .cases e;right;subst j;exact⟨(env.cells.lookup x).getD 0,by simp⟩
   .exact .inl ⟨B,e,j⟩
  .right;split
   .rw[Cg];split
    .exact⟨_,rfl⟩
    .exact⟨a,z⟩
   .exact⟨a,z⟩
def cu{env:Env}(u:env.scope.kind=.function):∀{names:List (Str×NameKind)}{x:Str}{k:NameKind},names.lookup x=J k ->
  (names.map λ(n,k)=>if(k==NameKind.free&&env.scope.kind == .function&&env.kindOf n==J .cell)then(n,NameKind.cell)else(n,k)).lookup x=J (if k=.free/\env.kindOf x=J .cell then .cell else k):=by
 intro names
 induction names with
 |nil=>intro x k h;simp at h
 |cons y r i =>
  intro x k h;obtain⟨n,f⟩:=y;have l:=@i x k;show List.lookup x ((if(f==NameKind.free&&env.scope.kind == .function&&env.kindOf n==J .cell)=I then(n,NameKind.cell)else(n,f))::_)=_
  cases a:x==n with
  |true =>
   have e:x=n:=by simpa using a
   subst e;simp only[Cg,a]at h;cases h;by_cases z:k=.free/\env.kindOf x=J .cell
   .rw[b_ (by simp[z.1,z.2,u]),b_ z];simp
   .rw[e_ (by simp[u];intro C B;exact z ⟨C,B⟩),e_ z];simp
  |false =>
   simp only[Cg,a]at h;by_cases j:(f==NameKind.free&&env.scope.kind == .function&&env.kindOf n==J .cell)=I
   .rw[b_ j];simp only[Cg,a];exact l h
   .rw[e_ j];simp only[Cg,a];exact l h
def dE(X:Cx)(a:Scope)(cl:List (Str×Addr))(f:Shared)(i:Hp)(l:TV)(j:TM):Cx :=
 { X with N:=j,s₀:=f,H₀:=i,env:=compEnvC a cl f.heap.objs.size X.env,outer:=X.stack,ex:=l,fn:=λx=>decide (a.names.lookup x=J .cell),pn:=[],xe:=λ_ _=>False}
structure z5(X:Cx)(N:TM)(scope:Scope)(vars frees:TM)(fm:TR):Prop where
 kind:scope.kind=.function
 cell:∀y∈scope.names,y.2=.cell->scope.names.lookup y.1=J .cell
 names:∀y∈scope.names,y.2=.local->scope.names.lookup y.1=J .local
 hv:∀x∈vars,scope.names.lookup x=J .local\/scope.names.lookup x=J .cell
 hf:∀x∈frees,scope.names.lookup x=J .free
 all:∀y∈scope.names,y.2=.free->y.1∈frees
 fm:fm.map (λi=>N[i]?)=frees.map J
 cl:∀x∈frees,X.env.kindOf x=J .cell
def CA(a:Nat)(fm:TR)(Z:n4):n4:=List.replicate a Y++fm.map λi=>(Z[i]?).getD Y
def z6(f:MIt)(n:Nat)(i:Mg)(mt:Mx Bool)(j:Mx PV):TL->n4->MH->Out Unit
 |[],_,h=>if f.ok h then .ok () h else .bad
 |x::r,Z,h=>if f.ok h then (match i x Z h with
  |.nx a y=>(mt a y).ne.bind λb l=>if b=I then (j a l).ne.bind λv u=>(match u[n]? with
    |some (.lst ys)=>if ys.length<sizeLine then z6 f n i mt j r a (u.set n (.lst (ys++[v])))else .bad
    |_=>.bad)else z6 f n i mt j r a l
  |_=>.bad)else .bad
def bV(l:Nat)(fm:TR)(i:Mx MIt)(y:Mg)(mt:Mx Bool)(j:Mx PV):Mx PV:=λZ h =>
 (i Z h).bind λf a=>(z6 f a.length y mt j f.xs (CA l fm Z) (a++[.lst []])).bind λ_ u=>.ok (.loc a.length) u
def CK(X:Cx)(a:TC)(m:Mx Bool):Prop :=
 ∀(f:TX)(s:Shared)(Z:L2.St)(H:Hp)(Q:Bool->Hp->Prop),Inv X f Z H s->tM X Ln m Z H Q ->
  wpAny (model X.prog X.w) X.A (forIn a I λc r=>if r=I then do let ok <-isTrue c X.env (eval c X.env);pure (ForInStep.yield ok)else pure (ForInStep.yield r)) (TP X f Z Q) X.xe s
def n_:Mx Bool:=λ_ h=>.ok I h
def hU:CK X [] n_:=λj s Z H Q a ⟨U,i,h,rs,f,q⟩=>wpAny_tests_nil ⟨H,a,q U H I (Le.refl _ _) f rfl⟩
def vc(h:MT X c m):CK X [c] m:=λf s Z H Q a q=>wpAny_tests_one (h f s Z H Q a q)
inductive CS(X:Cx)(U:TV)(H:Hp)(σp:n4)(gt:Mg)(mt:Mx Bool)(me:Mx PV)(Z0:n4)(Q:VK)(J:It)(H1:Hp):Prop
 |mk(U1:TV)(it:MIt)(h1:MH)(l:Le U H U1 H1)(rh:RH X.K X.mg U1 H1 h1)(j:pV X U1 H1 it J)(q:Ful X (RV' X) σp U1 H1 ((z6 it h1.length gt mt me it.xs Z0 (h1++[.lst []])).bind λ_ h3=>.ok (.loc h1.length) h3) Q):CS X U H σp gt mt me Z0 Q J H1
inductive CI(X Y:Cx)(it:MIt)(tn:Nat->Heap->Prop)(fp U0:TV)(H0:Hp)(σp:n4)(n1:Nat)(gt:Mg)(mt:Mx Bool)(me:Mx PV)(Q:VK)(n:Nat)(s6:Shared):Prop
 |mk(i:Nat)(Z6:L2.St)(H6:Hp)(U6:TV)(σp6:n4)(h6:MH)(e:n=it.xs.length-i)(l:i<=it.xs.length)(v:Inv Y [] Z6 H6 s6)(t:tn i s6.heap)(f:∀b∈fp,H6 b=none)(le:Le U0 H0 U6 H6)(rs:RS X.K U6 H6 σp6 Z6)(rh:RH X.K X.mg U6 H6 h6)
   (q:Ful X (RV' X) σp U6 H6 ((z6 it n1 gt mt me (it.xs.drop i) σp6 h6).bind λ_ h3=>.ok (.loc n1) h3) Q):CI X Y it tn fp U0 H0 σp n1 gt mt me Q n s6
def rR(j:Q (newEnv scope s.heap.objs.size globals (cellsFrom (s.heap.objs.size+1) scope.names closure) qual Y .none (J env) builtinsNs) { s with heap:=pushCells (s.heap.push { cls:=.type "dict",data:=.dict #[]}) scope.names}):
  wpAny M A (newFunctionEnv scope globals closure [] qual Y .none (J env)) Q E s:=by
 simp only[newFunctionEnv,Option.isSome_some,if_true];refine g_ (wpAny_alloc ?_);refine g_ (wpAny_layCells _ (λi kind a=>by cases f:kind==NameKind.cell<;>simp[f]) _ _ _ _ ?_);rw[show({ s with heap:=s.heap.push { cls:=.type "dict",data:=.dict #[]}}:Shared).heap.objs.size=s.heap.objs.size+1 from Ch ..];rw[Pj];exact g_ (j_ (j_ j))
def dw:∀(names:List (Str×NameKind))(n:Nat)(a:List (Str×Addr)),cellsFrom n names a=cellsFrom n names []++a
 |[],n,a=>rfl
 |(x,k)::r,n,a=>by
  unfold cellsFrom;split
  .rw[dw r (n+1) ((x,n)::a),dw r (n+1) [(x,n)]];simp
  .exact dw r n a
def eP:∀(names:List (Str×NameKind))(n:Nat)(x:Str),(∃c,(x,c)∈cellsFrom n names [])↔(x,NameKind.cell)∈names
 |[],n,x=>by simp[cellsFrom]
 |(y,k)::r,n,x=>by
  unfold cellsFrom;split
  .rename_i f
   have i:k=NameKind.cell:=by simpa using f
   subst i;rw[dw];constructor
   .rintro⟨c,a⟩;rcases wj.mp a with a|a
    .exact l7 _ ((eP r (n+1) x).mp ⟨c,a⟩)
    .have:x=y:=by simp at a;exact a.1
     rw[this];exact x_
   .intro h;rcases mx.mp h with e|h
    .have:x=y:=by simpa using e
     subst this;exact⟨n,u_ _ (by simp)⟩
    .obtain⟨c,a⟩:=(eP r (n+1) x).mpr h;exact⟨c,Bs _ a⟩
  .rename_i f
   rw[eP r n x];constructor
   .exact l7 _
   .intro h;rcases mx.mp h with e|h
    .exfalso
     have:NameKind.cell=k:=by simpa using(Prod.mk.inj e).2
     rw[<-this]at f;exact f rfl
    .exact h
def kA{α:Type}:∀(a b:List (Str×α))(x:Str),(a++b).lookup x=(a.lookup x).or (b.lookup x)
 |[],b,x=>rfl
 |(y,v)::a,b,x=>by
  rw[NS,Cg,Cg]
  cases x==y with
  |true=>rfl
  |false=>exact kA a b x
def uj{α:Type}:∀(a:List (Str×α))(x:Str),a.lookup x=Y->∀c,(x,c)∉a
 |[],x,_,c,h=>nomatch h
 |(y,v)::a,x,e,c,h=>by
  rw[Cg]at e
  cases z:x==y with
  |true=>rw[z]at e;cases e
  |false =>
   rw[z]at e;rcases mx.mp h with q|q
   .have:x=y:=(Prod.mk.inj q).1
    rw[this]at z;simp at z
   .exact uj a x e c q
section
variable{X:Cx}{N W G:TM}{k:Nat}
def qV(g:Good X N W G k){tg ar ci:Expr}{cm:TC}{f:Scope}{pos:Pos}{B frees G':TM}{fm:TR}{mi:Mx MIt}{gt:Mg}{mt:Mx Bool}{me:Mx PV}(C:z5 X N f B frees fm)(nd:(B++frees).Nodup)(fx:∀x∈G',f.names.lookup x=J .globalImplicit)(dbg:∀x∈(B++frees)++G',(x==("__debug__":Str))=T/\(x==("__classdict__":Str))=T/\x≠"__name__")(hi:MI X tg ar mi)(hY:∀an:Cx,an.prog=X.prog->an.w=X.w->an.K=X.K->an.mg=X.mg->an.base=X.base->an.env.scope=relabel f X.env->Good an (B++frees) B G' k->MG an tg gt/\CK an cm mt/\ME an ci me)(hs:∀x,foldedSetIterable ar X.env x=pure x){use:Option (Value->Sem Unit)}{Qv:TF}{pp:Pos}{Lz:TX}{s:Shared}{Z:L2.St}{H:Hp}{Q:VK}(db:Inv X Lz Z H s)(tm:tM X (RV' X) (bV B.length fm mi gt mt me) Z H Q)(fin:∀(dn C:Addr) (H6:Hp) (s7:Shared) (m7:TH),Inv X Lz Z H6 s7->H6 C=Y->s7.heap.Ns C m7->C≠X.env.locals->X.s₀.heap.objs.size<=C->C∉X.fs->(∀x c,X.env.cells.lookup x=J c->c≠C)->(∀p∈X.pn++Lz,p.1≠C)->Q (.ref dn) H6 ->
   compPost (model X.prog X.w) X.A X.xe use Qv (.ref dn) C (.ok .next) s7):
  wpAny (model X.prog X.w) X.A (comprehension (.ListComp ci [⟨tg,ar,cm,0⟩] f pos) f X.env pp (newList []) T (eval ar X.env) use) Qv X.xe s:=by
 obtain⟨U,ai,h,rs,rh,q⟩:=tm;have a9:∀y∈f.names,y.2=.free->∃c,X.env.cells.lookup y.1=J c:=λy hy e=>db.ok.has y.1 (.inl (C.cl _ (C.all y hy e)));refine wpAny_comprehension_free (use:=use) rfl hs (rL a9) C.kind C.names ?_;generalize df:j6 X.env f.names []=cl;have dx:∀x a,cl.lookup x=J a->X.env.cells.lookup x=J a\/((X.env.cells.lookup x)=Y/\a=0):=λx a e=>by
  rw[<-df]at e
  have:=(nB (env:=X.env) (x:=x) f.names [] (λa z=>by simp at z)).1 a e
  cases z:X.env.cells.lookup x with
  |none=>right;rw[z]at this;exact⟨rfl,this⟩
  |some c=>left;rw[z]at this;rw[this];rfl
 have ec:∀x∈frees,∃c,cl.lookup x=J c/\X.env.cells.lookup x=J c:=λx hx=>by
  obtain⟨c,hc⟩:=db.ok.has x (.inl (C.cl x hx));have hm:(∃kk,(x,kk)∈f.names/\kk=.free):=⟨.free,PySem.mem_of_lookup (C.hf x hx),rfl⟩;obtain⟨a,ha⟩:=(nB (env:=X.env) (x:=x) f.names [] (λa z=>by simp at z)).2 (.inl hm);rw[df]at ha;rcases dx x a ha with z|⟨z,_⟩
  .rw[hc]at z;cases z;exact⟨c,ha,hc⟩
  .rw[hc]at z;cases z
 have d1:∀x a,cl.lookup x=J a->X.env.cells.lookup x=J a/\x∈frees:=λx a e=>by
   have only:∀(l:List (Str×NameKind))(cs:List (Str×Addr))(x:Str)(a:Addr),(j6 X.env l cs).lookup x=J a->(x,NameKind.free)∈l\/cs.lookup x=J a:=by
    intro l
    induction l with
    |nil=>intro cs x a e;exact .inr e
    |cons y l ih =>
     intro cs x a e;obtain⟨n,kk⟩:=y;rcases ih _ x a e with z|z
     .exact .inl (l7 _ z)
     .split at z
      .rename_i hk
       have fk:kk=NameKind.free:=by simpa using hk
       rw[Cg]at z
       split at z
       .rename_i e'
        have:x=n:=by simpa using e'
        subst this;subst fk;exact .inl x_
       .exact .inr z
      .exact .inr z
   have e':=e;rw[<-df]at e';rcases only _ _ x a e' with z'|z'
   .refine⟨?_,C.all _ z' rfl⟩;rcases dx x a e with z|⟨z,_⟩
    .exact z
    .obtain⟨c,hc⟩:=a9 _ z' rfl;rw[z]at hc;cases hc
   .simp at z'
 have start:=hi Lz s Z H (CS X U H ai gt mt me (CA B.length fm ai) Q) db
  ⟨U,ai,h,rs,rh,Ful.bind q λU1 H1 it g0 h1 _ l1 ck jr q1=>⟨U1,it,h1,l1,ck,jr,q1⟩⟩
 refine wpAny_mono start (λx g5 ez=>wpAny_mono ez (λhw F ep=>?_) λ_ _ e=>e) λ_ _ e=>e;obtain⟨ek,fp,tn,g0,H2,rfl,I2,R,d0,f2,U1,it,h1,l1,ck,jr,q1⟩:=ep;refine wpAny_newObj_type ?_;have gV:H2 F.heap.objs.size=Y:=I2.hok.fresh (i_ _);have M:=I2.lnew (ys:=[]) (its:=[]) (t':=F.toks) .nil (wB _);obtain⟨eq,l3⟩:=ck.new gV (o:=.lst []) (ho:=.lst []) ⟨[],rfl,.nil⟩;generalize ft:({ F with heap:=F.heap.push { cls:=.type "list",data:=.seq ([]:TW).toArray},toks:=F.toks}:Shared)=E at M;generalize ew:mf H2 F.heap.objs.size (.lst [])=L at M eq l3;have g4:L F.heap.objs.size=J (.lst []):=by rw[<-ew];exact bW
 have f4:E.heap=F.heap.push { cls:=.type "list",data:=.seq ([]:TW).toArray}:=by rw[<-ft]
 have cb:tn 0 E.heap:=R.keep _ _ _ d0 λb _ o e=>by rw[f4];exact lR _ e
 have ca:∀b∈fp,iz X Lz L b:=λb S=>by
  obtain⟨a0,a1⟩:=f2 b S;refine⟨?_,a1⟩;obtain⟨o,eo,_⟩:=R.obj _ _ d0 b S;rw[<-ew,aV (ww (m_ eo))];exact a0
 have dc:wpAny (model X.prog X.w) X.A (newFunctionEnv f X.env.globals cl [] X.env.qual Y .none (J X.env)) (λwm dr =>
    codeAny (model X.prog X.w) X.A (.compStart (.ListComp ci [⟨tg,ar,cm,0⟩] f pos) 0 (.ref ek) (.ref F.heap.objs.size) { wm with scope:=relabel f X.env}) (compPost (model X.prog X.w) X.A X.xe use Qv (.ref F.heap.objs.size) wm.locals) dr) X.xe E:=by
  refine rR ?_;have O:∀b o,E.heap.get? b=J o->(pushCells (E.heap.push { cls:=.type "dict",data:=.dict #[]}) f.names).get? b=J o:=λb o e=>pushCells_keeps _ _ b o (lR _ e);have d2:=(Heap.Ns.new E.heap (.type "dict")).keeps (pushCells_keeps f.names _);have b9:=cellsFrom_ok f.names (E.heap.push { cls:=.type "dict",data:=.dict #[]}) (E.heap.objs.size+1) [] ⟨λ_ _ hm=>(nomatch hm),List.Pairwise.nil⟩ (by rw[Ch];exact i_ _);rw[Ch]at b9;rw[dw];have cf:=eP f.names (E.heap.objs.size+1);generalize cellsFrom (E.heap.objs.size+1) f.names []=cn at b9 cf ⊢;generalize pushCells (E.heap.push { cls:=.type "dict",data:=.dict #[]}) f.names=h' at O d2 b9 ⊢;dsimp only[newEnv];have a8:∀x c,(cn++cl).lookup x=J c->((x,c)∈cn/\f.names.lookup x=J .cell/\E.heap.objs.size<c/\h'.IsCell c Y)\/(X.env.cells.lookup x=J c/\f.names.lookup x=J .free):=λx c e=>by
   rw[kA]at e
   cases z:cn.lookup x with
   |some c' =>
    rw[z]at e
    have:c'=c:=by simpa using e
    subst this;have m:=PySem.mem_of_lookup z;obtain⟨q1,q2⟩:=b9.empty x c' m;exact .inl ⟨m,C.cell _ ((cf x).mp ⟨c',m⟩) rfl,q2,q1⟩
   |none =>
    rw[z]at e;obtain⟨q1,q2⟩:=d1 x c (by simpa using e);exact .inr ⟨q1,C.hf x q2⟩
  have ds:∀x c,x∈frees->cl.lookup x=J c->(cn++cl).lookup x=J c:=λx c hx e=>by
   rw[kA]
   cases z:cn.lookup x with
   |none=>simpa using e
   |some c' =>
    have:=C.cell _ ((cf x).mp ⟨c',PySem.mem_of_lookup z⟩) rfl
    rw[C.hf x hx]at this;cases this
  have old:∀x c,X.env.cells.lookup x=J c->c<E.heap.objs.size:=λx c e=>by
   obtain⟨v,qc⟩:=M.cell x c e;exact qc.lt
  have ok:(dE X f (cn++cl) E L fp (B++frees)).Ok:=by
   refine⟨M.ok.mod,C.kind,M.ok.glob,M.ok.blt,i_ _,λx y c h1 h2=>?_,λx hx=>?_,λx c hx e=>?_,M.ok.hd,M.ok.frames,.inl rfl,
    λb S=>⟨?_,λx c e z=>?_⟩,M.bs,pf M.ok.bsz M.sz,λb o e S=>?_,λb S z=>?_,M.stack,M.stkFree,M.ok.tree,M.ok.top⟩
   .rcases a8 x c h1 with⟨a1,_,a2,_⟩|⟨a1,_⟩<;>rcases a8 y c h2 with⟨b1,_,b2,_⟩|⟨b1,_⟩
    .exact PySem.name_of_addr b9.apart a1 b1
    .exact absurd (NZ a2 (old y c b1)) (BR _)
    .exact absurd (NZ b2 (old x c a1)) (BR _)
    .exact M.ok.inj x y c a1 b1
   .
    have b6:(relabel f X.env).names.lookup x=J .cell\/(relabel f X.env).names.lookup x=J .free:=hx
    cases e:f.names.lookup x with
    |none =>
     exfalso;have nn:∀(l:List (Str×NameKind)),l.lookup x=Y->(l.map λ(n,k)=>if(k==NameKind.free&&X.env.scope.kind == .function&&X.env.kindOf n==J .cell)then(n,NameKind.cell)else(n,k)).lookup x=Y:=by
      intro l
      induction l with
      |nil=>intro _;rfl
      |cons y l ih =>
       intro hl;obtain⟨n,kk⟩:=y;rw[Cg]at hl
       split at hl
       .cases hl
       .rename_i fc
        rw[nc];dsimp only
        split<;>(rw[Cg];simp only[fc];exact ih hl)
     have e2:=nn f.names e;rcases b6 with z|z
     .rw[show(relabel f X.env).names.lookup x=Y from e2]at z;cases z
     .rw[show(relabel f X.env).names.lookup x=Y from e2]at z;cases z
    |some kk =>
     have e2:=cu (env:=X.env) M.ok.kind e;have hk:kk=.free\/kk=.cell:=by
      rcases b6 with z|z
      .rw[show(relabel f X.env).names.lookup x=_ from e2]at z;have z':=Option.some.inj z;by_cases zz:kk=.free/\X.env.kindOf x=J .cell
       .exact .inl zz.1
       .rw[e_ zz]at z';exact .inr z'
      .rw[show(relabel f X.env).names.lookup x=_ from e2]at z;have z':=Option.some.inj z;by_cases zz:kk=.free/\X.env.kindOf x=J .cell
       .exact .inl zz.1
       .rw[e_ zz]at z';exact .inl z'
     rcases hk with hk|hk
     .subst hk;have hf:=C.all _ (PySem.mem_of_lookup e) rfl;obtain⟨c,h1,_⟩:=ec x hf;exact⟨c,ds x c hf h1⟩
     .subst hk;obtain⟨c,hc⟩:=(cf x).mpr (PySem.mem_of_lookup e);show ∃c,(cn++cl).lookup x=J c;rw[kA]
      cases z:cn.lookup x with
      |some c'=>exact⟨c',rfl⟩
      |none=>exact absurd hc (uj cn x z c)
   .have b6:=of_decide_eq_true hx;rcases a8 x c e with⟨_,_,q,_⟩|⟨_,q⟩
    .exact Fj q
    .rw[q]at b6;cases b6
   .obtain⟨o,eo,_⟩:=R.obj _ _ cb b S;exact ww (m_ eo)
   .rcases a8 x c e with⟨_,_,q,_⟩|⟨q,_⟩
    .obtain⟨o,eo,_⟩:=R.obj _ _ cb b S;exact absurd (NZ q (z▸m_ eo)) (BR _)
    .exact (ca b S).2.2.2.2.1 x c q z
   .obtain⟨_,_,_,h4,_⟩:=ca b S;rcases h4 with h4|h4
    .exact M.ok.noex b o e h4
    .exact absurd (xj (m_ e) (pf M.ok.bsz h4)) (BR _)
   .obtain⟨_,h2,h3,_⟩:=ca b S;rcases mx.mp (M.stkSub b z)with e|e
    .exact h2 e
    .exact h3 e
  obtain⟨mX,hh,lX⟩:=M.loc;have g1:Le U H (U1++[F.heap.objs.size]) L:=l1.trans l3
  let ax:L2.St:=List.replicate B.length Y++fm.map λi=>(Z[i]?).getD Y
  have fo:fm.length=frees.length:=by have:=congrArg List.length C.fm;simpa using this
  have ea:Inv (dE X f (cn++cl) E L fp (B++frees)) [] ax L { E with heap:=h',toks:=E.toks}:=by
   refine⟨ok,rfl,M.bare,Un.kept O,⟨_,d2,λi x v hN hv g3=>?_⟩,λx c e=>?_,?_,λx c e=>?_,λp hp=>absurd (show p∈([]:TX)from hp) (by simp),M.hok.kept O,?_⟩
   .have da:(B++frees)[i]?=J x:=hN;have en:B.length<=i:=by
     by_cases z:B.length<=i
     .exact z
     .exfalso;have as:ax[i]?=J (J v):=hv;rw[qi (by simp;ext),F2]at as
      split at as<;>cases as
    have as:ax[i]?=J (J v):=hv;rw[Br (by simpa using en),Km,qo]at as;rw[Br en]at da
    cases ej:fm[i-B.length]? with
    |none=>rw[ej]at as;cases as
    |some j =>
     rw[ej]at as;have ef:=congrArg (λl=>l[i-B.length]?) C.fm;simp only[qo,ej,da,Fh]at ef;have e9:N[j]?=J x:=by simpa using ef
     have ev:Z[j]?=J (J v):=by
      have:(Z[j]?).getD Y=J v:=by simpa using as
      cases z:Z[j]? with
      |none=>rw[z]at this;cases this
      |some o=>rw[z]at this;simp at this;rw[this]
     have hx:x∈frees:=AL da;have e6:N3 X.env.scope x:=.inr (.inl (C.cl x hx));obtain⟨u,ru,et⟩:=lX j x v (by rw[g.hN];exact e9) ev e6;refine⟨u,ru,.inr ⟨?_,?_⟩⟩
     .left;show(relabel f X.env).names.lookup x=J .cell
      have:=cu (env:=X.env) M.ok.kind (C.hf x hx)
      rw[b_ ⟨rfl,C.cl x hx⟩]at this;exact this
     .rcases et with⟨hk,_⟩|⟨_,c,hc,dj⟩
      .rw[C.cl x hx]at hk;cases hk
      .obtain⟨c',h1,h2⟩:=ec x hx;rw[hc]at h2;cases h2;obtain⟨o,eo,ed⟩:=dj;exact⟨c,ds x c hx h1,o,O _ _ eo,ed⟩
   .rcases a8 x c e with⟨_,_,_,q⟩|⟨q,_⟩
    .exact⟨Y,q⟩
    .obtain⟨v,o,eo,ed⟩:=M.cell x c q;exact⟨v,o,O _ _ eo,ed⟩
   .exact M.hok.fresh (i_ _)
   .rcases a8 x c e with⟨_,_,q,_⟩|⟨q,_⟩
    .exact M.hok.fresh (Fj q)
    .exact M.freeC x c q
   .show ax.length=(B++frees).length;simp[ax,fo]
  have gY:Good (dE X f (cn++cl) E L fp (B++frees)) (B++frees) B G' k:=by
   refine⟨rfl,nd,λx hx=>?_,λx hx=>?_,λx hx=>?_,dbg,g.calm,g.room,PassesOwn.never⟩
   .rcases wj.mp hx with z|z
    .rcases C.hv x z with z|z
     .left
      have:=cu (env:=X.env) M.ok.kind z
      rw[e_ (λq=>nomatch q.1)]at this;exact this
     .right
      have:=cu (env:=X.env) M.ok.kind z
      rw[e_ (λq=>nomatch q.1)]at this;exact this
    .right
     have:=cu (env:=X.env) M.ok.kind (C.hf x z)
     rw[b_ ⟨rfl,C.cl x z⟩]at this;exact this
   .rcases C.hv x hx with z|z
    .right
     have:=cu (env:=X.env) M.ok.kind z
     rw[e_ (λq=>nomatch q.1)]at this;exact this
    .exact .inl (decide_eq_true z)
   .have:=cu (env:=X.env) M.ok.kind (fx x hx)
    rw[e_ (λq=>nomatch q.1)]at this;exact this
  obtain⟨hg,ht,he⟩:=hY (dE X f (cn++cl) E L fp (B++frees)) rfl rfl rfl rfl rfl rfl gY;have gx:RS X.K (U1++[F.heap.objs.size]) L (CA B.length fm ai) ax:=by
   refine⟨by simp[ax,CA],λi v e=>?_⟩;unfold CA at e;by_cases z:B.length<=i
   .rw[Br (by simpa using z),Km,qo]at e
    cases ej:fm[i-B.length]? with
    |none=>rw[ej]at e;cases e
    |some j =>
     rw[ej]at e;have ev:ai[j]?=J (J v):=by
      have:(ai[j]?).getD Y=J v:=by simpa using e
      cases z:ai[j]? with
      |none=>rw[z]at this;cases this
      |some o=>rw[z]at this;simp at this;rw[this]
     obtain⟨v',e',rv⟩:=rs.2 j v ev;refine⟨v',?_,rv.le g1⟩;show ax[i]?=_;rw[Br (by simpa using z),Km,qo,ej];simp[e']
   .rw[qi (by simp;ext),F2]at e
    split at e<;>cases e
  have q3:Ful X (RV' X) ai (U1++[F.heap.objs.size]) L ((z6 it h1.length gt mt me it.xs (CA B.length fm ai) (h1++[.lst []])).bind λ_ h3=>.ok (.loc h1.length) h3) Q:=Ful.le l3 q1;have b3:(U1++[F.heap.objs.size])[h1.length]?=J F.heap.objs.size:=by rw[<-ck.len];simp
  have c2:∀br:Shared,br={ E with heap:=h',toks:=E.toks}->codeAny (model X.prog X.w) X.A (.compLoop (.ListComp ci [⟨tg,ar,cm,0⟩] f pos) 0 (.ref ek) (.ref F.heap.objs.size) (compEnvC f (cn++cl) E.heap.objs.size X.env))
    (compPost (model X.prog X.w) X.A X.xe use Qv (.ref F.heap.objs.size) E.heap.objs.size) br:=by
   rintro br rfl;refine uq (CI X (dE X f (cn++cl) E L fp (B++frees)) it tn fp (U1++[F.heap.objs.size]) L ai h1.length gt mt me Q) ?_ it.xs.length
    ⟨0,ax,L,_,_,_,rfl,wB _,ea,R.keep _ _ _ cb (λb _ o e=>O b o e),λb S=>(ca b S).1,Le.refl _ _,gx,eq,by simpa using q3⟩
   rintro n s6 ⟨i,Z6,H6,U6,bm,h6,rfl,hq,I6,dq,eC,l6,gv,dk,q6⟩;have bv:∀{H':Hp},(∀b∈fp,H' b=Y)->∀b∈fp,iz (dE X f (cn++cl) E L fp (B++frees)) [] H' b:=λ{H'} hn b S =>
    ⟨hn b S,(ok.exf b S).1,ok.exfs b S,.inl S,(ok.exf b S).2,λp hp=>absurd (show p∈([]:TX)from hp) (by simp)⟩
   by_cases b5:i<it.xs.length
   .have ed:it.xs.drop i=it.xs[i]::it.xs.drop (i+1):=NK b5;rw[ed]at q6;simp only[z6]at q6;by_cases hok:it.ok h6
    .rw[b_ hok]at q6;obtain⟨j1,_⟩:=jr U6 H6 h6 i (l3.trans l6) dk hok;obtain⟨go,yl⟩:=j1 b5;refine kx (R.item (dE X f (cn++cl) E L fp (B++frees)) rfl rfl rfl g.calm i [] s6 Z6 H6 (λ_ _=>False) I6 (bv eC) dq go) λr s7 ⟨u,hr,h7⟩=>?_;subst hr;refine kx h7 λ_ s8 ⟨x8,H8,I8,r8,y8,c5,gy⟩=>?_;obtain⟨U8,x,l8,fg,ex,rx⟩:=yl x8 H8 y8;have fw:x=it.xs[i]:=by rw[xg b5]at ex;exact(Option.some.inj ex).symm
     subst fw;have gg:=I8.pinned (bv gy) (R.obj _ _ c5);have q8:=Ful.le l8 q6;have c1:∀{Z9:L2.St}{H9:Hp}{s9:Shared},Inv (dE X f (cn++cl) E L fp (B++frees)) ([]++lf fp s8.heap) Z9 H9 s9->Inv (dE X f (cn++cl) E L fp (B++frees)) [] Z9 H9 s9/\tn (i+1) s9.heap/\∀b∈fp,H9 b=Y:=λ{Z9 H9 s9} I9=>by
      refine⟨I9.unpinned,R.keep _ _ _ c5 λb S o e=>(I9.pin (b,o) (u_ _ (u_ _ (gO S e)))).1,λb S=>?_⟩;obtain⟨o,e,d⟩:=R.obj _ _ c5 b S;exact(I9.pin (b,o) (u_ _ (u_ _ (gO S e)))).2.1
     cases eg:gt it.xs[i] bm h6 with
     |nx P h9 =>
      rw[eg]at q8;dsimp only at q8
      refine kx (hg _ s8 Z6 H8 x8 u (λZ' H'=>∃U',Le U8 H8 U' H'/\RH X.K X.mg U' H' h9/\RS X.K U' H' P Z') gg r8 ⟨U8,bm,h6,_,gv.le l8,fg,rx,by
       show nX _ _ _ (gt it.xs[i] bm h6) _
       rw[eg];exact λU' H' Z' l r s=>⟨U',l,r,s⟩⟩) λ_ s9 ⟨Z9,H9,I9,U9,l9,gk,cd⟩=>?_
      have q9:=Ful.le l9 q8
      cases em:mt P h9 with
      |ok b a3 =>
       rw[em,Out.ne_ok]at q9;rw[Out.bind_ok]at q9
       refine kx (ht _ s9 Z9 H9 (λb' H'=>b'=b/\∃U',Le U9 H9 U' H'/\RH X.K X.mg U' H' a3) I9 ⟨U9,P,h9,cd,gk,by
        show Ful _ _ _ _ _ (mt P h9) _
        rw[em];exact λU' H' v' l r e=>⟨e.symm,U',l,r⟩⟩) λb' f5 ⟨c4,dt,eb,di,a7,c3⟩=>?_
       subst eb;have al:=Ful.le a7 q9
       cases b' with
       |false =>
        rw[e_ F6]at al ⊢;obtain⟨el,eF,es⟩:=c1 dt;exact⟨_,by ext,i+1,Z9,c4,di,P,a3,rfl,b5,el,eF,es,l6.trans (l8.trans (l9.trans a7)),cd.le a7,c3,al⟩
       |true =>
        rw[b_ rfl]at al ⊢
        cases ee:me P a3 with
        |ok v dF =>
         rw[ee,Out.ne_ok]at al;rw[Out.bind_ok]at al
         refine kx (he _ f5 Z9 c4 (λv' H'=>∃U',Le di c4 U' H'/\RH X.K X.mg U' H' dF/\RP X.K U' H' v v') dt ⟨di,P,a3,cd.le a7,c3,by
          show Ful _ _ _ _ _ (me P a3) _
          rw[ee];exact λU' H' v' l r e=>⟨U',l,r,e⟩⟩) λgs f0 ⟨v',c6,fa,er,ey,de,cv,eh⟩=>?_
         have ay:=Ful.le de al;have b4:Le (U1++[F.heap.objs.size]) L ey c6:=l6.trans (l8.trans (l9.trans (a7.trans de)));obtain⟨oa,f1,g2⟩:=cv.obj (b4.get b3);rw[f1]at ay
         cases oa with
         |dic fz ks xs=>exact ay.elim
         |exc x=>exact ay.elim
         |lst ys =>
          dsimp only at ay;by_cases b0:ys.length<sizeLine
          .rw[b_ b0]at ay;obtain⟨dd,f3,ry⟩:=g2;obtain⟨dv,c7⟩:=cv.put (b4.get b3) (o:=.lst (ys++[v])) (ho:=.lst (dd++[v'])) ⟨_,rfl,ry.append (.cons eh .nil)⟩;have ap:=rE (X:=dE X f (cn++cl) E L fp (B++frees)) _ f0 Z9 c6 (.ref F.heap.objs.size) [v'] (.ref F.heap.objs.size) [gs] (λ_ H'=>H'=mf c6 F.heap.objs.size (.lst (dd++[v']))) fa rfl (.cons er .nil) ⟨F.heap.objs.size,dd,v',rfl,rfl,f3,by rw[<-ry.length];exact b0,rfl⟩;refine kx ap λ_ hj ⟨_,hu,e7,_,eH⟩=>?_;subst eH;obtain⟨ei,eu,dV⟩:=c1 e7;exact⟨_,by ext,i+1,Z9,_,ey,P,_,rfl,b5,ei,eu,dV,b4.trans c7,(cd.le a7).le (de.trans c7),dv,Ful.le c7 ay⟩
          .rw[e_ b0]at ay;exact ay.elim
        |exc x dF=>rw[ee]at al;exact al.elim
        |bad=>rw[ee]at al;exact al.elim
      |exc x a3=>rw[em]at q9;exact q9.elim
      |bad=>rw[em]at q9;exact q9.elim
     |_=>rw[eg]at q8;exact q8.elim
    .rw[e_ hok]at q6;exact q6.elim
   .have e:i=it.xs.length:=by ext
    rw[e,List.drop_length]at q6;simp only[z6]at q6;by_cases hok:it.ok h6
    .rw[b_ hok]at q6;obtain⟨_,j2⟩:=jr U6 H6 h6 i (l3.trans l6) dk hok;refine kx (R.done (dE X f (cn++cl) E L fp (B++frees)) rfl rfl rfl g.calm i [] s6 Z6 H6 (λ_ _=>False) I6 (bv eC) dq (j2 (by ext))) λr s7 ⟨hr,I7⟩=>?_;subst hr;obtain⟨m7,fv,_⟩:=I7.loc;have IX:=M.call' (s':=s7) (ch:=fp) I7.os I7.base I7.hok I7.bare λb S=>by
      obtain⟨_,a2,_,a4,a5,a6⟩:=ca b S;exact⟨a4,a2,a5,a6⟩
     exact fin _ _ H6 s7 m7 IX I7.free fv (BL M.lt) M.sz (M.nofs (i_ _)) (λx c e z=>by
      obtain⟨v,qc⟩:=M.cell x c e
      exact absurd qc.lt (by rw[z];exact BR _)) (λp hp z=>absurd (m_ (M.pin p hp).1) (by rw[z];exact BR _)) (q6 U6 H6 _ (Le.refl _ _) dk (.loc (l6.get b3)))
    .rw[e_ hok]at q6;exact q6.elim
  exact codeAny_compStart_list (c2 _ rfl) (R.self X.A 0 _ _ _ (R.keep _ _ _ cb (λb _ o e=>O b o e)) (c2 _ rfl))
 exact dc
def pK(g:Good X N W G k){B j l:Expr}{u:TC}{i:Scope}{E:Pos}{f frees M:TM}{fm:TR}{P:Mx MIt}{R:Mg}{mt:Mx Bool}{S:Mx PV}(C:z5 X N i f frees fm)(nd:(f++frees).Nodup)(y:∀x∈M,i.names.lookup x=J .globalImplicit)(dbg:∀x∈(f++frees)++M,(x==("__debug__":Str))=T/\(x==("__classdict__":Str))=T/\x≠"__name__")(hi:MI X B j P)(hY:∀a:Cx,a.prog=X.prog->a.w=X.w->a.K=X.K->a.mg=X.mg->a.base=X.base->a.env.scope=relabel i X.env->Good a (f++frees) f M k->MG a B R/\CK a u mt/\ME a l S)(hs:∀x,foldedSetIterable j X.env x=pure x:=by intro _;rfl):ME X (.ListComp l [⟨B,j,u,0⟩] i E) (bV f.length fm P R mt S):=by
 intro Lz s Z H Q z tm;rw[eval_ListComp];refine qV g C nd y dbg hi hY hs z tm λF D H6 U m7 IX hC ns hL hz ai O hp q=>?_;refine⟨m7,ns,λal L=>⟨.ref F,H6,?_,rfl,q⟩⟩;exact IX.turned (it:=D) (t':=U.toks) (λb o hb e=>L.extBut b o hb e) hC hL (.inr hz) O hp
def pU(g:Good X N W G k)(i:Nat){y:Str}{py L:Pos}{O f F:Expr}{E:TC}{a:Scope}{B:Pos}{u frees G':TM}{fm:TR}{mi:Mx MIt}{gt:Mg}{mt:Mx Bool}{me:Mx PV}(R:N[i]?=J y)(hw:W[i]?=J y)(ar:swapsWith (.ListComp F [⟨O,f,E,0⟩] a B) (J (.Name y py)) L.line X.env=pure I)(C:z5 X N a u frees fm)(nd:(u++frees).Nodup)(an:∀x∈G',a.names.lookup x=J .globalImplicit)(dbg:∀x∈(u++frees)++G',(x==("__debug__":Str))=T/\(x==("__classdict__":Str))=T/\x≠"__name__")(hi:MI X O f mi)(hY:∀j:Cx,j.prog=X.prog->j.w=X.w->j.K=X.K->j.mg=X.mg->j.base=X.base->j.env.scope=relabel a X.env->Good j (u++frees) u G' k->MG j O gt/\CK j E mt/\ME j F me)(hs:∀x,foldedSetIterable f X.env x=pure x:=by intro _;rfl):MS X (.Assign [.Name y py] (.ListComp F [⟨O,f,E,0⟩] a B) L) (bS i (bV u.length fm mi gt mt me)):=by
 intro Lz s Z H D ap tm;obtain⟨U,S,h,rs,rh,q⟩:=tm;rw[exec_Assign_Name_used _ _ _ _ ar];refine g_ (wpAny_standAt (g_ ?_));show wpAny _ X.A (do let _ <-comprehension (.ListComp F [⟨O,f,E,0⟩] a B) a X.env _ (newList []) T (eval f X.env) (J (assign (.Name y py) X.env))) _ _ s
 refine g_ (wpAny_mono (qV (pos:=B) g C nd an dbg hi hY hs (use:=J (assign (.Name y py) X.env)) (Qv:=λ_ s'=>SP X Lz D .next s') (pp:=firstIterPos [⟨O,f,E,0⟩] B) (Q:=λv H'=>D.nx (Z.set i (J v)) H') ap
  ⟨U,S,h,rs,rh,bg.ex q λU1 H1 v v' h1 l r z w=>w U1 H1 _ (Le.refl _ _) r ((rs.le l).set i z)⟩ λM P H6 s7 m7 IX hC ns hL hz al as hp q6=>?_) (λ_ s' hq=>j_ (j_ hq)) λ_ _ e=>e)
 .obtain⟨o,es,ep,ho,hd,hr⟩:=id ns;have IP:Inv X (Lz++[(P,o)]) Z H6 s7:=IX.pins_of λp ax=>(wj.mp ax).elim (λz=>IX.pin p (u_ _ z)) λz=>by
   have e:p=(P,o):=by simpa using z
   subst e;exact⟨ho,hC,hL,al,λv z=>by rw[hd]at z;cases z⟩
  have st:=u9 (X:=X) (pos:=py) (by rw[g.hN];exact g.nd) (g.x R) (g.loc y (aM R)) (g.fn y (aM hw)) (Lz++[(P,o)]) s7 Z H6 (.ref M) (.ref M) (λZ' H'=>Z'=Z.set i (J (.ref M))/\H'=H6) IP rfl ⟨rfl,rfl⟩;refine kx st λ_ s8 ⟨Z8,H8,I8,e1,e2⟩=>?_;subst e1;subst e2;have pn:=I8.pin (P,o) (u_ _ (u_ _ (by simp)));refine⟨m7,⟨o,es,ep,pn.1,hd,hr⟩,λay ai=>⟨_,_,?_,q6⟩⟩;exact(I8.unpinned).turned (it:=P) (t':=s8.toks) (λb o hb e=>ai.extBut b o hb e) hC hL (.inr hz) as hp
end
section
variable{X:Cx}{N W G:TM}{k:Nat}{Z:L2.St}{H:Hp}{s:Shared}
end
section
variable{prog:Program}{w:World}{A:Around}{E:TF}{h:Heap}{g:Array GenState}{d:Drawn}{t:Nat}{os:OsState}{a C:Addr}{o:Obj}{K:hH}
end
section
variable{X:Cx}{N W G:TM}{k:Nat}
end
def nF(hf:∀v d,f v=J d->d.depth<=n/\d.hasDict=T):∀{xs:TL}{a:List PyData},cg f xs=J a->PyData.depthAll a<=n/\PyData.hasDictAll a=T
 |[],a,e=>by cases e;simp[PyData.depthAll,PyData.hasDictAll]
 |x::r,a,e=>by
  simp only[cg]at e
  split at e
  .rename_i d i e1 e2
   cases e;obtain⟨y,l⟩:=hf _ _ e1;obtain⟨u,j⟩:=nF hf e2;simp only[PyData.depthAll,PyData.hasDictAll,l,j];exact⟨⋯,rfl⟩
  .cases e
def tw:∀(n:Nat)(v:PV)(d:PyData),rd n h v=J d->d.depth<=n/\d.hasDict=T
 |0,v,d,e=>by
  cases v<;>simp only[rd]at e<;>cases e<;>simp[PyData.depth,PyData.hasDict]
 |n+1,v,d,e=>by
  have key:∀xs,(∀f,cg (rd n h) xs=J f->PyData.depthAll f<=n/\PyData.hasDictAll f=T):=λxs f=>nF (tw n)
  cases v with
  |non=>cases e;simp[PyData.depth,PyData.hasDict]
  |bl b=>cases e;simp[PyData.depth,PyData.hasDict]
  |int b=>cases e;simp[PyData.depth,PyData.hasDict]
  |str b=>cases e;simp[PyData.depth,PyData.hasDict]
  |tup xs =>
   simp only[rd,As]at e;obtain⟨f,e1,rfl⟩:=e;obtain⟨a,b⟩:=key xs f e1;exact⟨by simp only[PyData.depth];lia,by simp only[PyData.hasDict,b]⟩
  |frl xs =>
   simp only[rd,As]at e;obtain⟨f,e1,rfl⟩:=e;obtain⟨a,b⟩:=key xs f e1;exact⟨by simp only[PyData.depth];lia,by simp only[PyData.hasDict,b]⟩
  |loc m =>
   simp only[rd]at e
   split at e
   .rename_i xs _
    simp only[As]at e;obtain⟨f,e1,rfl⟩:=e;obtain⟨a,b⟩:=key xs f e1;exact⟨by simp only[PyData.depth];lia,by simp only[PyData.hasDict,b]⟩
   .cases e
section
variable{X:Cx}{N W G:TM}{k:Nat}
end
def tF{p:Str->Prop}{a:Str}{l:TM}(h:p a)(t:∀x∈l,p x):∀x∈a::l,p x:=λx f=>by
 rcases mx.mp f with rfl|z
 .exact h
 .exact t x z
section
variable{X:Cx}{N W G:TM}{k:Nat}
def Cal.at(e1:a.prog=X.prog)(e2:a.w=X.w)(e3:a.K=X.K)(e4:a.mg=X.mg)(e5:a.base=X.base)(c:Cal X x ps F i):Cal a x ps F i:=c.to e1 e2 e3 e4 e5
end
def Hy(f:X.env.scope=sc)(z:scope.kind=.function)(C:∀y∈scope.names,y.2=.cell->scope.names.lookup y.1=J .cell)(E:∀y∈scope.names,y.2=.local->scope.names.lookup y.1=J .local)(B:∀x∈a,scope.names.lookup x=J .local\/scope.names.lookup x=J .cell)(F:∀x∈frees,scope.names.lookup x=J .free)(G:∀y∈scope.names,y.2=.free->y.1∈frees)(l:fm.map (λi=>N[i]?)=frees.map J)(j:∀x∈frees,sc.names.lookup x=J .cell):z5 X N scope a frees fm :=
 ⟨z,C,E,B,F,G,l,λx u=>by rw[<-f]at j;exact j x u⟩
section
variable{Z:n4}{h:MH}
@[simp]theorem j0{nv:Nat}{fm:TR}{mi:Mx MIt}{gt:Mg}{mt:Mx Bool}{me:Mx PV}:bV nv fm mi gt mt me Z h =
 (mi Z h).bind λit h1=>(z6 it h1.length gt mt me it.xs (CA nv fm Z) (h1++[.lst []])).bind λ_ h3=>.ok (.loc h1.length) h3:=rfl
def mI{a:MIt}{n:Nat}{i:Mg}{mt:Mx Bool}{f:Mx PV}(e:a.ok h):z6 a n i mt f [] Z h=.ok () h:=by rw[z6,b_ e]
def m5{i:MIt}{n:Nat}{a:Mg}{mt:Mx Bool}{f:Mx PV}{x v:PV}{r ys:TL}{Z1:n4}{h1 h2 h3:MH}(e:i.ok h)(u:a x Z h=.nx Z1 h1)(y:mt Z1 h1=.ok I h2)(j:f Z1 h2=.ok v h3)(l:h3[n]?=J (.lst ys))(z:ys.length<1000):
  z6 i n a mt f (x::r) Z h=z6 i n a mt f r Z1 (h3.set n (.lst (ys++[v]))):=by
 rw[z6,b_ e,u];simp only[y,Out.ne_ok,Out.bind_ok,if_true,j,l];rw[b_ (xj z (by decide))]
def Fx{o:MO}{g:MH}:(h++o::g)[h.length]?=J o:=by simp
def LU{g:MH}{n:Nat}{o:MO}(e:h[n]?=J o):(h++g)[n]?=J o:=by rw[qi (o_.mp e).1];exact e
end
def Fy(f:Nat->TL->MH->TD)(m:Mx PV)(j:Mx (TL)):Mx PV:=λZ h=>(m Z h).bind λo a=>match o with
 |.loc n=>(match a[n]? with
  |some (.lst _)=>(j Z a).bind λl i=>(f n l i).ne
  |_=>.bad)
 |_=>.bad
def fR(n:Nat)(a:TL)(h:MH):TD:=match a,h[n]? with
 |[v],J (.lst xs)=>if xs.length<sizeLine then .ok .non (h.set n (.lst (xs++[v])))else .bad
 |_,_=>.bad
def jx(n:Nat)(a:TL)(h:MH):TD:=match a with
 |[.loc m]=>(match h[n]?,h[m]? with
  |some (.lst xs),J (.lst ys)=>if xs.length+ys.length<=sizeLine then .ok .non (h.set n (.lst (xs++ys)))else .bad
  |_,_=>.bad)
 |[.tup ys]=>(match h[n]? with
  |some (.lst xs)=>if xs.length+ys.length<=sizeLine then .ok .non (h.set n (.lst (xs++ys)))else .bad
  |_=>.bad)
 |_=>.bad
section
variable{X:Cx}{N W G:TM}{k:Nat}
def J4(X:Cx)(f:Nat->TL->MH->TD):V->List V->Hp->VK->Prop:=λx j H Q=>∃U h n a i,x=.ref a/\U[n]?=J a/\RH X.K X.mg U H h/\RPs X.K U H i j/\jg X (RV' X) U H (f n i h) Q
def qJ:J0 X "list.append" (J4 X fR):=by
 intro L s Z H x S v F Q f z E ⟨U,h,n,a,ps,e,u,l,rp,q⟩;subst e;obtain⟨o,B,R⟩:=l.obj u;unfold fR at q
 cases rp with
 |nil=>exact q.elim
 |cons C P =>
  cases P with
  |cons _ _=>exact q.elim
  |nil =>
   rw[B]at q
   cases o with
   |lst xs =>
    dsimp only at q;by_cases j:xs.length<sizeLine
    .rw[b_ j]at q;obtain⟨ys,O,y⟩:=R;obtain⟨i,M⟩:=l.put u (o:=.lst (xs++[_])) ⟨_,rfl,y.append (.cons C .nil)⟩;exact rE L s Z H _ _ v F Q f z E ⟨a,ys,_,rfl,rfl,O,by rw[<-y.length];exact j,q U _ .non M i .non⟩
    .rw[e_ j]at q;exact q.elim
   |_=>exact q.elim
def rM(l b:Addr)(f:Array Value)(n:Nat)(a:Array Value)(i:¬(!f.isEmpty&&Builtin.List.listTooLong (f.size+a.size))=I)(u:f.size<=sizeLine)(j:f.size+a.size<=sizeLine+1):
  Meets (Builtin.«list.extend» ⟨[.ref l,.ref b],[]⟩) (λ_ R s=>s.heap.get? l=J { cls:=.type "list",data:=.seq f n}/\IsTup s.heap b a/\R (.ok (.ret Value.none)) { s with heap:=s.heap.update l (Obj.mapSeq λx=>x++a),toks:=s.toks}):=by
 intro prog w A R s ⟨B,⟨o,z,C,F,hd⟩,h⟩;have y:(f++a).size<=sizeLine+1:=by rw[Kw];exact j
 show wpAny _ A.in1 (Builtin.List.listExtendWith (.ref l) (.ref b) .none) _ _ s;refine g_ (wpAny_typeOf ⟨o,z,C⟩ ?_);have E:(Builtin.List.listSameRef (.ref l) (.ref b)||Value.type "tuple" == Value.type "list" || Value.type "tuple" == Value.type "tuple")=I:=by simp
 simp only[E];refine g_ ?_;refine g_ (wpAny_seqItems z hd (j_ ?_));refine g_ ?_;refine g_ (wpAny_seqItems B rfl (j_ ?_));simp only[i];refine g_ (wpAny_updateSeq B rfl ?_ (hz:=u) (_hz':=y));exact j_ h
def zk:J0 X "list.extend" (J4 X jx):=by
 intro Lz s Z H x vs v us Q j rx rv ⟨U,h,n,a,ps,e,R,M,rp,q⟩;subst e;obtain⟨o,eo,ro⟩:=M.obj R;unfold jx at q
 cases rp with
 |nil=>exact q.elim
 |cons r1 t1 =>
  cases t1 with
  |cons _ _=>cases r1<;>exact q.elim
  |nil =>
   cases r1 with
   |@loc m b em =>
    obtain⟨o2,ai,P⟩:=M.obj em;dsimp only at q;rw[eo,ai]at q
    cases o with
    |lst xs =>
     cases o2 with
     |lst E =>
      dsimp only at q;by_cases B:xs.length+E.length<=sizeLine
      .rw[b_ B]at q;obtain⟨ys,O,L⟩:=ro;obtain⟨C,ew,rw'⟩:=P;obtain⟨l,S⟩:=M.put R (o:=.lst (xs++E)) (ho:=.lst (ys++C)) ⟨_,rfl,L.append rw'⟩;exact yF Lz s Z H _ _ v us Q j rx rv ⟨a,b,ys,C,rfl,rfl,O,ew,by rw[<-L.length,<-rw'.length];exact B,q U _ .non S l .non⟩
      .rw[e_ B]at q;exact q.elim
     |_=>exact q.elim
    |_=>exact q.elim
   |@tup E a2 C sq rr =>
    rw[eo]at q
    cases o with
    |lst xs =>
     dsimp only at q;by_cases B:xs.length+E.length<=sizeLine
     .rw[b_ B]at q;obtain⟨ys,O,L⟩:=ro;obtain⟨l,S⟩:=M.put R (o:=.lst (xs++E)) (ho:=.lst (ys++C)) ⟨_,rfl,L.append rr⟩;cases rx;obtain⟨u,rfl,ru⟩:=rv.one;cases ru;obtain⟨z,i,n,r,ap,e⟩:=j.lstM O;obtain⟨f,r2,pl,as⟩:=j.tuple sq;have an:ys.length+C.length<=sizeLine:=by rw[<-L.length,<-rr.length];exact B
      have ar:=r2.length;have al:i.toArray.size+f.toArray.size<=sizeLine:=by rw[tt,tt];lia
      have y:¬(!i.toArray.isEmpty&&Builtin.List.listTooLong (i.toArray.size+f.toArray.size))=I:=by rw[n6 al,Bool.and_false];exact F6
      refine call_meets F.slot_list_extend ⟨_,e,rfl⟩ F.entry_list_extend (F.args_list_extend_2 _ _) (rM a _ i.toArray n f.toArray y (by rw[tt];lia) ⋯) ⟨e,pl,?_⟩;refine⟨.non,_,j.lset (its':=i++f) O e (by simp) (r.append r2) ?_,rfl,q U _ .non S l .non⟩;rw[BP];lia
     .rw[e_ B]at q;exact q.elim
    |_=>exact q.elim
   |_=>exact q.elim
variable{o e:Expr}{es:TC}{name:Str}{apos cpos:Pos}{id:String}{f:Nat->TL->MH->TD}{m:Mx PV}{ma:Mx (TL)}
def LV{E:TA}(y:∀Z H Q,tM X (RVs' X) ma Z H Q->E Z H Q){Z:L2.St}{H:Hp}{Q:VK}(O:tM X (RV' X) (Fy f m ma) Z H Q):tM X (RV' X) m Z H (λx u=>PZ X.K "list" x u/\E Z u λxs C=>J4 X f x xs C Q):=by
 obtain⟨U,i,h,rs,P,q⟩:=O;refine⟨U,i,h,rs,P,?_⟩;refine Ful.bind q λU1 u x x' S _ R j L l=>?_
 cases L with
 |@loc n a F =>
  obtain⟨ob,M,ro⟩:=j.obj F;dsimp only at l;rw[M]at l
  cases ob with
  |lst xs =>
   obtain⟨ys,ey,ry⟩:=ro;refine⟨.inl ⟨rfl,ys,SqL.of ey⟩,y Z u _ ⟨U1,i,S,rs.le R,j,?_⟩⟩;exact Ful.bind l λU2 C vs ai h2 _ l2 B z q2=>⟨U2,h2,n,a,vs,rfl,l2.get F,B,z,q2.zero⟩
  |_=>exact l.elim
 |_=>exact l.elim
def Fz(slot:Slot "list" name id)(u:typeOf (.builtin id)=pure (.type "method_descriptor"))(C:J0 X id (J4 X f))(B:ME X o m)(y:MA X (e::es) ma)(j:attributeBase o name X.env (eval o X.env)=eval o X.env:=by rfl)(l:((backTo cpos (starEach (e::es) X.env)).all (λx=>!x.1)&&(backToKw cpos (keywordEach [] X.env)).all (λx=>x.1.isSome)
   && decide ((e::es).length+([]:List Keyword).length+(if([]:List Keyword).isEmpty then 0 else 1)<30))=I:=by rfl)(i:(apos.endLine==cpos.line)=I:=by rfl)(E:starEach (e::es) X.env=(T,eval e X.env)::starEach es X.env:=by rfl)(a:(backTo cpos (starEach es X.env)).any (·.1)=T:=by rfl):
  ME X (.Call (.Attribute o name apos) (e::es) [] cpos) (Fy f m ma) :=
 PE.imp (Ll PySem.F.plainAttrs_list slot u C B y j l i E a) λZ H Q q=>LV (λ_ _ _ z=>z) q
@[simp]theorem Hz:Fy f m ma Z h=(m Z h).bind λo h1=>match o with
 |.loc n=>(match h1[n]? with
  |some (.lst _)=>(ma Z h1).bind λvs h2=>(f n vs h2).ne
  |_=>.bad)
 |_=>.bad:=rfl
end
def bJ(h:MH):PV->Option (TL)
 |.tup xs=>J xs
 |.frl xs=>J xs
 |.loc n=>(match h[n]? with
  |some (.lst xs)=>J xs
  |_=>Y)
 |_=>Y
section
variable{X:Cx}{N W G:TM}{k:Nat}
def jm(j:RH X.K X.mg U H h)(f:RP X.K U H x x')(e:bJ h x=J xs):∃a ys,x'=.ref a/\(SqL X.K H a ys\/SqT X.K H a ys)/\RPs X.K U H xs ys:=by
 cases f with
 |tup s r=>cases e;exact⟨_,_,rfl,.inr s,r⟩
 |frl s r=>cases e;exact⟨_,_,rfl,.inl s.sq,r⟩
 |@loc n a l =>
  obtain⟨o,i,B⟩:=j.obj l;simp only[bJ,i]at e
  cases o with
  |lst ys =>
   cases e;obtain⟨y,z,u⟩:=B;exact⟨a,y,rfl,.inl (SqL.of z),u⟩
  |_=>cases e
 |_=>cases e
def oz(f g:PV->PV->MH->TD)(a b c:Mx PV):Mx PV:=λZ h=>(a Z h).bind λx l=>(b Z l).bind λy u=>(f x y u).ne.bind λz i=>match z with
 |.bl t=>if t=I then(c Z i).bind λw j=>(g y w j).ne else .ok (.bl T) i
 |_=>.bad
variable{a b c:Expr}{ma mb mc:Mx PV}{f g':PV->PV->MH->TD}{op op':CmpOp}{pos:Pos}
def zR{Z:L2.St}{H:Hp}{Q:VK}(q:tM X (RV' X) (oz f g' ma mb mc) Z H Q):yw (rJ X f) (rJ X g') (tM X (RV' X) ma) (tM X (RV' X) mb) (tM X (RV' X) mc) Z H Q:=by
 obtain⟨U,i,h,rs,rh,q⟩:=q;refine⟨U,i,h,rs,rh,Ful.bind q λU1 H1 x x' h1 _ F E rx q1=>?_⟩;refine⟨U1,i,h1,rs.le F,E,Ful.bind q1 λR H2 y y' M _ S C ry q2=>?_⟩;refine⟨R,M,x,y,C,rx.le S,ry,?_⟩;have key:Ful X (RV' X) i R H2 (f x y M).ne (λz l=>∃k,z=.bl k/\(if k=I then tM X (RV' X) mc Z l λw' P=>rJ X g' y' w' P Q else Q (.bl T) l)):=Ful.bind q2 λO l z z' h3 _ L j rz u=>by
  cases rz with
  |bl t =>
   refine⟨t,rfl,?_⟩
   cases t with
   |true =>
    exact⟨O,i,h3,rs.le (F.trans (S.trans L)),j,Ful.bind u λU4 P w w' h4 _ l4 B rw' q4=>⟨U4,h4,y,w,B,(ry.le L).le l4,rw',q4.zero⟩⟩
   |false =>
    exact u O l _ (Le.refl _ _) j (.bl _)
  |_=>exact u.elim
 exact key.zero
def Bb(u:zL X (compareOp op) f)(i:zL X (compareOp op') g')(j:ME X a ma)(z:ME X b mb)(l:ME X c mc)(y:lastMarks [op,op'] [b,c]=T:=by with_unfolding_all rfl):ME X (.Compare a [op,op'] [b,c] pos) (oz f g' ma mb mc) :=
 PE.imp (Af u i j z l y) λ_ _ _ q=>zR q
@[simp]theorem J5:oz f g' ma mb mc Z h=(ma Z h).bind λx h1=>(mb Z h1).bind λy h2=>(f x y h2).ne.bind λz h3=>match z with
 |.bl t=>if t=I then(mc Z h3).bind λw h4=>(g' y w h4).ne else .ok (.bl T) h3
 |_=>.bad:=rfl
def DB(j:Bool)(x y:PV)(h:MH):TD:=match bJ h y with
 |some ys=>(match rd 60 h x,cg (rd 60 h) ys with
  |some d,J i=>if d.canLay0=I/\PyData.canLayAll0 i=I then .ok (.bl (if j then !i.any (λe=>PyData.eqv e d)else i.any (λe=>PyData.eqv e d))) h else .bad
  |_,_=>.bad)
 |none=>.bad
def oU:∀{i:List PyData},PyData.canLayAll0 i=I->∀d∈i,d.canLay0=I
 |e::i,h,d,hd=>by
  simp only[PyData.canLayAll0,BA]at h;rcases mx.mp hd with rfl|hd
  .exact h.1
  .exact oU h.2 d hd
def rj(hf:∀u d i,Reads hp u d i->fq u=PyData.eqv d dx):∀{j:TW}{l:List PyData}{i:TV},ReadsAll hp j l i->j.any fq=l.any λe=>PyData.eqv e dx
 |_,_,_,.nil=>rfl
 |_,_,_,.cons r t=>by rw[Pm,Pm,hf _ _ _ r,rj hf t]
def rq:∀{j:TW}{l:List PyData}{z:TV},ReadsAll hp j l z->∀u∈j,∃d i,d∈l/\Reads hp u d i
 |_,_,_,.nil,u,h=>nomatch h
 |_,_,_,.cons r t,u,h=>by
  rcases mx.mp h with rfl|h
  .exact⟨_,_,x_,r⟩
  .obtain⟨d,i,hd,y⟩:=rq t u h;exact⟨d,i,l7 _ hd,y⟩
def fq(j:Heap)(i:PyData)(u:Value):Bool:=if z:∃d l,Reads j u d l then PyData.eqv z.choose i else T
def FA(r:Reads hp u d i):fq hp dx u=PyData.eqv d dx:=by have z:∃d i,Reads hp u d i:=⟨d,i,r⟩;unfold fq;rw[dif_pos z];obtain⟨j,l⟩:=z.choose_spec;rw[<-(Reads.unique r _ _ l).1]
def FC(hr:Room k X.A)(M:Bool):zL X (compareOp (if M then .NotIn else .In)) (DB M):=by
 intro Lz s Z H x' y' u v Q j an al ⟨U,h,x,y,E,rx,ry,q⟩;unfold DB at q
 cases es:bJ h y with
 |none=>rw[es]at q;exact q.elim
 |some ys =>
  rw[es]at q;dsimp only at q;obtain⟨a,zs,rfl,S,ai⟩:=jm E ry es
  cases ex:rd 60 h x with
  |none=>rw[ex]at q;exact q.elim
  |some l =>
   rw[ex]at q
   cases ed:cg (rd 60 h) ys with
   |none=>rw[ed]at q;exact q.elim
   |some ds =>
    rw[ed]at q;dsimp only at q;by_cases hl:l.canLay0=I/\PyData.canLayAll0 ds=I
    .rw[b_ hl]at q;cases al;obtain⟨_,rX⟩:=fP j E 60 x x' u l rx an ex;have ar:=(tw 60 x l ex).1;have z:∀(i:TW),aG zs i->(∀w∈i,SeqAt.EqAt X.A.in1 s w u (fq s.heap l w))/\i.any (fq s.heap l)=ds.any λe=>PyData.eqv e l:=λi C=>by
      obtain⟨as,RA⟩:=fZ (λv v' u d r1 r2 e=>fP j E 60 v v' u d r1 r2 e) ai C ed;refine⟨λw B=>?_,rj (λu d as r=>FA r) RA⟩;obtain⟨d,ap,hd,R⟩:=rq RA w B;rw[FA R];refine SeqAt.eqAt_reads d l X.A.in1 s w u _ _ R rX (oU hl.2 d hd) hl.1 ?_
      have:=hr.un
      lia
     cases M with
     |false =>
      rcases S with L|L
      .obtain⟨i,C,P,hz⟩:=j.list L;obtain⟨F,O⟩:=z i C;refine SeqAt.in_listAt (fq s.heap l) P.isList (λw B=>F w (by simpa using B)) ⟨.bl _,H,j,rfl,?_⟩;rw[show i.toArray.any (fq s.heap l)=i.any (fq s.heap l) by simp,O];exact q U H _ (Le.refl _ _) E (.bl _)
      .obtain⟨i,C,P,hz⟩:=j.tuple L;obtain⟨F,O⟩:=z i C;refine SeqAt.in_tupleAt (fq s.heap l) P (λw B=>F w (by simpa using B)) ⟨.bl _,H,j,rfl,?_⟩;rw[show i.toArray.any (fq s.heap l)=i.any (fq s.heap l) by simp,O];exact q U H _ (Le.refl _ _) E (.bl _)
     |true =>
      rcases S with L|L
      .obtain⟨i,C,P,hz⟩:=j.list L;obtain⟨F,O⟩:=z i C;refine SeqAt.notIn_listAt (fq s.heap l) P.isList (λw B=>F w (by simpa using B)) ⟨.bl _,H,j,rfl,?_⟩;rw[show i.toArray.any (fq s.heap l)=i.any (fq s.heap l) by simp,O];exact q U H _ (Le.refl _ _) E (.bl _)
      .obtain⟨i,C,P,hz⟩:=j.tuple L;obtain⟨F,O⟩:=z i C;refine SeqAt.notIn_tupleAt (fq s.heap l) P (λw B=>F w (by simpa using B)) ⟨.bl _,H,j,rfl,?_⟩;rw[show i.toArray.any (fq s.heap l)=i.any (fq s.heap l) by simp,O];exact q U H _ (Le.refl _ _) E (.bl _)
    .rw[e_ hl]at q;exact q.elim
def BZ(xs:TL)(h:MH):TD:=match xs with
 |[x]=>(match bJ h x with
  |some ys=>se ys h
  |none=>.bad)
 |_=>.bad
def A7(xs:TL)(h:MH):TD:=match xs with
 |[x]=>(match bJ h x with
  |some ys=>.ok (.tup ys) h
  |none=>.bad)
 |_=>.bad
def DC:cz X (.type "list") BZ:=by
 intro F s Z H xs E Q i r ⟨U,h,O,z,rp,q⟩
 cases rp with
 |nil=>exact q.elim
 |cons B M =>
  cases M with
  |cons _ _=>exact q.elim
  |nil =>
   rename_i x y
   unfold BZ at q
   cases l:bJ h x with
   |none=>simp only[l]at q;exact q.elim
   |some ys =>
    simp only[l]at q;obtain⟨a,L,rfl,u,j⟩:=jm z B l;obtain⟨_,C⟩:=m9 z j q;exact ux F s Z H _ E Q i r ⟨a,L,rfl,u,C⟩
def om:cz X (.type "tuple") A7:=by
 intro L s Z H xs F Q i r ⟨U,h,ps,z,rp,q⟩
 cases rp with
 |nil=>exact q.elim
 |cons O S =>
  cases S with
  |cons _ _=>exact q.elim
  |nil =>
   rename_i x y
   unfold A7 at q
   cases B:bJ h x with
   |none=>simp only[B]at q;exact q.elim
   |some ys =>
    simp only[B]at q;obtain⟨a,C,rfl,E,j⟩:=jm z O B;rcases E with u|u
    .refine kW L s Z H _ F Q i r ⟨a,C,rfl,.inl ⟨u,λl R=>?_⟩⟩;obtain⟨P,M⟩:=z.tup R C;exact q U _ _ M P (.tup (SqT.of bW) (j.le M))
    .exact kW L s Z H _ F Q i r ⟨a,C,rfl,.inr ⟨u,q U H _ (Le.refl _ _) z (.tup u j)⟩⟩
def fI(xs:TL)(lo i:TB):TL:=(xs.drop (HT.lp xs.length 0 lo)).take (HT.lp xs.length xs.length i-HT.lp xs.length 0 lo)
def HA(x:PV)(lo i:TB)(h:MH):TD:=match x with
 |.tup xs=>if HT.lp xs.length 0 lo=0/\HT.lp xs.length xs.length i=xs.length then .bad else .ok (.tup (fI xs lo i)) h
 |.frl xs=>.ok (.loc h.length) (h++[.lst (fI xs lo i)])
 |.loc n=>(match h[n]? with
  |some (.lst xs)=>.ok (.loc h.length) (h++[.lst (fI xs lo i)])
  |_=>.bad)
 |_=>.bad
def S1(X:Cx)(f:PV->TB->TB->MH->TD):V->TB->TB->Hp->VK->Prop:=λj lo i H Q=>∃U h x,RH X.K X.mg U H h/\RP X.K U H x j/\jg X (RV' X) U H (f x lo i h) Q
def qh{K:hH}{U:TV}{H:Hp}{xs:TL}{ys:List V}(r:RPs K U H xs ys)(lo i:TB):RPs K U H (fI xs lo i) (km ys lo i):=by unfold fI km;rw[r.length];exact(r.drop _).take _
def LW:N5 X (S1 X HA):=by
 intro O s Z H x' v vl P lo i E Q j F M R L ⟨U,h,x,l,ai,q⟩
 cases ai with
 |tup S C =>
  unfold HA at q;dsimp only at q
  rename_i xs a ys
  by_cases z:HT.lp xs.length 0 lo=0/\HT.lp xs.length xs.length i=xs.length
  .rw[b_ z]at q;exact q.elim
  .rw[e_ z]at q;refine GQ O s Z H _ v vl P lo i E Q j F M R L ⟨a,ys,rfl,S,by rw[<-C.length];exact z,λp y=>?_⟩;obtain⟨B,u⟩:=l.tup y (km ys lo i);exact q U _ _ u B (.tup (SqT.of bW) ((qh C lo i).le u))
 |frl S C =>
  rename_i xs a ys
  refine u5 O s Z H _ v vl P lo i E Q j F M R L ⟨a,ys,rfl,S.sq,λp y=>?_⟩;obtain⟨B,u⟩:=l.new y (o:=.lst (fI xs lo i)) ⟨_,rfl,qh C lo i⟩;exact q _ _ _ u B (.loc (by rw[<-l.len];simp))
 |@loc n a en =>
  obtain⟨o,eo,ro⟩:=l.obj en;unfold HA at q;dsimp only at q;rw[eo]at q
  cases o with
  |lst xs =>
   obtain⟨ys,ey,ry⟩:=ro;refine u5 O s Z H _ v vl P lo i E Q j F M R L ⟨a,ys,rfl,SqL.of ey,λp y=>?_⟩;obtain⟨B,u⟩:=l.new y (o:=.lst (fI xs lo i)) ⟨_,rfl,qh ry lo i⟩;exact q _ _ _ u B (.loc (by rw[<-l.len];simp))
  |_=>exact q.elim
 |_=>exact q.elim
def MO'(X:Cx)(e:Option Expr)(m:Mx (TB)):Prop:=PO X e (tM X Ln m)
def RZ:Mx (TB):=λ_ h=>.ok Y h
def R0(m:Mx PV):Mx (TB):=λZ h=>(m Z h).bind λv j=>match v with
 |.int i=>.ok (J i) j
 |_=>.bad
def vk:MO' X Y RZ:=λj s Z H Q i ⟨U,u,h,rs,l,q⟩=>Di j s Z H Q i (q U H Y (Le.refl _ _) l rfl)
def vd(h:ME X e m):MO' X (J e) (R0 m):=λF s Z H Q j ⟨U,l,E,rs,z,q⟩=>Dj h F s Z H Q j ⟨U,l,E,rs,z,Ful.bind q λL B v P O _ M u C y=>by
 cases C with
 |int i=>exact⟨i,rfl,y L B (J i) (Le.refl _ _) u rfl⟩
 |_=>exact y.elim⟩
def R1(m:Mx PV)(i z:Mx (TB)):Mx PV:=λZ h=>(m Z h).bind λx l=>(i Z l).bind λlo u=>(z Z u).bind λj y=>(HA x lo j y).ne
def FD{e:Expr}{lo j:Option Expr}{m:Mx PV}{z C:Mx (TB)}{L:Pos}(he:ME X e m)(hl:MO' X lo z)(hu:MO' X j C):ME X (.Subscript e (.Slice lo j Y L) pos) (R1 m z C) :=
 PE.imp (A2 LW he hl hu) λZ H Q ⟨U,i,h,rs,O,q⟩=>⟨U,i,h,rs,O,Ful.bind q λU1 H1 x x' S _ B u M q1=>⟨U1,i,S,rs.le B,u,Ful.bind q1 λU2 H2 lo R h2 _ E l el q2=>by
  subst el
  exact⟨U2,i,h2,rs.le (B.trans E),l,Ful.bind q2 λU3 H3 j ai h3 _ l3 y P F=>by
   subst P
   exact⟨U3,h3,x,y,(M.le E).le l3,F.zero⟩⟩⟩⟩
end
section
variable{X:Cx}{N W G:TM}{k:Nat}
def AY{A:Around}{E:TF}{L:TX}{Z:L2.St}{H:Hp}{s:Shared}{a:Addr}{ys:List V}{Q:TF}(F:A.handled=Y)(u:Inv X L Z H s)(y:SqL X.K H a ys\/SqT X.K H a ys)(h:∀(f:TW)(B:Heap)(It:Addr)(St:Nat->Heap->Prop),aG ys f->Walks X.prog X.w A It [It,a] [It] f.toArray.size (λi v=>f.toArray[i]?=J v) St->St 0 B->(∀b∈[It,a],b<B.objs.size)->(∀b o,s.heap.get? b=J o->B.get? b=J o)->s.heap.objs.size=It->Q (.ref It) { s with heap:=B}):
  wpAny (model X.prog X.w) A (pyIter (.ref a)) Q E s:=by
 have sz:∀(o:Obj),a<s.heap.objs.size->∀b∈[s.heap.objs.size,a],b<(s.heap.push o).objs.size:=λo j b z=>by
  rw[Ch];rcases mx.mp z with rfl|z
  .exact NR _
  .rcases mx.mp z with rfl|z
   .exact O3 j
   .cases z
 rcases y with y|y
 .obtain⟨f,C,M,_⟩:=u.list y;have l:=M.isList;have j:a<s.heap.objs.size:=by obtain⟨_,e,_⟩:=l;exact m_ e
  exact wpAny_pyIter_list l (h f _ _ _ C (Walks.list F _ a (ww j) f.toArray) ⟨⟨_,w_ _ rfl,rfl,rfl⟩,l.push _⟩ (sz _ j) (λb o e=>lR _ e) rfl)
 .obtain⟨f,C,l,_⟩:=u.tuple y;have j:a<s.heap.objs.size:=by obtain⟨_,e,_⟩:=l;exact m_ e
  exact wpAny_pyIter_tuple l (h f _ _ _ C (Walks.tuple F _ a (ww j) f.toArray) ⟨⟨_,w_ _ rfl,rfl,rfl⟩,l.push _⟩ (sz _ j) (λb o e=>lR _ e) rfl)
def LX{s:Shared}{a f:Heap}{It:Addr}(i:∀b o,s.heap.get? b=J o->a.get? b=J o)(e:s.heap.objs.size=It)(l:∀b o,b∉[It]->a.get? b=J o->f.get? b=J o):∀b o,s.heap.get? b=J o->f.get? b=J o:=λb o q=>by
 refine l b o (λj=>?_) (i b o q)
 have:b=It:=by simpa using j
 exact absurd (m_ q) (by rw[this,e];exact BR _)
def kH:TL->Option (List Bool)
 |[]=>J []
 |.bl b::r=>(kH r).map (b::·)
 |_=>Y
def DD{K:hH}{U:TV}{H:Hp}:∀{xs:TL}{ys:List V}{bs:List Bool}{a:TW},RPs K U H xs ys->aG ys a->kH xs=J bs->a=bs.map Value.bool:=by
 intro xs
 induction xs with
 |nil=>intro ys bs a r v e;cases r;cases v;cases e;rfl
 |cons x xs i =>
  intro ys bs a r v e
  cases r with
  |cons f j =>
   cases v with
   |cons z y =>
    cases f with
    |bl b =>
     simp only[kH,As]at e;obtain⟨u,l,rfl⟩:=e;rw[i j y l,show _=Value.bool b from z];rfl
    |_=>cases e
def uQ(bs:List Bool):TruthOf X.prog X.w A (λi v=>(bs.map Value.bool).toArray[i]?=J v) (λi=>bs.getD i T):=λi v s Q E a f=>by
 have:v=.bool (bs.getD i T):=by
  have a:(List.map Value.bool bs).toArray[i]?=J v:=a;rw[RJ,qo,As]at a;obtain⟨b,e,rfl⟩:=a
  simp_all
 subst this;exact wpAny_truthy_bool f
def yn(bs:List Bool):(List.range bs.length).all (λi=>bs.getD i T)=bs.all id:=by
 induction bs with
 |nil=>rfl
 |cons b r a =>
  rw[B8,RF,List.all_cons,List.all_map,List.all_cons,<-a];rfl
def BV(xs:TL)(h:MH):TD:=match xs with
 |[x]=>(match (bJ h x).bind kH with
  |some bs=>.ok (.bl (bs.all id)) h
  |none=>.bad)
 |_=>.bad
def yo(g:Good X N W G k):cz X (.builtin "all") BV:=by
 intro Lz s Z H xs us Q f r ⟨U,h,ps,B,rp,q⟩
 cases rp with
 |nil=>exact q.elim
 |cons E P =>
  cases P with
  |cons _ _=>exact q.elim
  |nil =>
   rename_i x y
   unfold BV at q
   cases u:(bJ h x).bind kH with
   |none=>simp only[u]at q;exact q.elim
   |some bs =>
    simp only[u]at q;obtain⟨ys,e1,e2⟩:=JV.mp u;obtain⟨a,zs,rfl,z,j⟩:=jm B E e1
    cases r with
    |cons O M =>
     cases M;cases O;refine call_all_walk (AY g.room.hd f z λl h2 It St F Wk st S kp i=>?_);have C:=DD j F e2;refine⟨It,_,_,_,_,St,_,rfl,Wk,st,by rw[C];exact uQ bs,λR tk kk=>?_⟩;have L:l.toArray.size=bs.length:=by rw[C];simp
     rw[L,yn];exact⟨.bl _,H,f.kept (LX kp i kk),rfl,q U H _ (Le.refl _ _) B (.bl _)⟩
end
def RH.loose{K:hH}{mg:Cs}{U:TV}{H:Hp}{h:MH}(r:RH K mg U H h){p:Addr}(f:H p=Y)(i:HO):RH K mg U (mf H p i) h/\Le U H U (mf H p i):=by
 have j:∀n a,U[n]?=J a->a≠p:=λn a e z=>by
  obtain⟨y,_,q⟩:=r.obj e;rw[z,f]at q;exact q.some rfl
 have l:Le U H U (mf H p i):=⟨⟨[],by simp⟩,λa xs e=>by rw[aV (bG e f)];exact e,λa B u e=>by rw[aV (bG e f)];exact e⟩;exact⟨⟨r.len,r.nd,λn a o e1 e2=>by rw[aV (j n a e1)];exact(r.at' n a o e1 e2).le l⟩,l⟩
section
variable{X:Cx}{N W G:TM}{k:Nat}
def lq(xs:TL)(i:Int)(v:PV):TL :=
 let k:=if i<0 then(i+(xs.length:Int)).toNat else min i.toNat xs.length
 xs.take k++v::xs.drop k
def mG(n:Nat)(a:TL)(h:MH):TD:=match a with
 |[.int i,v]=>(match h[n]? with
  |some (.lst xs)=>if(-(2^63)<=i/\i<2^63)/\xs.length<sizeLine then .ok .non (h.set n (.lst (lq xs i v)))else .bad
  |_=>.bad)
 |_=>.bad
def yu:J0 X "list.insert" (J4 X mG):=by
 intro Lz s Z H x vs v us Q j rx rv ⟨U,h,n,a,ps,e,en,S,rp,q⟩;subst e;obtain⟨o,eo,ro⟩:=S.obj en;unfold mG at q
 split at q
 .rename_i i F
  cases rp with
  |cons r1 t1 =>
   cases t1 with
   |cons r2 t2 =>
    cases t2;cases r1;rw[eo]at q
    cases o with
    |lst xs =>
     dsimp only at q;by_cases B:(-(2^63)<=i/\i<2^63)/\xs.length<sizeLine
     .rw[b_ B]at q;obtain⟨ys,ey,O⟩:=ro;cases rx
      cases rv with
      |cons R C=>cases C with
       |cons L M =>
        cases M
        rename_i v' u1 u2
        obtain⟨t,rfl⟩:=R;obtain⟨z,f,nn,r,l,e⟩:=j.lstM ey
        let kk:=if i<0 then(i+(f.length:Int)).toNat else min i.toNat f.length
        have u:RPs X.K U H (lq xs i F) (ys.take kk++v'::ys.drop kk):=by
         have:(if i<0 then(i+(xs.length:Int)).toNat else min i.toNat xs.length)=kk:=by rw[O.length,l]
         unfold lq;rw[this];exact(O.take kk).append (.cons r2 (O.drop kk))
        obtain⟨E,l'⟩:=S.put en (o:=.lst (lq xs i F)) ⟨_,rfl,u⟩;refine call_meets PySem.F.slot_list_insert ⟨_,e,rfl⟩ PySem.F.entry_list_insert (PySem.F.args_list_insert_3 _ _ _) (AutoListH.list_insert_list_int_val_1 a f.toArray nn i t u2 (by rw[fitsIndex_both B.1.1 B.1.2];simp) (by rw[tt];ext)) ⟨e,?_⟩;have y:=(r.take kk).append (.cons L (r.drop kk));have P:(ys.take kk++v'::ys.drop kk).length<=sizeLine:=by
         rw[<-u.length];have e1:(lq xs i F).length=xs.length+1:=by unfold lq;simp only[BP,B8,Ky,NQ];ext
         ext
        refine⟨.non,_,j.lset (its':=f.take kk++u2::f.drop kk) ey e ?_ y P,rfl,q U _ .non l' E .non⟩;simp[kk,List.extract];refine CV ?_;rw[NQ];exact i_ _
     .rw[e_ B]at q;exact q.elim
    |_=>exact q.elim
 .exact q.elim
def DE(g:Good X N W G k){a:Expr}{m:Mx PV}{f y:String}{c l:Str}{i j j':Nat}{p q z P pt:Pos}{kt}(hi:G[i]?=J "isinstance")(hm:X.mg "isinstance"=Y)(hj:G[j]?=J c)(hc:X.mg c=Y)(hv:bootBuiltins c=J (.type f))(hT:Du f)(E:G[j']?=J l)(ai:X.mg l=Y)(a1:bootBuiltins l=J (.type y))(an:Du y)(ha:ME X a m)(he:starEach [a,.Tuple [.Name c q,.Name l z] kt pt] X.env=(T,eval a X.env)::starEach [.Tuple [.Name c q,.Name l z] kt pt] X.env:=by rfl)(a4:starEach [.Tuple [.Name c q,.Name l z] kt pt] X.env=[(T,eval (.Tuple [.Name c q,.Name l z] kt pt) X.env)]:=by rfl)(ax:(backTo P (starEach [.Tuple [.Name c q,.Name l z] kt pt] X.env)).any (·.1)=T:=by rfl)(as:starEach [.Name c q,.Name l z] X.env=(T,eval (.Name c q) X.env)::starEach [.Name l z] X.env:=by rfl)(a3:starEach [.Name l z] X.env=[(T,eval (.Name l z) X.env)]:=by rfl):
  ME X (.Call (.Name "isinstance" p) [a,.Tuple [.Name c q,.Name l z] kt pt] [] P) (Lp (k6 [f,y]) m):=by
 have d1:=g.dbg _ (u_ _ (aM hi));have d:=g.dbg c (u_ _ (aM hj));have d':=g.dbg l (u_ _ (aM E));have C:cG X (.builtin "isinstance") (λxs H Q=>∃O L,xs=[O,.ref L]/\SqT X.K H L [.ty f,.ty y]/\uJ X (k6 [f,y]) O H Q):=by
  intro Lz s Z H xs us Q B r ⟨O,L,e,ay,U,h,x,R,rx,q⟩;subst e
  cases r with
  |cons r1 t1=>cases t1 with
   |cons r2 t2 =>
    cases t2;cases r2;obtain⟨a5,rv,ht,_⟩:=B.tuple ay;have ei:a5=[.type f,.type y]:=by
     cases rv with
     |cons v1 w1=>cases w1 with
      |cons v2 w2 =>
       cases w2;rw[show _=Value.type f from v1,show _=Value.type y from v2]
    subst ei;obtain⟨⟨oc,od,a7,a8⟩,ho,a0,nn,S⟩:=ht;subst a0;subst S;unfold k6 at q
    cases et:Dt h x with
    |none=>rw[et]at q;exact q.elim
    |some t =>
     rw[et]at q;obtain⟨M,ar,Hq,Za,hz⟩:=vH B R rx r1 et;have F:PySem.W.kitAny X.K (.type t) [.type f,.type y]=J (cW t f||cW t y):=by
      unfold PySem.W.kitAny;rw[hT X.K t M]
      cases cW t f with
      |true=>rfl
      |false =>
       unfold PySem.W.kitAny;rw[an X.K t M];cases cW t y<;>rfl
     exact PySem.W.kia_tup Za B.kIn hz ho F ar λtk=>⟨.bl _,H,B.tok _,rfl,by
      have z:=q U H _ (Le.refl _ _) R (.bl _)
      simpa using z⟩
 refine PE.imp (n8 C (g.gl _ (aM hi)) hm PyProof.Rows.Boot.«isinstance» (eO ha (eO (y7 (eO (pW (v:=.ty f) (u:=.type f) (g.gl c (aM hj)) hc hv rfl d.2.2 d.1) (eO (pW (v:=.ty y) (u:=.type y) (g.gl l (aM E)) ai a1 rfl d'.2.2 d'.1) ld a3) as)) ld a4) he) d1.2.2 d1.1 he ax) λZ H Q ⟨U,al,h,rs,R,q⟩=>?_;refine⟨U,al,h,rs,R,Ful.bind q λU1 H1 x O h1 _ l1 a2 rx q1=>?_⟩;refine⟨by show 2<=sizeLine;decide,λL ap=>?_⟩;obtain⟨a6,l2⟩:=a2.tup ap [.ty f,.ty y];exact⟨O,L,rfl,SqT.of bW,U1,h1,x,a6,rx.le l2,(Ful.le l2 q1).zero⟩
def LY(i:TA):TE:=λZ H Q=>i Z H λf a=>∃j:Int,f=[.int j] /\ -(2^62)<=j/\j<2^62/\∀p,a p=Y->Q (.ref p) (mf a p (.rng 0 j))
def yQ(u:Gl X "range")(z:X.mg "range"=Y)(F:PA X [a] ta)(B:starEach [a] X.env=[(T,eval a X.env)]:=by rfl):PE X (.Call (.Name "range" p) [a] [] pos) (LY ta):=by
 intro C s Z H R f h;refine Call_ (gq f u z boot_range (PyProof.Rows.callWith_type1 (kx (F pos C s Z H _ f h) λP L ⟨O,M,i,y,l⟩=>?_) B rfl));obtain⟨j,e,l,Q,q⟩:=l;subst e
 cases y with
 |cons r E =>
  cases E;obtain⟨t,rfl⟩:=r;refine call_range_1 ⟨.ref L.heap.objs.size,_,i.laid (λb o e=>lR _ e) (i_ _) ?_,rfl,q _ (i.hok.fresh (i_ _))⟩;exact⟨_,_,_,w_ _ rfl⟩
def oA:∀(n:Nat)(lo:Int)(a:TW),a.length=n->(∀(i:Nat)(v:Value),a[i]?=J v->∃t,v=.int (lo+i) t)->aG ((List.range n).map λi=>V.int (lo+(i:Nat))) a
 |0,lo,a,f,_=>by cases a with|nil=>exact .nil|cons _ _=>simp at f
 |n+1,lo,a,f,h=>by
  cases a with
  |nil=>simp at f
  |cons u a =>
   rw[RF,nc,q7];obtain⟨t,e⟩:=h 0 u rfl;refine .cons ⟨t,e⟩ ?_;have j:=oA n (lo+1) a (by simpa using f) λi v hv=>by
    obtain⟨t,e⟩:=h (i+1) v (by simpa using hv);exact⟨t,by rw[e];congr 1;push_cast;ext⟩
   have e2:((λi=>V.int (lo+((i:Nat):Int)))∘Nat.succ)=λi=>V.int (lo+1+((i:Nat):Int)):=by funext i;simp only[Function.comp];congr 1;push_cast;ext
   rw[e2];exact j
def rS(L:X.calm=I):cG X (.type "list") (λxs H Q=>∃r j,xs=[.ref r]/\H r=J (.rng 0 j) /\ -(2^62)<=j/\j<2^62/\j.toNat<=sizeLine/\∀l,H l=Y->Q (.ref l) (mf H l (.lst ((List.range j.toNat).map λi=>V.int (0+(i:Nat)))))):=by
 intro Lz s Z H xs us Q a r ⟨M,j,e,F,C,O,z,q⟩;subst e
 cases r with
 |cons B S =>
  cases S;cases B;obtain⟨t,u,v,P⟩:=(a.hok M _ F);refine call_list_range (a.ok.hd L) P (small_one (by ext) (by ext) C O) (by rw[rangeSize_one];split<;>ext) z λU tk f R kp e y=>?_;have E:=oA _ 0 _ (by exact y.1) λi v hv=>by
   obtain⟨t,e⟩:=y.2 i v (by rw[<-BJ];exact hv)
   grind
  refine⟨.ref s.heap.objs.size,_,a.laid (o:=.lst _) kp (i_ _) (⟨by simpa using z,f.toList,R,E,by simpa using e⟩),rfl,q _ (a.hok.fresh (i_ _))⟩
def S2(m:Mx (TL)):Mx PV:=λZ h=>(m Z h).bind λf a=>match f with
 |[.int j]=>if -(2^62)<=j/\j<2^62/\j.toNat<=sizeLine then .ok (.loc a.length) (a++[.lst (aW 0 j.toNat)])else .bad
 |_=>.bad
def qK{K:hH}{U:TV}{H:Hp}{lo:Int}:∀(l:TR),RPs K U H (l.map λ(i:Nat)=>PV.int (lo+(i:Int))) (l.map λ(i:Nat)=>V.int (lo+(i:Int)))
 |[]=>.nil
 |i::l=>.cons (.int _) (qK l)
def Ad(g:Good X N W G k){a:Expr}{m:Mx (TL)}{i j:Nat}{p C F f:Pos}(P:G[i]?=J "list")(hm:X.mg "list"=Y)(hj:G[j]?=J "range")(M:X.mg "range"=Y)(ha:MA X [a] m)(hs:starEach [a] X.env=[(T,eval a X.env)]:=by rfl)(S:starEach [.Call (.Name "range" C) [a] [] f] X.env=[(T,eval (.Call (.Name "range" C) [a] [] f) X.env)]:=by rfl):ME X (.Call (.Name "list" p) [.Call (.Name "range" C) [a] [] f] [] F) (S2 m):=by
 have d:=g.dbg _ (u_ _ (aM P));refine PE.imp (rn (rS g.calm) (g.gl _ (aM P)) hm PyProof.Rows.Boot.«list» (eO (yQ (g.gl _ (aM hj)) M ha hs) ld S) d.2.2 d.1 S rfl) λZ H Q ⟨U,E,h,rs,rh,q⟩=>?_;refine⟨U,E,h,rs,rh,Ful.bind q λU1 H1 x x' h1 _ l1 B rx u=>?_⟩
 cases rx with
 |nil=>exact u.elim
 |cons R t1 =>
  cases t1 with
  |cons _ _=>cases R<;>exact u.elim
  |nil =>
   cases R with
   |int y =>
    dsimp only at u;by_cases z:-(2^62)<=y/\y<2^62/\y.toNat<=sizeLine
    .rw[b_ z]at u;refine⟨y,rfl,z.1,z.2.1,λr hr=>?_⟩;obtain⟨L,l2⟩:=B.loose hr (.rng 0 y);refine⟨r,y,rfl,bW,z.1,z.2.1,z.2.2,λl hl=>?_⟩;obtain⟨O,l3⟩:=L.new hl (o:=.lst (aW 0 y.toNat)) ⟨_,rfl,qK _⟩;exact u _ _ _ (l2.trans l3) O (.loc (by rw[<-B.len];simp))
    .rw[e_ z]at u;exact u.elim
   |_=>exact u.elim
end
end MM
namespace SetT
open PySem.SetTable
def base(M:Nat)(h:Int):Nat->Nat×Nat
 |0=>(bits h % (M+1),bits h)
 |b+1=>leap M (base M h b).1 (base M h b).2
section
variable{prog:Program}{w:World}{A:Around}{E:TF}{s:Shared}
abbrev TK(prog:Program)(w:World)(h:Heap)(k:TN)(a:Addr):Prop:=IsTupleKey (intKind prog w) h k a
end
end SetT
namespace SetT
open PySem.SetTable PyProof.Rows
section
variable{prog:Program}{w:World}{A:Around}{E:TF}{s:Shared}
def Ext(a h:Heap):Prop:=∀b o,a.get? b=J o->h.get? b=J o
def yc(x:Ext H0 h)(t:TK prog w H0 k a):TK prog w h k a:=by obtain⟨o,items,n,f,r⟩:=t;exact⟨o,items,n,x a o f,r⟩
def DF(prog:Program)(w:World)(j:Heap)(items:Array Value)(f:TQ):Prop :=
 items.size=f.length/\∀(i:Nat)(v:Value)(k:TN),items[i]?=J v->f[i]?=J k->∃a,v=.ref a/\TK prog w j k a
end
section
variable{prog:Program}{w:World}{A:Around}{E:TF}{s:Shared}{S it:Addr}{o:Obj}{es:Array (Int × Value)}{ep:Nat}{t:SetTable}{ks:TQ}
end
section
variable{prog:Program}{w:World}{A:Around}{E:TF}{s:Shared}{S:Addr}{o:Obj}{es:Array (Int × Value)}{ep:Nat}{t:SetTable}
end
end SetT
namespace SortT
open PyProof.Rows
structure wO(prog:Program)(w:World)(A:Around)(E:TF)(s:Shared)(kd:SortKind)(O:KeyOrd) where
 key:Keyed->O.α
 dflt:O.α
 good:Keyed->Prop
 ask:∀(x y:Keyed)(st:SortSt)(Q:Option Bool->SortSt->Prop),good x->good y->kindOf st=kd->Q (J (O.blt (key x) (key y))) st->wpS (model prog w) A E s (lt' x y) Q st
section
variable{prog:Program}{w:World}{A:Around}{E:TF}{s:Shared}{kd:SortKind}{O:KeyOrd}(C:wO prog w A E s kd O)
def kk(xs:Array Keyed)(i:Nat):O.α:=match xs[i]? with
 |some p=>C.key p
 |none=>C.dflt
def vu(xs:Array Keyed)(lo a:Nat):Prop:=∀i j,lo<=i->i<=j->j<a->O.kle (kk C xs i) (kk C xs j)
def J6(xs:Array Keyed)(lo a:Nat):Prop:=∀i j,lo<=i->i<=j->j<a->O.kle (kk C xs j) (kk C xs i)
def cH(xs:Array Keyed):Prop:=∀p,p∈xs.toList->C.good p
structure SB(kd:SortKind)(a₀:Array Keyed)(st:SortSt):Prop where
 perm:(arrOf st).Perm a₀
 kind:kindOf st=kd
 failed:failedOf st=Y
def cI(lo:Nat)(xs ys:Array Keyed):Prop:=∀i,i<lo->ys[i]?=xs[i]?
def cI.rfl'{lo:Nat}{xs:Array Keyed}:cI lo xs xs:=λ_ _=>rfl
def cI.trans{lo:Nat}{xs ys f:Array Keyed}(h:cI lo xs ys)(g:cI lo ys f):cI lo xs f:=λi a=>(g i a).trans (h i a)
variable{C}{a₀:Array Keyed}{st:SortSt}
def SB.size(h:SB kd a₀ st):(arrOf st).size=a₀.size:=h.perm.size_eq
def SB.arr(h:SB kd a₀ st)(a:xs.Perm (arrOf st)):SB kd a₀ (setArr st xs):=⟨a.trans h.perm,h.kind,h.failed⟩
def SB.good(h:SB kd a₀ st)(f:cH C a₀):cH C (arrOf st):=λp a=>f p ((ON.mp h.perm).mem_iff.mp a)
def eJ(h:xs[i]?=ys[j]?):kk C xs i=kk C ys j:=by unfold kk;rw[h]
def aP(h:xs[i]?=J p):kk C xs i=C.key p:=by unfold kk;rw[h]
def bu{xs:Array Keyed}(g:cH C xs){i:Nat}{p:Keyed}(h:xs[i]?=J p):C.good p:=by refine g p (B6.mpr ⟨i,?_⟩);rw[BJ];exact h
def aS(a:i<xs.size)(h:∀p,xs[i]?=J p->Q p st):wpS (model prog w) A E s (elem' xs i) Q st:=by rw[elem'_eq];have e:=getElem?_pos xs i a;rw[e];exact wpS_pure (h _ e)
def lN{i j:Nat}{Q:Option Bool->SortSt->Prop}(a:SB kd a₀ st)(u:cH C a₀)(z:i<a₀.size)(B:j<a₀.size)(h:Q (J (O.blt (kk C (arrOf st) i) (kk C (arrOf st) j))) st):wpS (model prog w) A E s (ltAt' i j) Q st:=by
 refine wpS_bind (wpS_get ?_);refine wpS_bind (aS (by rw[a.size];exact z) λx f=>wpS_bind (aS (by rw[a.size];exact B) λy l=>?_));rw[aP f,aP l]at h;exact C.ask x y st Q (bu (a.good u) f) (bu (a.good u) l) a.kind h
def qI(j:src<xs.size)(hd:d<=src)(i:Nat):
  kk C (bubble xs src d) i=if i=src-d then kk C xs src else if src-d<i/\i<=src then kk C xs (i-1)else kk C xs i:=by
 have e:=getElem?_bubble j d hd i;split
 .next a=>rw[b_ a]at e;exact eJ e
 .next a =>
  rw[e_ a]at e;split
  .next f=>rw[b_ f]at e;exact eJ e
  .next f=>rw[e_ f]at e;exact eJ e
def lx(f:j<=xs.size)(q:Nat):
  kk C (mirror xs i j ((j-i)/2)) q=if i<=q/\q<j then kk C xs (i+j-1-q)else kk C xs q:=by
 have e:=getElem?_mirror_all (i:=i) f q;split
 .next a=>rw[b_ a]at e;exact eJ e
 .next a=>rw[e_ a]at e;exact eJ e
def dD(f:j<=xs.size)(a:∀q,i<=q->q<j->kk C xs q=kk C xs (j-1))(q:Nat):
  kk C (mirror xs i j ((j-i)/2)) q=kk C xs q:=by
 rw[lx f];split
 .next h=>rw[a (i+j-1-q) ⋯ ⋯,a q h.1 h.2]
 .rfl
def fV{xs:Array Keyed}{lo i j:Nat}(a:j<=xs.size)(h:lo<=i):cI lo xs (mirror xs i j ((j-i)/2)):=λq f=>by
 rw[getElem?_mirror_all a,e_ ⋯]
def uN{xs:Array Keyed}{lo a d:Nat}(f:a<xs.size)(hd:d<=a)(h:lo<=a-d):cI lo xs (bubble xs a d):=λq i=>by
 rw[getElem?_bubble f d hd,e_ ⋯,e_ ⋯]
abbrev AS:=Option (Option Nat)×Nat
abbrev DS:=Option (Option Nat)×Nat×Nat
def lB(p a f:Nat):StateT SortSt Sem AS :=
 forIn [a:f] ((Y,a):AS) λ_ c=>do
  let q <-ltAt' (p+c.2) (p+c.2-1)
  match q with
  |some z=>if z=I then pure (ForInStep.done (Y,c.2))else pure (ForInStep.yield (Y,c.2+1))
  |_=>pure (ForInStep.done (J Y,c.2))
def HD(p n a:Nat):StateT SortSt Sem (Option Nat):=do
 reverseSlice' p (p+n)
 let c <-lB p n a
 match c.1 with
 |some r=>pure r
 |none=>pure (J c.2)
def DG(p n a:Nat):StateT SortSt Sem DS :=
 forIn [n:a] ((Y,n,0):DS) λ_ c=>do
  let q <-ltAt' (p+c.2.1) (p+c.2.1-1)
  match q with
  |some z =>
   if z=I then
    if c.2.2>0 then do
     reverseSlice' (p+c.2.1-(c.2.2+1)) (p+c.2.1)
     pure (ForInStep.yield (Y,c.2.1+1,0))
    else pure (ForInStep.yield (Y,c.2.1+1,0))
   else do
    let q <-ltAt' (p+c.2.1-1) (p+c.2.1)
    match q with
    |some z=>if z=I then pure (ForInStep.done (Y,c.2.1,c.2.2))else pure (ForInStep.yield (Y,c.2.1+1,c.2.2+1))
    |_=>pure (ForInStep.done (J Y,c.2.1,c.2.2))
  |_=>pure (ForInStep.done (J Y,c.2.1,c.2.2))
def HE(p n a:Nat):StateT SortSt Sem (Option Nat):=do
 liftM (rule "list.sort.descending-run")
 let c <-DG p (n+1) a
 match c.1 with
 |some r=>pure r
 |none =>
  if c.2.2>0 then do
   reverseSlice' (p+c.2.1-(c.2.2+1)) (p+c.2.1)
   HD p c.2.1 a
  else HD p c.2.1 a
def HG(p a:Nat):countRun' p a=(do
  let c <-lB p 1 a
  match c.1 with
  |some r=>pure r
  |none =>
   if(c.2==a)=I then pure (J c.2)
   else if c.2>1 then do
    let q <-ltAt' p (p+c.2-1)
    match q with
    |some z=>if z=I then pure (J c.2)else do
      reverseSlice' p (p+c.2)
      HE p c.2 a
    |_=>pure Y
   else HE p c.2 a):=by
 refine congrArg (λg=>lB p 1 a >>= g) (funext λc=>?_);obtain⟨r,n⟩:=c
 cases r with
 |some r=>rfl
 |none =>
  dsimp only;split
  .rfl
  .split
   .congr 1;funext x
    cases x with
    |none=>rfl
    |some z =>
     dsimp only;split
     .rfl
     .refine congrArg _ (funext λ_=>?_);refine congrArg _ (funext λ_=>?_);refine congrArg (λg=>DG p (n+1) a >>= g) (funext λy=>?_);obtain⟨j,l,B⟩:=y
      cases j with
      |some j=>rfl
      |none =>
       dsimp only;split
       .refine congrArg _ (funext λ_=>?_);refine congrArg _ (funext λ_=>?_);refine congrArg (λg=>lB p l a >>= g) (funext λi=>?_);obtain⟨f,u⟩:=i;cases f<;>rfl
       .refine congrArg _ (funext λ_=>?_);refine congrArg (λg=>lB p l a >>= g) (funext λi=>?_);obtain⟨f,u⟩:=i;cases f<;>rfl
   .refine congrArg _ (funext λ_=>?_);refine congrArg (λg=>DG p (n+1) a >>= g) (funext λy=>?_);obtain⟨j,l,B⟩:=y
    cases j with
    |some j=>rfl
    |none =>
     dsimp only;split
     .refine congrArg _ (funext λ_=>?_);refine congrArg _ (funext λ_=>?_);refine congrArg (λg=>lB p l a >>= g) (funext λi=>?_);obtain⟨f,u⟩:=i;cases f<;>rfl
     .refine congrArg _ (funext λ_=>?_);refine congrArg (λg=>lB p l a >>= g) (funext λi=>?_);obtain⟨f,u⟩:=i;cases f<;>rfl
def vt(H:cH C a₀)(W:p+nrem<=a₀.size)(U:1<=a)(P:a<=nrem)(G:SB kd a₀ st)(M:vu C (arrOf st) p (p+a))(h:∀n,a<=n->n<=nrem->vu C (arrOf st) p (p+n)->(n=nrem\/O.klt (kk C (arrOf st) (p+n)) (kk C (arrOf st) (p+n-1)))->Q (Y,n) st):
  wpS (model prog w) A E s (lB p a nrem) Q st:=by
 refine wpS_forRange (I:=λx c f=>f=st/\c=(Y,x)/\vu C (arrOf st) p (p+x)) ?_ ?_ ⟨rfl,rfl,M⟩
 .rintro x c f L S ⟨rfl,rfl,z⟩;refine wpS_bind (lN G H ⋯ ⋯ ?_)
  cases F:O.blt (kk C (arrOf f) (p+x)) (kk C (arrOf f) (p+x-1)) with
  |true=>exact wpS_pure (h x L ⋯ z (.inr F))
  |false =>
   refine wpS_pure ⟨rfl,rfl,λi j B l R=>?_⟩;by_cases u:j<p+x
   .exact z i j B l u
   .have e:j=p+x:=by lia
    subst e;by_cases y:i=p+x
    .subst y;exact KeyOrd.kle_refl _
    .exact KeyOrd.kle_trans (z i (p+x-1) B ⋯ ⋯) F
 .simp_all
def mz(h:Q () (setArr st (mirror (arrOf st) i j ((j-i)/2)))):wpS (model prog w) A E s (reverseSlice' i j) Q st:=by exact wpS_modify h
def v8(F:cH C a₀)(M:p+nrem<=a₀.size)(G:1<=n)(u:n<=nrem)(y:SB kd a₀ st)(H:J6 C (arrOf st) p (p+n))(h:∀m a,SB kd a₀ a->cI p (arrOf st) (arrOf a)->pendingOf a=pendingOf st->1<=m->m<=nrem->vu C (arrOf a) p (p+m)->Q (J m) a):
  wpS (model prog w) A E s (HD p n nrem) Q st:=by
 have f:p+n<=(arrOf st).size:=by rw[y.size];lia
 refine wpS_bind (mz ?_);have l:=y.arr (mirror_perm (arrOf st) p (p+n) ((p+n-p)/2));refine wpS_bind (vt F M G u l (λi j P B R=>?_) λm S L z _=>wpS_pure (h m _ l (fV f (i_ _)) rfl ⋯ L z));rw[lx f,lx f,b_ ⋯,b_ ⋯];exact H _ _ ⋯ ⋯ ⋯
def DH{p n l:Nat}{Q:DS->SortSt->Prop}(h0:cH C a₀)(hn:p+l<=a₀.size)(h1:1<=n)(P:n<=l)(hB:SB kd a₀ st)(hs:J6 C (arrOf st) p (p+n))(h:∀m q f,SB kd a₀ f->cI p (arrOf st) (arrOf f)->pendingOf f=pendingOf st->n<=m->m<=l->J6 C (arrOf f) p (p+m)->q+1<=m ->
   (∀i,p+m-(q+1)<=i->i<p+m->kk C (arrOf f) i=kk C (arrOf f) (p+m-1))->Q (Y,m,q) f):
  wpS (model prog w) A E s (DG p n l) Q st:=by
 refine wpS_forRange (I:=λx c f=>∃q,c=(Y,x,q)/\SB kd a₀ f/\cI p (arrOf st) (arrOf f)/\pendingOf f=pendingOf st/\J6 C (arrOf f) p (p+x)/\q+1<=x /\
   ∀i,p+x-(q+1)<=i->i<p+x->kk C (arrOf f) i=kk C (arrOf f) (p+x-1)) ?_ ?_ ⟨0,rfl,hB,cI.rfl',rfl,hs,⋯,λi a b=>by congr 1;lia⟩
 .rintro x c f al an ⟨q,rfl,u,y,z,hf,M,F⟩;have L:p+x<=(arrOf f).size:=by rw[u.size];lia
  have B:∀xs:Array Keyed,(∀i,kk C xs i=kk C (arrOf f) i)->O.kle (kk C (arrOf f) (p+x)) (kk C (arrOf f) (p+x-1))->J6 C xs p (p+(x+1)):=by
   intro xs hk R i j hi S hj;rw[hk,hk];by_cases X:j<p+x
   .exact hf i j hi S X
   .have e:j=p+x:=by lia
    subst e;by_cases ai:i=p+x
    .subst ai;exact KeyOrd.kle_refl _
    .exact KeyOrd.kle_trans R (hf i (p+x-1) hi ⋯ ⋯)
  dsimp only;refine wpS_bind (lN u h0 ⋯ ⋯ ?_)
  cases Z:O.blt (kk C (arrOf f) (p+x)) (kk C (arrOf f) (p+x-1)) with
  |true =>
   dsimp only;rw[b_ rfl];by_cases G:q>0
   .rw[b_ G];refine wpS_bind (mz (wpS_pure ⟨0,rfl,u.arr (mirror_perm _ _ _ _),y.trans (fV L ⋯),z,B _ (dD L F) (KeyOrd.kle_of_klt Z),⋯,λi a b=>by congr 1;lia⟩))
   .rw[e_ G];exact wpS_pure ⟨0,rfl,u,y,z,B _ (λ_=>rfl) (KeyOrd.kle_of_klt Z),⋯,λi a b=>by congr 1;lia⟩
  |false =>
   dsimp only;rw[e_ (by simp)];refine wpS_bind (lN u h0 ⋯ ⋯ ?_)
   cases H:O.blt (kk C (arrOf f) (p+x-1)) (kk C (arrOf f) (p+x)) with
   |true =>
    dsimp only;rw[b_ rfl];exact wpS_pure (h x q f u y z al ⋯ hf M F)
   |false =>
    dsimp only;rw[e_ (by simp)];have U:kk C (arrOf f) (p+x)=kk C (arrOf f) (p+x-1):=KeyOrd.kle_antisymm H Z;refine wpS_pure ⟨q+1,rfl,u,y,z,B _ (λ_=>rfl) H,⋯,λi a b=>?_⟩;have e1:p+(x+1)-1=p+x:=by lia
    rw[e1];by_cases W:i=p+x
    .subst W;rfl
    .rw[U];exact F i ⋯ ⋯
 .rintro c f ⟨q,rfl,u,y,z,hf,M,F⟩;have e:max n l=l:=by lia
  rw[e]at hf M F ⊢;exact h l q f u y z P (i_ _) hf M F
def t9{p n f:Nat}{Q:Option Nat->SortSt->Prop}(M:cH C a₀)(W:p+f<=a₀.size)(H:n+1<=f)(hB:SB kd a₀ st)(hs:J6 C (arrOf st) p (p+(n+1)))(h:∀m a,SB kd a₀ a->cI p (arrOf st) (arrOf a)->pendingOf a=pendingOf st->1<=m->m<=f->vu C (arrOf a) p (p+m)->Q (J m) a):
  wpS (model prog w) A E s (HE p n f) Q st:=by
 refine wpS_bind (wpS_lift (wpAny_rule ⟨rfl,?_⟩));refine wpS_bind (DH M W ⋯ H hB hs λm q a l B F ai G hf hq X=>?_);dsimp only;have y:p+m<=(arrOf a).size:=by rw[l.size];lia
 by_cases z:q>0
 .rw[b_ z];refine wpS_bind (mz (v8 M W ⋯ G (l.arr (mirror_perm _ _ _ _)) ?_ λR u P S U=>h R u P ((B.trans (fV y ⋯)).trans S) (U.trans F)));intro i j Z L hj;rw[dD y X,dD y X];exact hf i j Z L hj
 .rw[e_ z];exact v8 M W ⋯ G l hf λR u P S U=>h R u P (B.trans S) (U.trans F)
def vS(M:cH C a₀)(X:p+nrem<=a₀.size)(h1:1<=nrem)(y:SB kd a₀ st)(h:∀m f,SB kd a₀ f->cI p (arrOf st) (arrOf f)->pendingOf f=pendingOf st->1<=m->m<=nrem->vu C (arrOf f) p (p+m)->Q (J m) f):
  wpS (model prog w) A E s (countRun' p nrem) Q st:=by
 rw[HG];refine wpS_bind (vt M X (i_ 1) h1 y (λi j L F Z=>by have e:i=j:=⋯;subst e;exact KeyOrd.kle_refl _) λn a1 a2 l R=>?_);by_cases u:n=nrem
 .rw[b_ (by simpa using u)];exact wpS_pure (h n st y cI.rfl' rfl a1 a2 l)
 .rw[e_ (by simpa using u)];have G:=R.resolve_left u;by_cases H:n>1
  .rw[b_ H];refine wpS_bind (lN y M ⋯ ⋯ ?_)
   cases hz:O.blt (kk C (arrOf st) p) (kk C (arrOf st) (p+n-1)) with
   |true =>
    dsimp only;exact wpS_pure (h n st y cI.rfl' rfl a1 a2 l)
   |false =>
    dsimp only;have B:p+n<=(arrOf st).size:=by rw[y.size];lia
    have a:∀q,p<=q->q<p+n->kk C (arrOf st) q=kk C (arrOf st) (p+n-1):=λq P S =>
     KeyOrd.kle_antisymm (l q (p+n-1) P ⋯ ⋯) (KeyOrd.kle_trans hz (l p q (i_ _) P S))
    refine wpS_bind (mz (t9 M X ⋯ (y.arr (mirror_perm _ _ _ _)) ?_ λm2 U P S b3=>h m2 U P ((fV B (i_ _)).trans S) b3));intro i j L F Z;rw[dD B a,dD B a];by_cases W:j<p+n
    .rw[a i L ⋯,a j ⋯ W];exact KeyOrd.kle_refl _
    .have e:j=p+n:=by lia
     subst e;by_cases z:i=p+n
     .subst z;exact KeyOrd.kle_refl _
     .rw[a i L ⋯];exact KeyOrd.kle_of_klt G
  .rw[e_ H];have e:n=1:=by lia
   subst e;refine t9 M X ⋯ y ?_ h;intro i j L F Z;by_cases z:i=j
   .subst z;exact KeyOrd.kle_refl _
   .have e1:i=p:=by lia
    have e2:j=p+1:=by lia
    subst e1;subst e2;exact KeyOrd.kle_of_klt G
end
section
variable{prog:Program}{w:World}{A:Around}{E:TF}{s:Shared}{kd:SortKind}{O:KeyOrd}{C:wO prog w A E s kd O}{a₀:Array Keyed}{st:SortSt}
def vK(h0:cH C a₀)(hn:p+n<=a₀.size)(hok:ok<=n)(hB:SB kd a₀ st)(hs:vu C (arrOf st) p (p+ok))(h:∀f,SB kd a₀ f->cI p (arrOf st) (arrOf f)->pendingOf f=pendingOf st->vu C (arrOf f) p (p+n)->Q I f):wpS (model prog w) A E s (binarySort' p n ok) Q st:=by
 rw[binarySort'_eq]
 refine wpS_bind (wpS_mono (wpS_forRange (I:=λk c f=>c=(Y,())/\SB kd a₀ f/\cI p (arrOf st) (arrOf f)/\pendingOf f=pendingOf st/\vu C (arrOf f) p (p+min k n))
  (Q:=λc f=>c=(Y,())/\SB kd a₀ f/\cI p (arrOf st) (arrOf f)/\pendingOf f=pendingOf st/\vu C (arrOf f) p (p+n)) ?_ ?_ ?_) ?_)
 .rintro k c f an al ⟨rfl,z,G,H,y⟩;have X:min k n=k:=by lia
  rw[X]at y
  refine wpS_bind (wpS_mono (wpS_forRange (I:=λx c u=>u=f/\∃l r,c=(Y,l,r)/\l<=r/\r<=k/\r-l<=k-x /\
    (∀i,p<=i->i<p+l->O.kle (kk C (arrOf f) i) (kk C (arrOf f) (p+k)))/\∀i,p+r<=i->i<p+k->O.klt (kk C (arrOf f) (p+k)) (kk C (arrOf f) i))
   (Q:=λc u=>u=f/\∃l r,c=(Y,l,r)/\l<=k /\
    (∀i,p<=i->i<p+l->O.kle (kk C (arrOf f) i) (kk C (arrOf f) (p+k)))/\∀i,p+l<=i->i<p+k->O.klt (kk C (arrOf f) (p+k)) (kk C (arrOf f) i)) ?_ ?_ ?_) ?_)
  .rintro x c u _ hx ⟨rfl,l,r,rfl,S,M,hm,F,B⟩;by_cases R:l>=r
   .rw[b_ R];have e:l=r:=by lia
    subst e;exact wpS_pure ⟨rfl,l,l,rfl,M,F,B⟩
   .rw[e_ R];refine wpS_bind (lN z h0 ⋯ ⋯ ?_)
    cases W:O.blt (kk C (arrOf u) (p+k)) (kk C (arrOf u) (p+(l+r)/2)) with
    |true =>
     simp only[if_true];exact wpS_pure ⟨rfl,l,(l+r)/2,rfl,⋯,⋯,⋯,F,λi a b=>KeyOrd.klt_of_klt_of_kle W (y _ _ ⋯ a b)⟩
    |false =>
     simp only[n7,if_false];exact wpS_pure ⟨rfl,(l+r)/2+1,r,rfl,⋯,⋯,⋯,λi a b=>KeyOrd.kle_trans (y i (p+(l+r)/2) a ⋯ ⋯) W,B⟩
  .rintro c u ⟨rfl,l,r,rfl,S,M,hm,F,B⟩;have e:l=r:=by lia
   subst e;exact⟨rfl,l,l,rfl,M,F,B⟩
  .exact⟨rfl,0,k,rfl,⋯,⋯,⋯,λi a b=>by lia,λi a b=>by lia⟩
  .rintro c u ⟨rfl,l,r,rfl,ai,F,B⟩;dsimp only;rw[moveDown'_eq];have L:p+k<(arrOf u).size:=by rw[z.size];lia
   have ed:p+k-(p+l)=k-l:=by lia
   rw[ed];refine wpS_bind (wpS_modify (wpS_pure ⟨rfl,z.arr (bubble_perm _ _ _),G.trans (uN L ⋯ ⋯),H,?_⟩));have e1:min (k+1) n=k+1:=by lia
   rw[e1];intro i j U P hj;show O.kle (kk C (bubble (arrOf u) (p+k) (k-l)) i) (kk C (bubble (arrOf u) (p+k) (k-l)) j);have e2:p+k-(k-l)=p+l:=by lia
   rw[qI L ⋯,qI L ⋯,e2]
   repeat' split
   all_goals first
    |(exfalso;lia)
    |exact KeyOrd.kle_refl _
    |exact F _ ⋯ ⋯
    |exact KeyOrd.kle_of_klt (B _ ⋯ ⋯)
    |exact y _ _ ⋯ ⋯ ⋯
 .rintro c f ⟨Z,z,G,H,y⟩;refine⟨Z,z,G,H,?_⟩;have e:min (max (max ok 1) n) n=n:=by lia
  rwa [e]at y
 .refine⟨rfl,hB,cI.rfl',rfl,λi j U P hj=>?_⟩;by_cases h1:ok=0
  .have e:i=j:=by lia
   subst e;exact KeyOrd.kle_refl _
  .exact hs i j U P ⋯
 .rintro c f ⟨rfl,z,G,H,y⟩;exact wpS_pure (h f z G H y)
def gallop':Bool->Keyed->Array Keyed->Nat->Nat->Nat->StateT SortSt Sem (Option Nat):=sortPriv% PySem.Builtin.gallop
def pJ(left:Bool)(key:Keyed)(arr:Array Keyed)(base i:Nat):StateT SortSt Sem (Option Bool):=do
 let x <-elem' arr (base+i)
 if left then lt' x key else return (<-lt' key x).map (!·)
def wP(left:Bool)(key:Keyed)(arr:Array Keyed)(base n a:Nat):gallop' left key arr base n a=(do
  let mut la:=0
  let mut of:=1
  let mut lo:=0
  let mut hi:=0
  let J rt <-pJ left key arr base a|return Y
  if rt then
   let f:=n-a
   for _ in [0:n] do
    if of>=f then break
    let J q <-pJ left key arr base (a+of)|return Y
    if !q then break
    la:=of
    of:=2*of+1
   lo:=a+la+1
   hi:=a+min of f
  else
   let f:=a+1
   for _ in [0:n] do
    if of>=f then break
    let J q <-pJ left key arr base (a-of)|return Y
    if q then break
    la:=of
    of:=2*of+1
   lo:=a+1-min of f
   hi:=a-la
  for _ in [0:n] do
   if lo>=hi then break
   let m:=lo+(hi-lo)/2
   let J q <-pJ left key arr base m|return Y
   if q then lo:=m+1 else hi:=m
  return J hi):=rfl
def io(C:wO prog w A E s kd O)(left:Bool)(key:Keyed)(arr:Array Keyed)(i:Nat):Bool:=if left then O.blt (kk C arr i) (C.key key)else !O.blt (C.key key) (kk C arr i)
def mP(l:kindOf st=kd)(j:cH C arr)(a:C.good key)(u:base+i<arr.size)(h:Q (J (io C left key arr (base+i))) st):wpS (model prog w) A E s (pJ left key arr base i) Q st:=by
 refine wpS_bind (aS u λx f=>?_);unfold io at h;rw[aP f]at h
 cases left with
 |true =>
  exact C.ask x key st Q (bu j f) a l h
 |false =>
  exact wpS_bind (C.ask key x st _ a (bu j f) l (wpS_pure h))
def LZ(left:Bool)(key:Keyed)(arr:Array Keyed)(base n lo a:Nat):StateT SortSt Sem DS :=
 forIn [:n] ((Y,lo,a):DS) λ_ c =>
  if c.2.1>=c.2.2 then pure (ForInStep.done (Y,c.2.1,c.2.2))
  else do
   let q <-pJ left key arr base (c.2.1+(c.2.2-c.2.1)/2)
   match q with
   |some q=>if q=I then pure (ForInStep.yield (Y,c.2.1+(c.2.2-c.2.1)/2+1,c.2.2))else pure (ForInStep.yield (Y,c.2.1,c.2.1+(c.2.2-c.2.1)/2))
   |_=>pure (ForInStep.done (J Y,c.2.1,c.2.2))
section
variable{left:Bool}{key:Keyed}{arr:Array Keyed}{base n:Nat}
def gX(y:base+n<=arr.size)(l:vu C arr base (base+n)):∀i j,i<=j->j<n->io C left key arr (base+j)=I->io C left key arr (base+i)=I:=by
 intro i j f u;have a:=l (base+i) (base+j) ⋯ ⋯ ⋯;unfold io
 cases left with
 |true=>exact λq=>KeyOrd.klt_of_kle_of_klt a q
 |false =>
  simp only[n7,if_false,Kx];exact λq=>KeyOrd.kle_trans a q
def jT(z:base+n<=arr.size)(y:vu C arr base (base+n)):∀i j,i<=j->j<n->io C left key arr (base+i)=T->io C left key arr (base+j)=T:=by
 intro i j a u l
 cases f:io C left key arr (base+j) with
 |false=>rfl
 |true=>rw[gX z y i j a u f]at l;cases l
def sG{lo hi:Nat}{Q:DS->SortSt->Prop}(W:kindOf st=kd)(R:cH C arr)(u:C.good key)(P:base+n<=arr.size)(M:vu C arr base (base+n))(H:lo<=hi)(F:hi<=n)(U:∀i,i<lo->io C left key arr (base+i)=I)(X:∀i,hi<=i->i<n->io C left key arr (base+i)=T)(h:∀k,k<=n->(∀i,i<k->io C left key arr (base+i)=I)->(∀i,k<=i->i<n->io C left key arr (base+i)=T)->Q (Y,k,k) st):
  wpS (model prog w) A E s (LZ left key arr base n lo hi) Q st:=by
 refine wpS_forRange (I:=λx c j=>j=st/\∃l r,c=(Y,l,r)/\l<=r/\r<=n/\r-l<=n-x/\(∀i,i<l->io C left key arr (base+i)=I)/\∀i,r<=i->i<n->io C left key arr (base+i)=T)
  ?_ ?_ ⟨rfl,lo,hi,rfl,H,F,⋯,U,X⟩
 .rintro x c j _ Z ⟨rfl,l,r,rfl,G,f,S,B,z⟩;by_cases y:l>=r
  .rw[b_ y];have e:l=r:=by lia
   subst e;exact wpS_pure (h l f B z)
  .rw[e_ y];refine wpS_bind (mP W R u ⋯ ?_)
   cases L:io C left key arr (base+(l+(r-l)/2)) with
   |true =>
    simp only[if_true];exact wpS_pure ⟨rfl,_,_,rfl,⋯,⋯,⋯,λi hi=>gX P M i (l+(r-l)/2) ⋯ ⋯ L,z⟩
   |false =>
    simp only[n7,if_false];exact wpS_pure ⟨rfl,_,_,rfl,⋯,⋯,⋯,B,λi a b=>jT P M (l+(r-l)/2) i a b L⟩
 .rintro c j ⟨rfl,l,r,rfl,G,f,S,B,z⟩;have e:l=r:=by lia
  subst e;exact h l f B z
def dW{f:Nat}{Q:Option Nat->SortSt->Prop}(P:kindOf st=kd)(M:cH C arr)(u:C.good key)(L:base+n<=arr.size)(hh:f<n)(H:vu C arr base (base+n))(h:∀k,k<=n->(∀i,i<k->io C left key arr (base+i)=I)->(∀i,k<=i->i<n->io C left key arr (base+i)=T)->Q (J k) st):
  wpS (model prog w) A E s (gallop' left key arr base n f) Q st:=by
 rw[wP];refine wpS_bind (mP P M u ⋯ ?_)
 cases W:io C left key arr (base+f) with
 |true =>
  refine wpS_bind (wpS_mono (wpS_forRange (I:=λx c l=>l=st/\∃j of,c=(Y,j,of)/\j<of/\x+1<=of/\f+j<n/\io C left key arr (base+(f+j))=I)
   (Q:=λc l=>l=st/\∃j of,c=(Y,j,of)/\j<of/\f+j<n/\io C left key arr (base+(f+j))=I/\(n-f<=of\/of<n-f/\io C left key arr (base+(f+of))=T)) ?_ ?_
    ⟨rfl,0,1,rfl,⋯,⋯,hh,W⟩) ?_)
  .rintro x c l _ Z ⟨rfl,j,of,rfl,F,S,B,z⟩;dsimp only;by_cases y:of>=n-f
   .rw[b_ y];exact wpS_pure ⟨rfl,j,of,rfl,F,B,z,.inl y⟩
   .rw[e_ y];refine wpS_bind (mP P M u ⋯ ?_)
    cases R:io C left key arr (base+(f+of)) with
    |true =>
     simp only[AA,n7,if_false];exact wpS_pure ⟨rfl,_,_,rfl,⋯,⋯,⋯,R⟩
    |false =>
     simp only[NY,if_true];exact wpS_pure ⟨rfl,j,of,rfl,F,B,z,.inr ⟨⋯,R⟩⟩
  .rintro c l ⟨rfl,j,of,rfl,F,S,B,z⟩;exact⟨rfl,j,of,rfl,F,B,z,.inl ⋯⟩
  .rintro c l ⟨rfl,j,of,rfl,F,B,z,G⟩;dsimp only;refine wpS_bind (sG (lo:=f+j+1) (hi:=f+min of (n-f)) P M u L H ⋯ ⋯ (λi X=>gX L H i (f+j) ⋯ B z) (λi a b=>?_) λk a b c=>wpS_pure (h k a b c));rcases G with G|⟨G,U⟩
   .lia
   .exact jT L H (f+of) i ⋯ b U
 |false =>
  simp only[n7,if_false]
  refine wpS_bind (wpS_mono (wpS_forRange (I:=λx c l=>l=st/\∃j of,c=(Y,j,of)/\j<of/\x+1<=of/\j<=f/\io C left key arr (base+(f-j))=T)
   (Q:=λc l=>l=st/\∃j of,c=(Y,j,of)/\j<of/\j<=f/\io C left key arr (base+(f-j))=T/\(f+1<=of\/of<f+1/\io C left key arr (base+(f-of))=I)) ?_ ?_
    ⟨rfl,0,1,rfl,⋯,⋯,⋯,W⟩) ?_)
  .rintro x c l _ Z ⟨rfl,j,of,rfl,F,S,B,z⟩;dsimp only;by_cases y:of>=f+1
   .rw[b_ y];exact wpS_pure ⟨rfl,j,of,rfl,F,B,z,.inl y⟩
   .rw[e_ y];refine wpS_bind (mP P M u ⋯ ?_)
    cases R:io C left key arr (base+(f-of)) with
    |true =>
     simp only[if_true];exact wpS_pure ⟨rfl,j,of,rfl,F,B,z,.inr ⟨⋯,R⟩⟩
    |false =>
     simp only[n7,if_false];exact wpS_pure ⟨rfl,_,_,rfl,⋯,⋯,⋯,R⟩
  .rintro c l ⟨rfl,j,of,rfl,F,S,B,z⟩;exact⟨rfl,j,of,rfl,F,B,z,.inl ⋯⟩
  .rintro c l ⟨rfl,j,of,rfl,F,B,z,G⟩;dsimp only;refine wpS_bind (sG (lo:=f+1-min of (f+1)) (hi:=f-j) P M u L H ⋯ ⋯ (λi X=>?_) (λi a b=>jT L H (f-j) i a b z) λk a b c=>wpS_pure (h k a b c));rcases G with G|⟨G,U⟩
   .lia
   .exact gX L H i (f-of) ⋯ ⋯ U
end
end
def nJ:Array Keyed->Array Keyed->StateT SortSt Sem (Array Keyed):=sortPriv% PySem.Builtin.mergeLo
def DI:Nat->StateT SortSt Sem Unit:=sortPriv% PySem.Builtin.setMinGallop
section
variable{prog:Program}{w:World}{A:Around}{E:TF}{s:Shared}{kd:SortKind}{O:KeyOrd}(C:wO prog w A E s kd O)
def LS(l:List Keyed):Prop:=l.Pairwise λx y=>O.kle (C.key x) (C.key y)
def LB(l m:List Keyed):Prop:=∀x∈l,∀y∈m,O.kle (C.key x) (C.key y)
variable{C}
def cj(a:LS C l)(f:LS C m)(i:LB C l m):LS C (l++m):=by unfold LS;rw[NM];exact⟨a,f,i⟩
def pd{xs:Array Keyed}{lo hi:Nat}(l:hi<=xs.size)(h:vu C xs lo hi):LS C (xs.extract lo hi).toList:=by
 unfold LS;rw[F1];intro i j f a u;have z:(xs.extract lo hi).size=hi-lo:=by simp;lia
 have y:j<(xs.extract lo hi).size:=by exact a
 have e1:(xs.extract lo hi).toList[i]=xs[lo+i]'⋯:=by simp
 have e2:(xs.extract lo hi).toList[j]=xs[lo+j]'⋯:=by simp
 rw[e1,e2]
 have:=h (lo+i) (lo+j) ⋯ ⋯ ⋯
 rw[aP (getElem?_pos xs (lo+i) ⋯),aP (getElem?_pos xs (lo+j) ⋯)]at this;exact this
def lK(h:LS C xs.toList):vu C xs 0 xs.size:=by
 intro i j _ f a;rw[aP (getElem?_pos xs i ⋯),aP (getElem?_pos xs j a)];by_cases e:i=j
 .subst e;exact KeyOrd.kle_refl _
 .unfold LS at h;rw[F1]at h
  have:=h i j (by simp;lia) (by simpa using a) ⋯
  simpa using this
structure MI(C:wO prog w A E s kd O)(a b ou:Array Keyed)(i j:Nat):Prop where
 perm:(ou.toList++(a.toList.drop i++b.toList.drop j)).Perm (a.toList++b.toList)
 srt:LS C ou.toList
 low:LB C ou.toList (a.toList.drop i++b.toList.drop j)
variable{a b ou:Array Keyed}{i j:Nat}
def MI.size(m:MI C a b ou i j)(l:i<=a.size)(f:j<=b.size):ou.size+(a.size-i)+(b.size-j)=a.size+b.size:=by
 have:=m.perm.length_eq
 simp at this;lia
def jA{xs:Array Keyed}{i:Nat}{p:Keyed}(h:xs[i]?=J p):xs.toList.drop i=p::xs.toList.drop (i+1):=by
 have f:i<xs.toList.length:=by
  have:=(Kj.mp h).1
  simpa using this
 have e:xs.toList[i]=p:=by
  have:=(Kj.mp h).2
  simpa using this
 rw[<-e,List.getElem_cons_drop f]
def jk{xs:Array Keyed}(h:LS C xs.toList)(i:Nat):LS C (xs.toList.drop i):=h.sublist (F7 i _)
def jF{xs:Array Keyed}(h:LS C xs.toList){i:Nat}{p:Keyed}(u:xs[i]?=J p):∀y∈xs.toList.drop i,O.kle (C.key p) (C.key y):=by
 have f:=jk h i;rw[jA u]at f ⊢;unfold LS at f;rw[Cf]at f;intro y l;rcases mx.mp l with rfl|l
 .exact KeyOrd.kle_refl _
 .exact f.1 y l
def MI.pushA(m:MI C a b ou i j)(L:LS C a.toList)(H:LS C b.toList){p:Keyed}(F:a[i]?=J p)(G:∀q,b[j]?=J q->O.kle (C.key p) (C.key q)):MI C a b (ou.push p) (i+1) j:=by
 have hd:=jA F;have B:∀y∈a.toList.drop i++b.toList.drop j,O.kle (C.key p) (C.key y):=by
  intro y f;rcases wj.mp f with f|f
  .exact jF L F y f
  .cases u:b[j]? with
   |none =>
    have:b.toList.drop j=[]:=Kk (by have:=Rw.mp u;simpa using this)
    rw[this]at f;cases f
   |some q=>exact KeyOrd.kle_trans (G q u) (jF H u y f)
 refine⟨?_,?_,?_⟩
 .have:=m.perm
  rw[hd]at this;rw[Ff,CZ];exact this
 .rw[Ff];refine cj m.srt (by unfold LS;simp) λx l y f=>?_
  have:y=p:=by simpa using f
  subst this;exact m.low x l y (Bs _ (by rw[hd];exact x_))
 .intro x l y f;rw[Ff]at l;have z:y∈a.toList.drop i++b.toList.drop j:=by
   simp_all
  rcases wj.mp l with l|l
  .exact m.low x l y z
  .have:x=p:=by simpa using l
   subst this;exact B y z
def MI.pushB(m:MI C a b ou i j)(L:LS C a.toList)(H:LS C b.toList){p:Keyed}(F:b[j]?=J p)(G:∀q,a[i]?=J q->O.kle (C.key p) (C.key q)):MI C a b (ou.push p) i (j+1):=by
 have hd:=jA F;have B:∀y∈a.toList.drop i++b.toList.drop j,O.kle (C.key p) (C.key y):=by
  intro y f;rcases wj.mp f with f|f
  .cases u:a[i]? with
   |none =>
    have:a.toList.drop i=[]:=Kk (by have:=Rw.mp u;simpa using this)
    rw[this]at f;cases f
   |some q=>exact KeyOrd.kle_trans (G q u) (jF L u y f)
  .exact jF H F y f
 refine⟨?_,?_,?_⟩
 .have:=m.perm
  rw[hd]at this;rw[Ff,CZ];refine List.Perm.trans (List.Perm.append_left _ ?_) this;show(p::(a.toList.drop i++b.toList.drop (j+1))).Perm _;exact O5.symm
 .rw[Ff];refine cj m.srt (by unfold LS;simp) λx l y f=>?_
  have:y=p:=by simpa using f
  subst this;exact m.low x l y (u_ _ (by rw[hd];exact x_))
 .intro x l y f;rw[Ff]at l;have z:y∈a.toList.drop i++b.toList.drop j:=by
   rcases wj.mp f with f|f
   .exact Bs _ f
   .exact u_ _ (by rw[hd];exact l7 _ f)
  rcases wj.mp l with l|l
  .exact m.low x l y z
  .have:x=p:=by simpa using l
   subst this;exact B y z
def lJ{xs:Array Keyed}{i k:Nat}{p:Keyed}(h:xs[i+k]?=J p):xs.extract i (i+(k+1))=(xs.extract i (i+k)).push p:=by
 apply C1.mp;simp only[NN,Ff,OP];have e1:i+(k+1)-i=k+1:=by lia
 have e2:i+k-i=k:=by lia
 rw[e1,e2,Pk,OY,BJ,h];rfl
def MI.moveA(m:MI C a b ou i j)(y:LS C a.toList)(F:LS C b.toList):∀k,i+k<=a.size->(∀r p q,r<k->a[i+r]?=J p->b[j]?=J q->O.kle (C.key p) (C.key q))->MI C a b (ou++a.extract i (i+k)) (i+k) j:=by
 intro k
 induction k with
 |zero =>
  intro _ _;have e:ou++a.extract i (i+0)=ou:=by apply C1.mp;simp
  rw[e];exact m
 |succ k B =>
  intro G u;have f:=getElem?_pos a (i+k) ⋯;have z:=(B ⋯ λr p q H=>u r p q ⋯).pushA y F f (λq l=>u k _ q ⋯ f l);have e:ou++(a.extract i (i+k)).push (a[i+k]'⋯)=(ou++a.extract i (i+k)).push (a[i+k]'⋯):=by simp
  rw[lJ f,e];exact z
def MI.moveB(m:MI C a b ou i j)(y:LS C a.toList)(F:LS C b.toList):∀k,j+k<=b.size->(∀r p q,r<k->b[j+r]?=J p->a[i]?=J q->O.kle (C.key p) (C.key q))->MI C a b (ou++b.extract j (j+k)) i (j+k):=by
 intro k
 induction k with
 |zero =>
  intro _ _;have e:ou++b.extract j (j+0)=ou:=by apply C1.mp;simp
  rw[e];exact m
 |succ k B =>
  intro G u;have f:=getElem?_pos b (j+k) ⋯;have z:=(B ⋯ λr p q H=>u r p q ⋯).pushB y F f (λq l=>u k _ q ⋯ f l);have e:ou++(b.extract j (j+k)).push (b[j+k]'⋯)=(ou++b.extract j (j+k)).push (b[j+k]'⋯):=by simp
  rw[lJ f,e];exact z
def MR(C:wO prog w A E s kd O)(a b f:Array Keyed):Prop:=f.toList.Perm (a.toList++b.toList)/\LS C f.toList
def iI{xs:Array Keyed}{i:Nat}:(xs.extract i xs.size).toList=xs.toList.drop i:=by rw[NN];exact CV (by simp)
def MI.all(m:MI C a b ou i j)(f:LS C a.toList)(l:LS C b.toList)(h:a.size<=i\/b.size<=j):MR C a b (ou++a.extract i a.size++b.extract j b.size):=by
 have e:(ou++a.extract i a.size++b.extract j b.size).toList=ou.toList++(a.toList.drop i++b.toList.drop j):=by rw[F3,F3,iI,iI,CZ]
 unfold MR;rw[e];refine⟨m.perm,cj m.srt ?_ m.low⟩;rcases h with h|h
 .have:a.toList.drop i=[]:=Kk (by simpa using h)
  rw[this];exact jk l j
 .have:b.toList.drop j=[]:=Kk (by simpa using h)
  rw[this,JZ];exact jk f i
def MI.one(m:MI C a b ou i j)(B:LS C a.toList)(F:LS C b.toList)(h:i+1=a.size)(G:∀x q,x∈b.toList->a[i]?=J q->O.kle (C.key x) (C.key q)):MR C a b (ou++b.extract j b.size++a.extract i a.size):=by
 have e:(ou++b.extract j b.size++a.extract i a.size).toList=ou.toList++(b.toList.drop j++a.toList.drop i):=by rw[F3,F3,iI,iI,CZ]
 unfold MR;rw[e];have z:=getElem?_pos a i ⋯;have hd:=jA z;have f:a.toList.drop (i+1)=[]:=Kk (by simp;lia);rw[f]at hd;refine⟨(List.Perm.append_left _ OV).trans m.perm,cj m.srt (cj (jk F j) (jk B i) ?_) ?_⟩
 .intro x u y l;rw[hd]at l
  have:y=a[i]'⋯:=by simpa using l
  subst this;exact G x _ (Ko u) z
 .intro x u y l;exact m.low x u y (wj.mpr (wj.mp l).symm)
end
structure Eqv(st st':SortSt):Prop where
 kind:kindOf st'=kindOf st
 arr:arrOf st'=arrOf st
 pend:pendingOf st'=pendingOf st
 failed:failedOf st'=failedOf st
def Eqv.rfl'{st:SortSt}:Eqv st st:=⟨rfl,rfl,rfl,rfl⟩
def Eqv.trans{st f a:SortSt}(x:Eqv st f)(y:Eqv f a):Eqv st a:=⟨y.kind.trans x.kind,y.arr.trans x.arr,y.pend.trans x.pend,y.failed.trans x.failed⟩
abbrev GS:=Option (Array Keyed)×Array Keyed×Nat×Nat×Nat×Nat×Nat
def HH(a b f:Array Keyed)(i j g na nb:Nat):StateT SortSt Sem (ForInStep GS):=do
 let x <-elem' a i
 if(i+1+1==a.size)=I then pure (ForInStep.done (J (f.push x++b.extract j b.size++a.extract (i+1) a.size),f.push x,i+1,j,g,na,nb))
 else if(decide (na<7)&&decide (nb<7))=I then pure (ForInStep.done (Y,f.push x,i+1,j,g,na,nb))
 else pure (ForInStep.yield (Y,f.push x,i+1,j,g,na,nb))
def HJ(a b f:Array Keyed)(i j g na nb:Nat):StateT SortSt Sem (ForInStep GS):=do
 let x <-elem' b j
 if(j+1==b.size)=I then pure (ForInStep.done (J (f.push x++a.extract i a.size++b.extract (j+1) b.size),f.push x,i,j+1,g,na,nb))
 else do
  let y <-elem' a i
  let q <-gallop' I y b (j+1) (b.size-(j+1)) 0
  match q with
  |some k =>
   if k>0 then
    if(j+1+k==b.size)=I then
     pure (ForInStep.done (J (f.push x++b.extract (j+1) (j+1+k)++a.extract i a.size++b.extract (j+1+k) b.size),f.push x++b.extract (j+1) (j+1+k),i,j+1+k,g,na,k))
    else HH a b (f.push x++b.extract (j+1) (j+1+k)) i (j+1+k) g na k
   else HH a b (f.push x) i (j+1) g na k
  |_=>pure (ForInStep.done (J (f.push x++a.extract i a.size++b.extract (j+1) b.size),f.push x,i,j+1,g,na,nb))
def DJ(a b f:Array Keyed)(i j g na nb:Nat):StateT SortSt Sem (ForInStep GS):=do
 DI g
 let x <-elem' b j
 let q <-gallop' T x a i (a.size-i) 0
 match q with
 |some k =>
  if k>0 then
   if(i+k+1==a.size)=I then
    pure (ForInStep.done (J (f++a.extract i (i+k)++b.extract j b.size++a.extract (i+k) a.size),f++a.extract i (i+k),i+k,j,g,k,nb))
   else if(i+k==a.size)=I then
    pure (ForInStep.done (J (f++a.extract i (i+k)++a.extract (i+k) a.size++b.extract j b.size),f++a.extract i (i+k),i+k,j,g,k,nb))
   else HJ a b (f++a.extract i (i+k)) (i+k) j g k nb
  else HJ a b f i j g k nb
 |_=>pure (ForInStep.done (J (f++a.extract i a.size++b.extract j b.size),f,i,j,g,na,nb))
abbrev J7:=Option (Array Keyed)×Array Keyed×Nat×Nat×Nat×Nat
abbrev LCt:=Option (Array Keyed)×Array Keyed×Nat×Nat×Nat
def Qk(a b:Array Keyed)(g:Nat)(c:J7):StateT SortSt Sem (ForInStep J7):=do
 let x <-elem' b c.2.2.2.1
 let y <-elem' a c.2.2.1
 let q <-lt' x y
 match q with
 |some q =>
  if q=I then do
   let z <-elem' b c.2.2.2.1
   if(c.2.2.2.1+1==b.size)=I then pure (ForInStep.done (J (c.2.1.push z++a.extract c.2.2.1 a.size++b.extract (c.2.2.2.1+1) b.size),c.2.1.push z,c.2.2.1,c.2.2.2.1+1,0,c.2.2.2.2.2+1))
   else if c.2.2.2.2.2+1>=g then pure (ForInStep.done (Y,c.2.1.push z,c.2.2.1,c.2.2.2.1+1,0,c.2.2.2.2.2+1))
   else pure (ForInStep.yield (Y,c.2.1.push z,c.2.2.1,c.2.2.2.1+1,0,c.2.2.2.2.2+1))
  else do
   let z <-elem' a c.2.2.1
   if(c.2.2.1+1+1==a.size)=I then pure (ForInStep.done (J (c.2.1.push z++b.extract c.2.2.2.1 b.size++a.extract (c.2.2.1+1) a.size),c.2.1.push z,c.2.2.1+1,c.2.2.2.1,c.2.2.2.2.1+1,0))
   else if c.2.2.2.2.1+1>=g then pure (ForInStep.done (Y,c.2.1.push z,c.2.2.1+1,c.2.2.2.1,c.2.2.2.2.1+1,0))
   else pure (ForInStep.yield (Y,c.2.1.push z,c.2.2.1+1,c.2.2.2.1,c.2.2.2.2.1+1,0))
 |_=>pure (ForInStep.done (J (c.2.1++a.extract c.2.2.1 a.size++b.extract c.2.2.2.1 b.size),c.2.1,c.2.2.1,c.2.2.2.1,c.2.2.2.2.1,c.2.2.2.2.2))
def Ql(a b:Array Keyed)(c:GS):StateT SortSt Sem (ForInStep GS) :=
 if c.2.2.2.2.1>1 then DJ a b c.2.1 c.2.2.1 c.2.2.2.1 (c.2.2.2.2.1-1) c.2.2.2.2.2.1 c.2.2.2.2.2.2
 else DJ a b c.2.1 c.2.2.1 c.2.2.2.1 c.2.2.2.2.1 c.2.2.2.2.2.1 c.2.2.2.2.2.2
def R3(c:GS):StateT SortSt Sem (ForInStep LCt) :=
 match c.1 with
 |some r=>pure (ForInStep.done (J r,c.2.1,c.2.2.1,c.2.2.2.1,c.2.2.2.2.1))
 |none=>do
  DI (c.2.2.2.2.1+1)
  pure (ForInStep.yield (Y,c.2.1,c.2.2.1,c.2.2.2.1,c.2.2.2.2.1+1))
def R4(a b:Array Keyed)(g:Nat)(c:J7):StateT SortSt Sem (ForInStep LCt) :=
 match c.1 with
 |some r=>pure (ForInStep.done (J r,c.2.1,c.2.2.1,c.2.2.2.1,g))
 |none=>do
  liftM (rule "list.sort.gallop")
  let e <-forIn [:a.size+b.size] ((Y,c.2.1,c.2.2.1,c.2.2.2.1,g+1,c.2.2.2.2.1,c.2.2.2.2.2):GS) λ_ e=>Ql a b e
  R3 e
def R5(a b:Array Keyed)(c:LCt):StateT SortSt Sem (ForInStep LCt):=do
 let d <-forIn [:a.size+b.size] ((Y,c.2.1,c.2.2.1,c.2.2.2.1,0,0):J7) λ_ d=>Qk a b c.2.2.2.2 d
 R4 a b c.2.2.2.2 d
def R6(a b:Array Keyed)(x:Keyed):StateT SortSt Sem (Array Keyed):=do
 let g <-get
 let r <-forIn [:a.size+b.size] ((Y,#[x],0,1,gallopOf g):LCt) λ_ c=>R5 a b c
 match r.1 with
 |some r=>pure r
 |none=>liftM (unsupported "internal:list.sort.merge-bound":Sem (Array Keyed))
def Qm(a b:Array Keyed):nJ a b=(do
 liftM (rule "list.sort.merge-lo")
 let x <-elem' b 0
 if(1==b.size)=I then pure (#[x]++a.extract 0 a.size++b.extract 1 b.size)
 else if(0+1==a.size)=I then pure (#[x]++b.extract 1 b.size++a.extract 0 a.size)
 else R6 a b x):=by
 refine congrArg (Bind.bind _) (funext λ_=>congrArg (Bind.bind _) (funext λx=>congrArg (λz=>ite _ _ (ite _ _ z)) ?_));have e:∀{α β:Type}{x y:StateT SortSt Sem α}{f h:α->StateT SortSt Sem β},x=y->(∀a,f a=h a)->(x >>= f)=(y >>= h):=λe f=>by rw[e,funext f]
 refine congrArg (Bind.bind _) (funext λg=>e (congrArg (forIn _ _) (funext λ_=>funext λc=>?_)) λ⟨r,_⟩=>by cases r<;>rfl);refine e rfl λd=>?_;obtain⟨i,j⟩:=d
 cases i with
 |some r=>rfl
 |none=>exact congrArg (Bind.bind _) (funext λ_=>e rfl λ⟨r,_⟩=>by cases r<;>rfl)
section
variable{prog:Program}{w:World}{A:Around}{E:TF}{s:Shared}{kd:SortKind}{O:KeyOrd}{C:wO prog w A E s kd O}{st:SortSt}{a b:Array Keyed}
structure AD(C:wO prog w A E s kd O)(a b:Array Keyed):Prop where
 ga:cH C a
 gb:cH C b
 sa:LS C a.toList
 sb:LS C b.toList
 na:1<=a.size
 nb:1<=b.size
 fst:∀p q,b[0]?=J p->a[0]?=J q->O.kle (C.key p) (C.key q)
 lst:∀x q,x∈b.toList->a[a.size-1]?=J q->O.kle (C.key x) (C.key q)
def LI(C:wO prog w A E s kd O)(a b:Array Keyed)(N:Nat)(c:GS):Prop:=c.1=Y/\MI C a b c.2.1 c.2.2.1 c.2.2.2.1/\c.2.2.1+1<a.size/\c.2.2.2.1<b.size/\N<=c.2.1.size
def k8(C:wO prog w A E s kd O)(a b:Array Keyed)(N:Nat)(st:SortSt)(r:ForInStep GS)(f:SortSt):Prop:=Eqv st f/\match r with
 |.done c=>(∃x,c.1=J x/\MR C a b x)\/LI C a b N c
 |.yield c=>LI C a b N c
def vY(f:AD C a b)(m:MI C a b ou i j)(P:i+1<a.size)(L:j<b.size)(hN:N<=ou.size)(u:∀p q,a[i]?=J p->b[j]?=J q->O.kle (C.key p) (C.key q)):
  wpS (model prog w) A E s (HH a b ou i j g na nb) (k8 C a b N st) st:=by
 refine wpS_bind (aS ⋯ λx B=>?_);have G:=m.pushA f.sa f.sb B (λq z=>u x q B z);have M:(ou.push x).size=ou.size+1:=Fi ..;by_cases l:i+1+1=a.size
 .rw[b_ (by simpa using l)];exact wpS_pure ⟨Eqv.rfl',.inl ⟨_,rfl,G.one f.sa f.sb l λy q H z=>f.lst y q H (by rw[<-l];exact z)⟩⟩
 .rw[e_ (by simpa using l)];have F:LI C a b N (Y,ou.push x,i+1,j,g,na,nb):=⟨rfl,G,⋯,L,⋯⟩;split
  .exact wpS_pure ⟨Eqv.rfl',.inr F⟩
  .exact wpS_pure ⟨Eqv.rfl',F⟩
def vz(f:AD C a b)(hk:kindOf st=kd)(m:MI C a b ou i j)(R:i+1<a.size)(Z:j<b.size)(hN:N<=ou.size)(H:∀p q,b[j]?=J p->a[i]?=J q->O.kle (C.key p) (C.key q)):
  wpS (model prog w) A E s (HJ a b ou i j g na nb) (k8 C a b N st) st:=by
 refine wpS_bind (aS Z λx S=>?_);have Q:=m.pushB f.sa f.sb S (λq l=>H x q S l);have an:(ou.push x).size=ou.size+1:=Fi ..;by_cases U:j+1=b.size
 .rw[b_ (by simpa using U)];exact wpS_pure ⟨Eqv.rfl',.inl ⟨_,rfl,Q.all f.sa f.sb (.inr ⋯)⟩⟩
 .rw[e_ (by simpa using U)];refine wpS_bind (aS ⋯ λy P=>?_);refine wpS_bind (dW (C:=C) hk f.gb (bu f.ga P) ⋯ ⋯ ?_ λk ai M L=>?_)
  .intro p q B G l;exact lK f.sb p q (wB _) G ⋯
  .have F:∀r p q,r<k->b[j+1+r]?=J p->a[i]?=J q->O.kle (C.key p) (C.key q):=λr p q hr B l=>by
    have:=M r hr
    unfold io at this;rw[aP B]at this;rw[P]at l;cases l;exact KeyOrd.kle_of_klt this
   have u:∀p q,a[i]?=J p->b[j+1+k]?=J q->O.kle (C.key p) (C.key q):=λp q B l=>by
    have al:=(Kj.mp l).1
    have:=L k (i_ _) ⋯
    unfold io at this;rw[aP l]at this;rw[P]at B;cases B;exact this
   dsimp only;by_cases z:k>0
   .rw[b_ z];have W:=Q.moveB f.sa f.sb k ⋯ F;by_cases X:j+1+k=b.size
    .rw[b_ (by simpa using X)];exact wpS_pure ⟨Eqv.rfl',.inl ⟨_,rfl,W.all f.sa f.sb (.inr ⋯)⟩⟩
    .rw[e_ (by simpa using X)];exact vY f W R ⋯ (by rw[Kw];lia) u
   .rw[e_ z];have e:k=0:=by lia
    subst e;exact vY f Q R ⋯ ⋯ u
def vP(f:AD C a b)(hk:kindOf st=kd)(m:MI C a b ou i j)(X:i+1<a.size)(M:j<b.size)(hN:N<=ou.size):
  wpS (model prog w) A E s (DJ a b ou i j g na nb) (k8 C a b N st) st:=by
 unfold DJ;refine wpS_bind (wpS_modify ?_);have Z:Eqv st (SortSt.mk' (kindOf st) (arrOf st) (pendingOf st) g (failedOf st)):=⟨rfl,rfl,rfl,rfl⟩;refine wpS_mono (Q:=k8 C a b N (SortSt.mk' (kindOf st) (arrOf st) (pendingOf st) g (failedOf st))) ?_ λr an h=>⟨Z.trans h.1,h.2⟩;have z:kindOf (SortSt.mk' (kindOf st) (arrOf st) (pendingOf st) g (failedOf st))=kd:=hk;refine wpS_bind (aS M λx P=>?_);refine wpS_bind (dW (C:=C) z f.ga (bu f.gb P) ⋯ ⋯ ?_ λk ai U R=>?_)
 .intro p q F L l;exact lK f.sa p q (wB _) L ⋯
 .have G:∀r p q,r<k->a[i+r]?=J p->b[j]?=J q->O.kle (C.key p) (C.key q):=λr p q hr F l=>by
   have:=U r hr
   unfold io at this;rw[aP F]at this;rw[P]at l;cases l;simp only[n7,if_false,Kx]at this;exact this
  have u:∀p q,b[j]?=J p->a[i+k]?=J q->O.kle (C.key p) (C.key q):=λp q F l=>by
   have al:=(Kj.mp l).1
   have:=R k (i_ _) ⋯
   unfold io at this;rw[aP l]at this;rw[P]at F;cases F;simp only[n7,if_false,OZ]at this;exact KeyOrd.kle_of_klt this
  dsimp only;by_cases B:k>0
  .rw[b_ B];have S:=m.moveA f.sa f.sb k ⋯ G;by_cases H:i+k+1=a.size
   .rw[b_ (by simpa using H)];exact wpS_pure ⟨Eqv.rfl',.inl ⟨_,rfl,S.one f.sa f.sb H λy q hy l=>f.lst y q hy (by rw[<-H];exact l)⟩⟩
   .rw[e_ (by simpa using H)];by_cases W:i+k=a.size
    .rw[b_ (by simpa using W)];exact wpS_pure ⟨Eqv.rfl',.inl ⟨_,rfl,S.all f.sa f.sb (.inl ⋯)⟩⟩
    .rw[e_ (by simpa using W)];exact vz f z S ⋯ M (by rw[Kw];lia) u
  .rw[e_ B];have e:k=0:=by lia
   subst e;exact vz f z m X M hN u
def L0(C:wO prog w A E s kd O)(a b:Array Keyed)(N:Nat)(c:J7):Prop:=c.1=Y/\MI C a b c.2.1 c.2.2.1 c.2.2.2.1/\c.2.2.1+1<a.size/\c.2.2.2.1<b.size/\N<=c.2.1.size
def Qn(C:wO prog w A E s kd O)(a b:Array Keyed)(N:Nat)(c:LCt):Prop:=c.1=Y/\MI C a b c.2.1 c.2.2.1 c.2.2.2.1/\c.2.2.1+1<a.size/\c.2.2.2.1<b.size/\N<=c.2.1.size
def Qo(C:wO prog w A E s kd O)(a b:Array Keyed)(N:Nat)(st:SortSt)(r:ForInStep J7)(f:SortSt):Prop:=match r with
 |.done c=>f=st/\((∃x,c.1=J x/\MR C a b x)\/L0 C a b N c)
 |.yield c=>f=st/\L0 C a b N c
def HK(C:wO prog w A E s kd O)(a b:Array Keyed)(N:Nat)(st:SortSt)(r:ForInStep LCt)(f:SortSt):Prop:=match r with
 |.done c=>Eqv st f/\∃x,c.1=J x/\MR C a b x
 |.yield c=>Eqv st f/\Qn C a b N c
def HL(f:AD C a b)(L:kindOf st=kd)(P:MI C a b ou' i' j')(G:i'+1<a.size)(u:j'<b.size)(hN:N<=ou'.size):
  wpS (model prog w) A E s (Qk a b g (Y,ou',i',j',na,nb)) (Qo C a b (N+1) st) st:=by
 unfold Qk;dsimp only;refine wpS_bind (aS u λp H=>wpS_bind (aS ⋯ λq F=>?_));refine wpS_bind (C.ask p q st _ (bu f.gb H) (bu f.ga F) L ?_)
 cases M:O.blt (C.key p) (C.key q) with
 |true =>
  dsimp only;refine wpS_bind (aS u λR j=>?_);rw[H]at j;cases j;have z:=P.pushB f.sa f.sb H (λQ l=>by rw[F]at l;cases l;exact KeyOrd.kle_of_klt M);have i:(ou'.push p).size=ou'.size+1:=Fi ..;by_cases B:j'+1=b.size
  .rw[b_ (by simpa using B)];exact wpS_pure ⟨rfl,.inl ⟨_,rfl,z.all f.sa f.sb (.inr ⋯)⟩⟩
  .rw[e_ (by simpa using B)];split
   .exact wpS_pure ⟨rfl,.inr ⟨rfl,z,G,⋯,by rw[i];lia⟩⟩
   .exact wpS_pure ⟨rfl,rfl,z,G,⋯,by rw[i];lia⟩
 |false =>
  dsimp only;refine wpS_bind (aS ⋯ λQ l=>?_);rw[F]at l;cases l;have z:=P.pushA f.sa f.sb F (λR j=>by rw[H]at j;cases j;exact M);have i:(ou'.push q).size=ou'.size+1:=Fi ..;by_cases B:i'+1+1=a.size
  .rw[b_ (by simpa using B)];exact wpS_pure ⟨rfl,.inl ⟨_,rfl,z.one f.sa f.sb B λy q S F=>f.lst y q S (by rw[<-B];exact F)⟩⟩
  .rw[e_ (by simpa using B)];split
   .exact wpS_pure ⟨rfl,.inr ⟨rfl,z,⋯,u,by rw[i];lia⟩⟩
   .exact wpS_pure ⟨rfl,rfl,z,⋯,u,by rw[i];lia⟩
def HM(j:Eqv Aq st)(f:(∃x,c.1=J x/\MR C a b x)\/LI C a b N c):wpS (model prog w) A E s (R3 c) (HK C a b N Aq) st:=by
 obtain⟨F,y,G,H,B,l,u⟩:=c;rcases f with⟨r,i,z⟩|⟨f,i⟩
 .cases i;exact wpS_pure ⟨j,r,rfl,z⟩
 .cases f;exact wpS_bind (wpS_modify (wpS_pure ⟨j.trans ⟨rfl,rfl,rfl,rfl⟩,rfl,i⟩))
def HN(j:AD C a b)(u:kindOf st=kd)(h:LI C a b N c):wpS (model prog w) A E s (Ql a b c) (k8 C a b N st) st:=by
 obtain⟨_,y,i,f,l⟩:=h;unfold Ql;split
 .exact vP j u y i f l
 .exact vP j u y i f l
def HP(z:AD C a b)(G:kindOf st=kd)(B:Eqv Aq st)(l:(∃x,c.1=J x/\MR C a b x)\/L0 C a b N c):wpS (model prog w) A E s (R4 a b g c) (HK C a b N Aq) st:=by
 obtain⟨W,F,S,R,na,nb⟩:=c;rcases l with⟨r,j,H⟩|⟨l,j⟩
 .cases j;exact wpS_pure ⟨B,r,rfl,H⟩
 .cases l;refine wpS_bind (wpS_lift (wpAny_rule ⟨rfl,?_⟩));refine wpS_bind (wpS_mono (wpS_forRange (I:=λy c i=>Eqv st i/\LI C a b N c) (Q:=λc i=>Eqv st i/\((∃x,c.1=J x/\MR C a b x)\/LI C a b N c)) ?_ ?_ ⟨Eqv.rfl',rfl,j⟩) ?_)
  .rintro y c i _ U ⟨f,P⟩;refine wpS_mono (HN z (f.kind.trans G) P) λr M j=>?_
   cases r with
   |done L=>exact⟨f.trans j.1,j.2⟩
   |yield L=>exact⟨f.trans j.1,j.2⟩
  .rintro c i ⟨f,u⟩;exact⟨f,.inr u⟩
  .rintro c i ⟨f,l⟩;exact HM (B.trans f) l
def HQ(i:AD C a b)(F:kindOf st=kd)(h:Qn C a b N c):wpS (model prog w) A E s (R5 a b c) (HK C a b (N+1) st) st:=by
 obtain⟨l,G⟩:=h
 refine wpS_bind (wpS_mono (wpS_forRange (I:=λy c f=>f=st/\L0 C a b (N+y) c)
  (Q:=λc f=>f=st/\((∃x,c.1=J x/\MR C a b x)\/L0 C a b (N+1) c)) ?_ ?_ ⟨rfl,rfl,G⟩) ?_)
 .rintro y c f _ R ⟨rfl,H⟩;obtain⟨l,P,z,B,j⟩:=H;refine wpS_mono (HL i F P z B j) λr M u=>?_
  cases r with
  |done L=>exact⟨u.1,u.2.imp_right λh=>⟨h.1,h.2.1,h.2.2.1,h.2.2.2.1,pf ⋯ h.2.2.2.2⟩⟩
  |yield L=>exact u
 .rintro c f ⟨rfl,h⟩;exact⟨rfl,.inr ⟨h.1,h.2.1,h.2.2.1,h.2.2.2.1,pf ⋯ h.2.2.2.2⟩⟩
 .rintro c f ⟨rfl,l⟩;exact HP i F Eqv.rfl' l
def HR(u:AD C a b)(B:kindOf st=kd)(y:MI C a b #[x0] 0 1)(L:0+1<a.size)(z:1<b.size)(h:∀x f,Eqv st f->MR C a b x->Q x f):wpS (model prog w) A E s (R6 a b x0) Q st:=by
 refine wpS_bind (wpS_get ?_)
 refine wpS_bind (wpS_mono (wpS_forRange (I:=λx c f=>Eqv st f/\Qn C a b (x+1) c)
  (Q:=λc f=>Eqv st f/\∃x,c.1=J x/\MR C a b x) ?_ ?_ ⟨Eqv.rfl',rfl,y,L,z,i_ _⟩) ?_)
 .rintro x c f _ M ⟨i,j⟩;refine wpS_mono (HQ u (i.kind.trans B) j) λr H l=>?_
  cases r with
  |done G=>exact⟨i.trans l.1,l.2⟩
  |yield G=>exact⟨i.trans l.1,l.2⟩
 .rintro c f ⟨i,j⟩;exfalso;have y:=j.2.2.1;have P:=j.2.2.2.1
  have:=j.2.1.size ⋯ ⋯
  have:=j.2.2.2.2
  lia
 .rintro c f ⟨i,r,l,F⟩;obtain⟨S,R⟩:=c;cases l;exact wpS_pure (h r f i F)
def HU(f:AD C a b)(G:kindOf st=kd)(h:∀x j,Eqv st j->MR C a b x->Q x j):wpS (model prog w) A E s (nJ a b) Q st:=by
 rw[Qm];refine wpS_bind (wpS_lift (wpAny_rule ⟨rfl,?_⟩));have R:=f.na;have M:=f.nb;refine wpS_bind (aS ⋯ λF i=>?_);have P:MI C a b #[] 0 0:=⟨by simp,by unfold LS;simp,λx H=>by simp at H⟩;have u:MI C a b #[F] 0 1:=by
  have:=P.pushB f.sa f.sb i (λq z=>f.fst F q i z)
  simpa using this
 by_cases B:1=b.size
 .rw[b_ (by simpa using B)]
  have:=u.all f.sa f.sb (.inr ⋯)
  exact wpS_pure (h _ st Eqv.rfl' (by simpa using this))
 .rw[e_ (by simpa using B)];by_cases l:0+1=a.size
  .rw[b_ (by simpa using l)]
   have:=u.one f.sa f.sb l λy q L z=>f.lst y q L (by rw[<-l];exact z)
   exact wpS_pure (h _ st Eqv.rfl' (by simpa using this))
  .rw[e_ (by simpa using l)];exact HR f G u ⋯ ⋯ h
end
def nR:Array Keyed->Array Keyed->StateT SortSt Sem (Array Keyed):=sortPriv% PySem.Builtin.mergeHi
section
variable{prog:Program}{w:World}{A:Around}{E:TF}{s:Shared}{kd:SortKind}{O:KeyOrd}{C:wO prog w A E s kd O}{a b ou:Array Keyed}{m n:Nat}{st:SortSt}
structure HI(C:wO prog w A E s kd O)(a b ou:Array Keyed)(m n:Nat):Prop where
 perm:(a.toList.take m++b.toList.take n++ou.toList.reverse).Perm (a.toList++b.toList)
 srt:LS C ou.toList.reverse
 hgh:LB C (a.toList.take m++b.toList.take n) ou.toList.reverse
def HI.size(h:HI C a b ou m n)(i:m<=a.size)(f:n<=b.size):ou.size+m+n=a.size+b.size:=by
 have:=h.perm.length_eq
 simp at this;lia
def mU{xs:Array Keyed}{i:Nat}{p:Keyed}(h:xs[i]?=J p):xs.toList.take (i+1)=xs.toList.take i++[p]:=by rw[Pk,BJ,h];rfl
def jK{xs:Array Keyed}(h:LS C xs.toList)(i:Nat):LS C (xs.toList.take i):=h.sublist (List.take_sublist i _)
def mS{xs:Array Keyed}(h:LS C xs.toList){i:Nat}{p:Keyed}(l:xs[i]?=J p):∀y∈xs.toList.take (i+1),O.kle (C.key y) (C.key p):=by
 have j:=jK h (i+1);rw[mU l]at j ⊢;unfold LS at j;rw[NM]at j;intro y f;rcases wj.mp f with f|f
 .exact j.2.2 y f p (by simp)
 .have:y=p:=by simpa using f
  subst this;exact KeyOrd.kle_refl _
def ii(p:Keyed):(ou.push p).toList.reverse=p::ou.toList.reverse:=by simp
def HI.pushA(h:HI C a b ou (m+1) n)(G:LS C a.toList)(F:LS C b.toList){p:Keyed}(u:a[m]?=J p)(H:1<=n)(z:n<=b.size)(B:∀q,b[n-1]?=J q->O.kle (C.key q) (C.key p)):HI C a b (ou.push p) m n:=by
 have hd:=mU u;obtain⟨q,j⟩:∃q,b[n-1]?=J q:=⟨_,getElem?_pos b (n-1) ⋯⟩;have l:∀y∈a.toList.take m++b.toList.take n,O.kle (C.key y) (C.key p):=by
  intro y f;rcases wj.mp f with f|f
  .exact mS G u y (by rw[hd];exact Bs _ f)
  .refine KeyOrd.kle_trans (mS F j y ?_) (B q j)
   have:n-1+1=n:=by lia
   rw[this];exact f
 refine⟨?_,?_,?_⟩
 .have:=h.perm
  rw[hd]at this;rw[ii];refine List.Perm.trans ?_ this;have e1:(a.toList.take m++b.toList.take n++p::ou.toList.reverse).Perm (p::(a.toList.take m++b.toList.take n++ou.toList.reverse)):=O5;have e2:(a.toList.take m++[p]++b.toList.take n++ou.toList.reverse).Perm (p::(a.toList.take m++b.toList.take n++ou.toList.reverse)):=by simp_all
  exact e1.trans e2.symm
 .rw[ii];unfold LS;rw[Cf];refine⟨λy f=>h.hgh p (Bs _ (by rw[hd];simp)) y f,h.srt⟩
 .rw[ii];intro x i y f;rcases mx.mp f with rfl|f
  .exact l x i
  .refine h.hgh x ?_ y f;rcases wj.mp i with i|i
   .exact Bs _ (by rw[hd];exact Bs _ i)
   .exact u_ _ i
def HI.pushB(h:HI C a b ou m (n+1))(G:LS C a.toList)(B:LS C b.toList){p:Keyed}(u:b[n]?=J p)(H:1<=m)(F:m<=a.size)(z:∀q,a[m-1]?=J q->O.kle (C.key q) (C.key p)):HI C a b (ou.push p) m n:=by
 have hd:=mU u;obtain⟨q,j⟩:∃q,a[m-1]?=J q:=⟨_,getElem?_pos a (m-1) ⋯⟩;have l:∀y∈a.toList.take m++b.toList.take n,O.kle (C.key y) (C.key p):=by
  intro y f;rcases wj.mp f with f|f
  .refine KeyOrd.kle_trans (mS G j y ?_) (z q j)
   have:m-1+1=m:=by lia
   rw[this];exact f
  .exact mS B u y (by rw[hd];exact Bs _ f)
 refine⟨?_,?_,?_⟩
 .have:=h.perm
  simp_all
 .rw[ii];unfold LS;rw[Cf];refine⟨λy f=>h.hgh p (u_ _ (by rw[hd];simp)) y f,h.srt⟩
 .rw[ii];intro x i y f;rcases mx.mp f with rfl|f
  .exact l x i
  .refine h.hgh x ?_ y f;rcases wj.mp i with i|i
   .exact Bs _ i
   .exact u_ _ (by rw[hd];exact Bs _ i)
def sX{xs:Array Keyed}{m k:Nat}{p:Keyed}(f:k<m)(i:m<=xs.size)(h:xs[m-(k+1)]?=J p):ou++(xs.extract (m-(k+1)) m).reverse=(ou++(xs.extract (m-k) m).reverse).push p:=by
 apply C1.mp;simp only[F3,Array.toList_reverse,Ff,NN,OP];have e1:m-(m-(k+1))=k+1:=by lia
 have e2:m-(m-k)=k:=by lia
 have e3:m-(k+1)+1=m-k:=by lia
 rw[e1,e2,jA h,e3];simp
def HI.moveA(h:HI C a b ou m n)(H:LS C a.toList)(F:LS C b.toList)(B:m<=a.size)(M:1<=n)(f:n<=b.size):∀k,k<=m->(∀r p q,m-k<=r->r<m->a[r]?=J p->b[n-1]?=J q->O.kle (C.key q) (C.key p)) ->
  HI C a b (ou++(a.extract (m-k) m).reverse) (m-k) n:=by
 intro k
 induction k with
 |zero =>
  intro _ _;have e:ou++(a.extract (m-0) m).reverse=ou:=by apply C1.mp;simp
  rw[e];exact h
 |succ k G =>
  intro P y;have i:a[m-(k+1)]?=J (a[m-(k+1)]'⋯):=getElem?_pos a _ ⋯;have u:=G ⋯ λr p q L l=>y r p q ⋯ l;have e:m-k=m-(k+1)+1:=by lia
  rw[sX ⋯ B i];rw[e]at u;have z:=u.pushA H F i M f (λq j=>y _ _ q (i_ _) ⋯ i j);rw[<-e]at z;exact z
def HI.moveB(h:HI C a b ou m n)(H:LS C a.toList)(F:LS C b.toList)(M:n<=b.size)(B:1<=m)(i:m<=a.size):∀k,k<=n->(∀r p q,n-k<=r->r<n->b[r]?=J p->a[m-1]?=J q->O.kle (C.key q) (C.key p)) ->
  HI C a b (ou++(b.extract (n-k) n).reverse) m (n-k):=by
 intro k
 induction k with
 |zero =>
  intro _ _;have e:ou++(b.extract (n-0) n).reverse=ou:=by apply C1.mp;simp
  rw[e];exact h
 |succ k G =>
  intro P y;have f:b[n-(k+1)]?=J (b[n-(k+1)]'⋯):=getElem?_pos b _ ⋯;have u:=G ⋯ λr p q L l=>y r p q ⋯ l;have e:n-k=n-(k+1)+1:=by lia
  rw[sX ⋯ M f];rw[e]at u;have z:=u.pushB H F f B i (λq j=>y _ _ q (i_ _) ⋯ f j);rw[<-e]at z;exact z
def nU{xs:Array Keyed}{i:Nat}:(xs.extract 0 i).toList=xs.toList.take i:=by rw[NN,OP];simp
def HI.all(h:HI C a b ou m n)(f:LS C a.toList)(j:LS C b.toList)(i:m=0\/n=0):MR C a b (a.extract 0 m++b.extract 0 n++ou.reverse):=by
 have e:(a.extract 0 m++b.extract 0 n++ou.reverse).toList=a.toList.take m++b.toList.take n++ou.toList.reverse:=by simp_all
 unfold MR;rw[e];refine⟨h.perm,cj ?_ h.srt h.hgh⟩;rcases i with rfl|rfl
 .simpa using jK j n
 .simpa using jK f m
def HI.one(h:HI C a b ou m n)(f:AD C a b)(F:n=1):MR C a b (b.extract 0 n++a.extract 0 m++ou.reverse):=by
 subst F;have e:(b.extract 0 1++a.extract 0 m++ou.reverse).toList=b.toList.take 1++a.toList.take m++ou.toList.reverse:=by rw[F3,F3,nU,nU,Array.toList_reverse]
 unfold MR;rw[e];have B:=f.nb;have G:=f.na;have z:=getElem?_pos b 0 ⋯;have u:=getElem?_pos a 0 ⋯;have hd:=mU z;refine⟨(List.Perm.append_right _ OV).trans h.perm,cj (cj (jK f.sb 1) (jK f.sa m) ?_) h.srt ?_⟩
 .intro x i y j;have l:x=b[0]'⋯:=by
   have:=i
   rw[hd]at this;simpa using this
  subst l;refine KeyOrd.kle_trans (f.fst _ _ z u) (jF f.sa u y ?_);exact List.mem_of_mem_take j
 .intro x i y j;exact h.hgh x (wj.mpr (wj.mp i).symm) y j
end
abbrev HS:=Option (Array Keyed)×Nat×Nat×Array Keyed×Nat×Nat×Nat
def HV(a b j:Array Keyed)(m n g i f:Nat):StateT SortSt Sem (ForInStep HS):=do
 let x <-elem' a (m-1)
 if(m-1==0)=I then pure (ForInStep.done (J (a.extract 0 (m-1)++b.extract 0 n++(j.push x).reverse),m-1,n,j.push x,g,i,f))
 else if(decide (i<7)&&decide (f<7))=I then pure (ForInStep.done (Y,m-1,n,j.push x,g,i,f))
 else pure (ForInStep.yield (Y,m-1,n,j.push x,g,i,f))
def HW(a b f:Array Keyed)(m n g i j:Nat):StateT SortSt Sem (ForInStep HS):=do
 let x <-elem' b (n-1)
 if(n-1==1)=I then pure (ForInStep.done (J (b.extract 0 (n-1)++a.extract 0 m++(f.push x).reverse),m,n-1,f.push x,g,i,j))
 else do
  let y <-elem' a (m-1)
  let q <-gallop' I y b 0 (n-1) (n-1-1)
  match q with
  |some z =>
   if n-1-z>0 then
    if(z==1)=I then
     pure (ForInStep.done (J (b.extract 0 z++a.extract 0 m++(f.push x++(b.extract z (n-1)).reverse).reverse),m,z,f.push x++(b.extract z (n-1)).reverse,g,i,n-1-z))
    else if(z==0)=I then
     pure (ForInStep.done (J (a.extract 0 m++b.extract 0 z++(f.push x++(b.extract z (n-1)).reverse).reverse),m,z,f.push x++(b.extract z (n-1)).reverse,g,i,n-1-z))
    else HV a b (f.push x++(b.extract z (n-1)).reverse) m z g i (n-1-z)
   else HV a b (f.push x) m (n-1) g i (n-1-z)
  |_=>pure (ForInStep.done (J (a.extract 0 m++b.extract 0 (n-1)++(f.push x).reverse),m,n-1,f.push x,g,i,j))
def DK(a b f:Array Keyed)(m n g j i:Nat):StateT SortSt Sem (ForInStep HS):=do
 DI g
 let x <-elem' b (n-1)
 let q <-gallop' T x a 0 m (m-1)
 match q with
 |some z =>
  if m-z>0 then
   if(z==0)=I then
    pure (ForInStep.done (J (a.extract 0 z++b.extract 0 n++(f++(a.extract z m).reverse).reverse),z,n,f++(a.extract z m).reverse,g,m-z,i))
   else HW a b (f++(a.extract z m).reverse) z n g (m-z) i
  else HW a b f m n g (m-z) i
 |_=>pure (ForInStep.done (J (a.extract 0 m++b.extract 0 n++f.reverse),m,n,f,g,j,i))
abbrev HB:=Option (Array Keyed)×Nat×Nat×Array Keyed×Nat×Nat
abbrev HC:=Option (Array Keyed)×Nat×Nat×Array Keyed×Nat
def Qp(a b:Array Keyed)(g:Nat)(c:HB):StateT SortSt Sem (ForInStep HB):=do
 let x <-elem' b (c.2.2.1-1)
 let y <-elem' a (c.2.1-1)
 let q <-lt' x y
 match q with
 |some q =>
  if q=I then do
   let z <-elem' a (c.2.1-1)
   if(c.2.1-1==0)=I then pure (ForInStep.done (J (a.extract 0 (c.2.1-1)++b.extract 0 c.2.2.1++(c.2.2.2.1.push z).reverse),c.2.1-1,c.2.2.1,c.2.2.2.1.push z,c.2.2.2.2.1+1,0))
   else if c.2.2.2.2.1+1>=g then pure (ForInStep.done (Y,c.2.1-1,c.2.2.1,c.2.2.2.1.push z,c.2.2.2.2.1+1,0))
   else pure (ForInStep.yield (Y,c.2.1-1,c.2.2.1,c.2.2.2.1.push z,c.2.2.2.2.1+1,0))
  else do
   let z <-elem' b (c.2.2.1-1)
   if(c.2.2.1-1==1)=I then pure (ForInStep.done (J (b.extract 0 (c.2.2.1-1)++a.extract 0 c.2.1++(c.2.2.2.1.push z).reverse),c.2.1,c.2.2.1-1,c.2.2.2.1.push z,0,c.2.2.2.2.2+1))
   else if c.2.2.2.2.2+1>=g then pure (ForInStep.done (Y,c.2.1,c.2.2.1-1,c.2.2.2.1.push z,0,c.2.2.2.2.2+1))
   else pure (ForInStep.yield (Y,c.2.1,c.2.2.1-1,c.2.2.2.1.push z,0,c.2.2.2.2.2+1))
 |_=>pure (ForInStep.done (J (a.extract 0 c.2.1++b.extract 0 c.2.2.1++c.2.2.2.1.reverse),c.2.1,c.2.2.1,c.2.2.2.1,c.2.2.2.2.1,c.2.2.2.2.2))
def Qq(a b:Array Keyed)(c:HS):StateT SortSt Sem (ForInStep HS) :=
 if c.2.2.2.2.1>1 then DK a b c.2.2.2.1 c.2.1 c.2.2.1 (c.2.2.2.2.1-1) c.2.2.2.2.2.1 c.2.2.2.2.2.2
 else DK a b c.2.2.2.1 c.2.1 c.2.2.1 c.2.2.2.2.1 c.2.2.2.2.2.1 c.2.2.2.2.2.2
def R7(c:HS):StateT SortSt Sem (ForInStep HC) :=
 match c.1 with
 |some r=>pure (ForInStep.done (J r,c.2.1,c.2.2.1,c.2.2.2.1,c.2.2.2.2.1))
 |none=>do
  DI (c.2.2.2.2.1+1)
  pure (ForInStep.yield (Y,c.2.1,c.2.2.1,c.2.2.2.1,c.2.2.2.2.1+1))
def R8(a b:Array Keyed)(g:Nat)(c:HB):StateT SortSt Sem (ForInStep HC) :=
 match c.1 with
 |some r=>pure (ForInStep.done (J r,c.2.1,c.2.2.1,c.2.2.2.1,g))
 |none=>do
  liftM (rule "list.sort.gallop")
  let e <-forIn [:a.size+b.size] ((Y,c.2.1,c.2.2.1,c.2.2.2.1,g+1,c.2.2.2.2.1,c.2.2.2.2.2):HS) λ_ e=>Qq a b e
  R7 e
def R9(a b:Array Keyed)(c:HC):StateT SortSt Sem (ForInStep HC):=do
 let d <-forIn [:a.size+b.size] ((Y,c.2.1,c.2.2.1,c.2.2.2.1,0,0):HB) λ_ d=>Qp a b c.2.2.2.2 d
 R8 a b c.2.2.2.2 d
def R_(a b:Array Keyed)(x:Keyed):StateT SortSt Sem (Array Keyed):=do
 let g <-get
 let r <-forIn [:a.size+b.size] ((Y,a.size-1,b.size,#[x],gallopOf g):HC) λ_ c=>R9 a b c
 match r.1 with
 |some r=>pure r
 |none=>liftM (unsupported "internal:list.sort.merge-bound":Sem (Array Keyed))
def Qr(a b:Array Keyed):nR a b=(do
 liftM (rule "list.sort.merge-hi")
 let x <-elem' a (a.size-1)
 if(a.size-1==0)=I then pure (a.extract 0 (a.size-1)++b.extract++#[x].reverse)
 else if(b.size==1)=I then pure (b.extract++a.extract 0 (a.size-1)++#[x].reverse)
 else R_ a b x):=by
 refine congrArg (Bind.bind _) (funext λ_=>congrArg (Bind.bind _) (funext λx=>congrArg (λz=>ite _ _ (ite _ _ z)) ?_));have e:∀{α β:Type}{x y:StateT SortSt Sem α}{f h:α->StateT SortSt Sem β},x=y->(∀a,f a=h a)->(x >>= f)=(y >>= h):=λe f=>by rw[e,funext f]
 refine congrArg (Bind.bind _) (funext λg=>e (congrArg (forIn _ _) (funext λ_=>funext λc=>?_)) λ⟨r,_⟩=>by cases r<;>rfl);refine e rfl λd=>?_;obtain⟨i,j⟩:=d
 cases i with
 |some r=>rfl
 |none=>exact congrArg (Bind.bind _) (funext λ_=>e rfl λ⟨r,_⟩=>by cases r<;>rfl)
section
variable{prog:Program}{w:World}{A:Around}{E:TF}{s:Shared}{kd:SortKind}{O:KeyOrd}{C:wO prog w A E s kd O}{st:SortSt}{a b:Array Keyed}
def HX(C:wO prog w A E s kd O)(a b:Array Keyed)(N:Nat)(c:HS):Prop :=
 c.1=Y/\HI C a b c.2.2.2.1 c.2.1 c.2.2.1/\1<=c.2.1/\c.2.1<=a.size/\2<=c.2.2.1/\c.2.2.1<=b.size/\N<=c.2.2.2.1.size
def pF(C:wO prog w A E s kd O)(a b:Array Keyed)(N:Nat)(st:SortSt)(r:ForInStep HS)(f:SortSt):Prop:=Eqv st f/\match r with
 |.done c=>(∃x,c.1=J x/\MR C a b x)\/HX C a b N c
 |.yield c=>HX C a b N c
def v9(f:AD C a b)(h:HI C a b ou m n)(L:1<=m)(F:m<=a.size)(G:2<=n)(i:n<=b.size)(hN:N<=ou.size)(j:∀p q,b[n-1]?=J p->a[m-1]?=J q->O.kle (C.key p) (C.key q)):wpS (model prog w) A E s (HV a b ou m n g ca cb) (pF C a b N st) st:=by
 refine wpS_bind (aS ⋯ λx y=>?_);have e:m=m-1+1:=by lia
 have z:HI C a b (ou.push x) (m-1) n:=by have l:=h;rw[e]at l;exact l.pushA f.sa f.sb y ⋯ i (λq B=>j q x B y)
 have H:(ou.push x).size=ou.size+1:=Fi ..;by_cases z1:m-1=0
 .rw[b_ (by simpa using z1)];exact wpS_pure ⟨Eqv.rfl',.inl ⟨_,rfl,z.all f.sa f.sb (.inl z1)⟩⟩
 .rw[e_ (by simpa using z1)];have u:HX C a b N (Y,m-1,n,ou.push x,g,ca,cb):=⟨rfl,z,⋯,⋯,G,i,⋯⟩;split
  .exact wpS_pure ⟨Eqv.rfl',.inr u⟩
  .exact wpS_pure ⟨Eqv.rfl',u⟩
def vh(f:AD C a b)(hk:kindOf st=kd)(h:HI C a b ou m n)(L:1<=m)(j:m<=a.size)(hn:2<=n)(ai:n<=b.size)(hN:N<=ou.size)(Q:∀p q,a[m-1]?=J p->b[n-1]?=J q->O.kle (C.key p) (C.key q)):wpS (model prog w) A E s (HW a b ou m n g ca cb) (pF C a b N st) st:=by
 refine wpS_bind (aS ⋯ λx hx=>?_);have e:n=n-1+1:=by lia
 have S:HI C a b (ou.push x) m (n-1):=by have h':=h;rw[e]at h';exact h'.pushB f.sa f.sb hx L j (λq i=>Q q x i hx)
 have al:(ou.push x).size=ou.size+1:=Fi ..;by_cases z1:n-1=1
 .rw[b_ (by simpa using z1)];exact wpS_pure ⟨Eqv.rfl',.inl ⟨_,rfl,S.one f z1⟩⟩
 .rw[e_ (by simpa using z1)];refine wpS_bind (aS ⋯ λy X=>?_);refine wpS_bind (dW (C:=C) hk f.gb (bu f.ga X) ⋯ ⋯ ?_ λz hz W U=>?_)
  .intro p q l P i;exact lK f.sb p q (wB _) P ⋯
  .have u:∀r p q,r<z->b[r]?=J p->a[m-1]?=J q->O.kle (C.key p) (C.key q):=λr p q hr l i=>by
    have:=W r hr
    unfold io at this;rw[AO,aP l]at this;rw[X]at i;cases i;exact KeyOrd.kle_of_klt this
   have G:∀r p q,z<=r->r<n-1->b[r]?=J p->a[m-1]?=J q->O.kle (C.key q) (C.key p):=λr p q F B l i=>by
    have:=U r F B
    unfold io at this;rw[AO,aP l]at this;rw[X]at i;cases i;exact this
   dsimp only;by_cases H:n-1-z>0
   .rw[b_ H];have ez:n-1-(n-1-z)=z:=by lia
    have M:=S.moveB f.sa f.sb ⋯ L j (n-1-z) ⋯ (λr p q F B=>G r p q ⋯ B);rw[ez]at M;by_cases Z:z=1
    .rw[b_ (by simpa using Z)];exact wpS_pure ⟨Eqv.rfl',.inl ⟨_,rfl,M.one f Z⟩⟩
    .rw[e_ (by simpa using Z)];by_cases R:z=0
     .rw[b_ (by simpa using R)];exact wpS_pure ⟨Eqv.rfl',.inl ⟨_,rfl,M.all f.sa f.sb (.inr R)⟩⟩
     .rw[e_ (by simpa using R)];exact v9 f M L j ⋯ ⋯ (by rw[Kw];lia) (λp q l i=>u (z-1) p q ⋯ l i)
   .rw[e_ H];exact v9 f S L j ⋯ ⋯ ⋯ (λp q l i=>u (n-1-1) p q ⋯ l i)
def uZ(f:AD C a b)(hk:kindOf st=kd)(h:HI C a b ou m n)(Z:1<=m)(F:m<=a.size)(X:2<=n)(u:n<=b.size)(hN:N<=ou.size):
  wpS (model prog w) A E s (DK a b ou m n g ca cb) (pF C a b N st) st:=by
 unfold DK;refine wpS_bind (wpS_modify ?_);have ev:Eqv st (SortSt.mk' (kindOf st) (arrOf st) (pendingOf st) g (failedOf st)):=⟨rfl,rfl,rfl,rfl⟩;refine wpS_mono (Q:=pF C a b N (SortSt.mk' (kindOf st) (arrOf st) (pendingOf st) g (failedOf st))) ?_ λr ai h=>⟨ev.trans h.1,h.2⟩;have y:kindOf (SortSt.mk' (kindOf st) (arrOf st) (pendingOf st) g (failedOf st))=kd:=hk;refine wpS_bind (aS ⋯ λx P=>?_);refine wpS_bind (dW (C:=C) y f.ga (bu f.gb P) ⋯ ⋯ ?_ λz hz S R=>?_)
 .intro p q j M i;exact lK f.sa p q (wB _) M ⋯
 .have l:∀r p q,r<z->a[r]?=J p->b[n-1]?=J q->O.kle (C.key p) (C.key q):=λr p q hr j i=>by
   have:=S r hr
   unfold io at this;rw[AO,aP j]at this;rw[P]at i;cases i;simp only[n7,if_false,Kx]at this;exact this
  have H:∀r p q,z<=r->r<m->a[r]?=J p->b[n-1]?=J q->O.kle (C.key q) (C.key p):=λr p q G B j i=>by
   have:=R r G B
   unfold io at this;rw[AO,aP j]at this;rw[P]at i;cases i;simp only[n7,if_false,OZ]at this;exact KeyOrd.kle_of_klt this
  dsimp only;by_cases L:m-z>0
  .rw[b_ L];have ez:m-(m-z)=z:=by lia
   have U:=h.moveA f.sa f.sb F ⋯ u (m-z) ⋯ (λr p q G B=>H r p q ⋯ B);rw[ez]at U;by_cases W:z=0
   .rw[b_ (by simpa using W)];exact wpS_pure ⟨Eqv.rfl',.inl ⟨_,rfl,U.all f.sa f.sb (.inl W)⟩⟩
   .rw[e_ (by simpa using W)];exact vh f y U ⋯ ⋯ X u (by rw[Kw];lia) (λp q j i=>l (z-1) p q ⋯ j i)
  .rw[e_ L];exact vh f y h Z F X u hN (λp q j i=>l (m-1) p q ⋯ j i)
def L3(C:wO prog w A E s kd O)(a b:Array Keyed)(N:Nat)(c:HB):Prop :=
 c.1=Y/\HI C a b c.2.2.2.1 c.2.1 c.2.2.1/\1<=c.2.1/\c.2.1<=a.size/\2<=c.2.2.1/\c.2.2.1<=b.size/\N<=c.2.2.2.1.size
def Qs(C:wO prog w A E s kd O)(a b:Array Keyed)(N:Nat)(c:HC):Prop :=
 c.1=Y/\HI C a b c.2.2.2.1 c.2.1 c.2.2.1/\1<=c.2.1/\c.2.1<=a.size/\2<=c.2.2.1/\c.2.2.1<=b.size/\N<=c.2.2.2.1.size
def L4(C:wO prog w A E s kd O)(a b:Array Keyed)(N:Nat)(st:SortSt)(r:ForInStep HB)(f:SortSt):Prop:=match r with
 |.done c=>f=st/\((∃x,c.1=J x/\MR C a b x)\/L3 C a b N c)
 |.yield c=>f=st/\L3 C a b N c
def xp(C:wO prog w A E s kd O)(a b:Array Keyed)(N:Nat)(st:SortSt)(r:ForInStep HC)(f:SortSt):Prop:=match r with
 |.done c=>Eqv st f/\∃x,c.1=J x/\MR C a b x
 |.yield c=>Eqv st f/\Qs C a b N c
def HY(f:AD C a b)(Q:kindOf st=kd)(L:HI C a b ou' m' n')(F:1<=m')(y:m'<=a.size)(H:2<=n')(j:n'<=b.size)(hN:N<=ou'.size):
  wpS (model prog w) A E s (Qp a b g (Y,m',n',ou',ca,cb)) (L4 C a b (N+1) st) st:=by
 unfold Qp;dsimp only;refine wpS_bind (aS ⋯ λp M=>wpS_bind (aS ⋯ λq P=>?_));refine wpS_bind (C.ask p q st _ (bu f.gb M) (bu f.ga P) Q ?_)
 cases R:O.blt (C.key p) (C.key q) with
 |true =>
  dsimp only;refine wpS_bind (aS ⋯ λS u=>?_);rw[P]at u;cases u;have em:m'=m'-1+1:=by lia
  have B:HI C a b (ou'.push q) (m'-1) n':=by have G:=L;rw[em]at G;exact G.pushA f.sa f.sb P ⋯ j (λU l=>by rw[M]at l;cases l;exact KeyOrd.kle_of_klt R)
  have i:(ou'.push q).size=ou'.size+1:=Fi ..;by_cases z:m'-1=0
  .rw[b_ (by simpa using z)];exact wpS_pure ⟨rfl,.inl ⟨_,rfl,B.all f.sa f.sb (.inl z)⟩⟩
  .rw[e_ (by simpa using z)];split
   .exact wpS_pure ⟨rfl,.inr ⟨rfl,B,⋯,⋯,H,j,by rw[i];lia⟩⟩
   .exact wpS_pure ⟨rfl,rfl,B,⋯,⋯,H,j,by rw[i];lia⟩
 |false =>
  dsimp only;rw[e_ (by simp)];refine wpS_bind (aS ⋯ λU l=>?_);rw[M]at l;cases l;have W:n'=n'-1+1:=by lia
  have B:HI C a b (ou'.push p) m' (n'-1):=by have G:=L;rw[W]at G;exact G.pushB f.sa f.sb M F y (λS u=>by rw[P]at u;cases u;exact R)
  have i:(ou'.push p).size=ou'.size+1:=Fi ..;by_cases z:n'-1=1
  .rw[b_ (by simpa using z)];exact wpS_pure ⟨rfl,.inl ⟨_,rfl,B.one f z⟩⟩
  .rw[e_ (by simpa using z)];split
   .exact wpS_pure ⟨rfl,.inr ⟨rfl,B,F,y,⋯,⋯,by rw[i];lia⟩⟩
   .exact wpS_pure ⟨rfl,rfl,B,F,y,⋯,⋯,by rw[i];lia⟩
def HZ(j:Eqv Aq st)(f:(∃x,c.1=J x/\MR C a b x)\/HX C a b N c):wpS (model prog w) A E s (R7 c) (xp C a b N Aq) st:=by
 obtain⟨G,H,B,z,F,y,l⟩:=c;rcases f with⟨r,i,u⟩|⟨f,i⟩
 .cases i;exact wpS_pure ⟨j,r,rfl,u⟩
 .cases f;exact wpS_bind (wpS_modify (wpS_pure ⟨j.trans ⟨rfl,rfl,rfl,rfl⟩,rfl,i⟩))
def H_(u:AD C a b)(z:kindOf st=kd)(h:HX C a b N c):wpS (model prog w) A E s (Qq a b c) (pF C a b N st) st:=by
 obtain⟨_,B,l,i,j,f,y⟩:=h;unfold Qq;split
 .exact uZ u z B l i j f y
 .exact uZ u z B l i j f y
def Ia(z:AD C a b)(G:kindOf st=kd)(B:Eqv Aq st)(l:(∃x,c.1=J x/\MR C a b x)\/L3 C a b N c):wpS (model prog w) A E s (R8 a b g c) (xp C a b N Aq) st:=by
 obtain⟨Z,W,R,F,S,U⟩:=c;rcases l with⟨r,j,H⟩|⟨l,j⟩
 .cases j;exact wpS_pure ⟨B,r,rfl,H⟩
 .cases l;refine wpS_bind (wpS_lift (wpAny_rule ⟨rfl,?_⟩));refine wpS_bind (wpS_mono (wpS_forRange (I:=λy c i=>Eqv st i/\HX C a b N c) (Q:=λc i=>Eqv st i/\((∃x,c.1=J x/\MR C a b x)\/HX C a b N c)) ?_ ?_ ⟨Eqv.rfl',rfl,j⟩) ?_)
  .rintro y c i _ X ⟨f,P⟩;refine wpS_mono (H_ z (f.kind.trans G) P) λr M j=>?_
   cases r with
   |done L=>exact⟨f.trans j.1,j.2⟩
   |yield L=>exact⟨f.trans j.1,j.2⟩
  .rintro c i ⟨f,u⟩;exact⟨f,.inr u⟩
  .rintro c i ⟨f,l⟩;exact HZ (B.trans f) l
def Ib(j:AD C a b)(R:kindOf st=kd)(h:Qs C a b N c):wpS (model prog w) A E s (R9 a b c) (xp C a b (N+1) st) st:=by
 obtain⟨B,S,U,G,hn,l,P⟩:=h
 refine wpS_bind (wpS_mono (wpS_forRange (I:=λy c f=>f=st/\L3 C a b (N+y) c)
  (Q:=λc f=>f=st/\((∃x,c.1=J x/\MR C a b x)\/L3 C a b (N+1) c)) ?_ ?_ ⟨rfl,rfl,S,U,G,hn,l,P⟩) ?_)
 .rintro y c f _ hy ⟨rfl,W⟩;obtain⟨B,M,H,u,L,i,z⟩:=W;refine wpS_mono (HY j R M H u L i z) λr Z F=>?_
  cases r with
  |done X=>exact⟨F.1,F.2.imp_right λh=>⟨h.1,h.2.1,h.2.2.1,h.2.2.2.1,h.2.2.2.2.1,h.2.2.2.2.2.1,pf ⋯ h.2.2.2.2.2.2⟩⟩
  |yield X=>exact F
 .rintro c f ⟨rfl,h⟩;exact⟨rfl,.inr ⟨h.1,h.2.1,h.2.2.1,h.2.2.2.1,h.2.2.2.2.1,h.2.2.2.2.2.1,pf ⋯ h.2.2.2.2.2.2⟩⟩
 .rintro c f ⟨rfl,B⟩;exact Ia j R Eqv.rfl' B
def Ic(u:AD C a b)(B:kindOf st=kd)(z:HI C a b #[x0] (a.size-1) b.size)(y:1<=a.size-1)(L:2<=b.size)(h:∀x f,Eqv st f->MR C a b x->Q x f):wpS (model prog w) A E s (R_ a b x0) Q st:=by
 refine wpS_bind (wpS_get ?_)
 refine wpS_bind (wpS_mono (wpS_forRange (I:=λx c f=>Eqv st f/\Qs C a b (x+1) c)
  (Q:=λc f=>Eqv st f/\∃x,c.1=J x/\MR C a b x) ?_ ?_ ⟨Eqv.rfl',rfl,z,y,Nat.sub_le _ _,L,i_ _,i_ _⟩) ?_)
 .rintro x c f _ M ⟨i,j⟩;refine wpS_mono (Ib u (i.kind.trans B) j) λr H l=>?_
  cases r with
  |done G=>exact⟨i.trans l.1,l.2⟩
  |yield G=>exact⟨i.trans l.1,l.2⟩
 .rintro c f ⟨i,j⟩;exfalso
  have:=j.2.1.size j.2.2.2.1 j.2.2.2.2.2.1
  have:=j.2.2.2.2.2.2
  lia
 .rintro c f ⟨i,r,l,F⟩;obtain⟨R,P⟩:=c;cases l;exact wpS_pure (h r f i F)
def Ie(f:AD C a b)(M:kindOf st=kd)(h:∀x j,Eqv st j->MR C a b x->Q x j):wpS (model prog w) A E s (nR a b) Q st:=by
 rw[Qr];refine wpS_bind (wpS_lift (wpAny_rule ⟨rfl,?_⟩));have G:=f.na;have l:=f.nb;refine wpS_bind (aS ⋯ λB i=>?_)
 have H:HI C a b #[] a.size b.size:=⟨by
   have e1:a.toList.take a.size=a.toList:=CV (by simp);have e2:b.toList.take b.size=b.toList:=CV (by simp)
   rw[e1,e2];simp,by unfold LS;simp,λx _ y P=>by simp at P⟩
 have u:HI C a b #[B] (a.size-1) b.size:=by
  have e:a.size=a.size-1+1:=by lia
  have F:HI C a b #[] (a.size-1+1) b.size:=by rw[<-e];exact H
  have:=F.pushA f.sa f.sb i l (i_ _) (λq L=>f.lst q B (B6.mpr ⟨_,by rw[BJ];exact L⟩) i)
  simpa using this
 by_cases z1:a.size-1=0
 .rw[b_ (by simpa using z1)];exact wpS_pure (h _ st Eqv.rfl' (u.all f.sa f.sb (.inl z1)))
 .rw[e_ (by simpa using z1)];by_cases z:b.size=1
  .rw[b_ (by simpa using z)];exact wpS_pure (h _ st Eqv.rfl' (u.one f z))
  .rw[e_ (by simpa using z)];exact Ic f M u ⋯ ⋯ h
end
def uS(i:Nat):mergeAt' i=(do
 let c <-get
 let(J (sa,na,pw),J (sb,nb,_)):=((pendingOf c)[i]?,(pendingOf c)[i+1]?)|unsupported "internal:list.sort.pending"
 set (setPending c (((pendingOf c).setIfInBounds i (sa,na+nb,pw)).eraseIdxIfInBounds (i+1)))
 let J k <-gallop' T (<-elem' (arrOf c) sb) (arrOf c) sa na 0|return T
 let(sa,na):=(sa+k,na-k)
 if na==0 then return I
 let J nb <-gallop' I (<-elem' (arrOf c) (sa+na-1)) (arrOf c) sb nb (nb-1)|return T
 if nb==0 then return I
 let x:=(arrOf c).extract sa sb
 let y:=(arrOf c).extract sb (sb+nb)
 let f <-if na<=nb then nJ x y else nR x y
 modify λc=>setArr c (f.toList.zipIdx.foldl (λa (p,j)=>a.setIfInBounds (sa+j) p) (arrOf c))
 return (failedOf (<-get)).isNone):=rfl
def DL(off:Nat):∀(l:List Keyed)(q:Nat)(xs:Array Keyed)(i:Nat),((l.zipIdx q).foldl (λa (p:Keyed×Nat)=>a.setIfInBounds (off+p.2) p.1) xs)[i]? =
  if off+q<=i/\i<off+q+l.length/\i<xs.size then l[i-(off+q)]? else xs[i]?:=by
 intro l
 induction l with
 |nil=>intro q xs i;rw[e_ (by simp;lia)];rfl
 |cons p l f =>
  intro q xs i;rw[O6,List.foldl_cons,f];simp only[Array.size_setIfInBounds]
  grind
def Bt{xs ou:Array Keyed}{off:Nat}(h:off+ou.size<=xs.size):
  (ou.toList.zipIdx.foldl (λa (p:Keyed×Nat)=>a.setIfInBounds (off+p.2) p.1) xs).toList=xs.toList.take off++(ou.toList++xs.toList.drop (off+ou.size)):=by
 apply F8;intro i;rw[BJ,DL];have l:(xs.toList.take off).length=off:=by simp;lia
 by_cases f:i<off
 .rw[e_ ⋯,qi ⋯,OQ f,BJ]
 .rw[Br ⋯,l];by_cases j:i<off+ou.size
  .rw[b_ ⟨⋯,by simpa using j,⋯⟩,qi (by simp;lia)];congr 1
  .rw[e_ (by simp;lia),Br (by simp;lia),OY,BJ];congr 1;simp;lia
section
variable{prog:Program}{w:World}{A:Around}{E:TF}{s:Shared}{kd:SortKind}{O:KeyOrd}{C:wO prog w A E s kd O}{a₀:Array Keyed}{st:SortSt}
def iu{xs:Array Keyed}{lo l i j:Nat}(h:vu C xs lo l)(a:lo<=i)(f:i<=j)(z:j<l){p q:Keyed}(y:xs[i]?=J p)(u:xs[j]?=J q):O.kle (C.key p) (C.key q):=by
 have:=h i j a f z
 rw[aP y,aP u]at this;exact this
def vF{xs:Array Keyed}{lo f:Nat}{p:Keyed}(j:f<=xs.size)(h:p∈(xs.extract lo f).toList):∃i,lo<=i/\i<f/\xs[i]?=J p:=by
 obtain⟨q,a⟩:=B6.mp h;rw[BJ,OU]at a
 split at a
 .exact⟨lo+q,⋯,⋯,a⟩
 .cases a
def Ig{xs:Array Keyed}{i j k:Nat}(l:i<=j)(u:j<=k)(y:k<=xs.size):xs.toList=xs.toList.take i++((xs.extract i j).toList++(xs.extract j k).toList++xs.toList.drop k):=by
 have e1:(xs.extract i j).toList=(xs.toList.drop i).take (j-i):=by simp
 have e2:(xs.extract j k).toList=(xs.toList.drop j).take (k-j):=by simp
 rw[e1,e2];have f:(xs.toList.drop j).take (k-j)++xs.toList.drop k=xs.toList.drop j:=by
  have:=NL (k-j) (xs.toList.drop j)
  simp_all
 have a:(xs.toList.drop i).take (j-i)++xs.toList.drop j=xs.toList.drop i:=by
  have:=NL (j-i) (xs.toList.drop i)
  rw[List.drop_drop]at this;have e:i+(j-i)=j:=by lia
  rw[e]at this;exact this
 rw[CZ,f,a,NL]
def uT{n1 pw:Nat}{Q:Bool->SortSt->Prop}(h0:cH C a₀)(hB:SB kd a₀ st)(h1:1<=n1)(h2:n1<a₀.size)(hp:pendingOf st=#[(0,n1,pw),(n1,a₀.size-n1,0)])(H:vu C (arrOf st) 0 n1)(F:vu C (arrOf st) n1 a₀.size)(h:∀ap,SB kd a₀ ap->(pendingOf ap).size=1->vu C (arrOf ap) 0 a₀.size->Q I ap):wpS (model prog w) A E s (mergeAt' 0) Q st:=by
 have b4:=hB.size;have hg:=hB.good h0;rw[uS];refine wpS_bind (wpS_get ?_);rw[hp];have e0:(#[(0,n1,pw),(n1,a₀.size-n1,0)]:Array (Nat×Nat×Nat))[0]?=J (0,n1,pw):=rfl;have e1:(#[(0,n1,pw),(n1,a₀.size-n1,0)]:Array (Nat×Nat×Nat))[0+1]?=J (n1,a₀.size-n1,0):=rfl;rw[e0,e1];dsimp only;refine wpS_bind ?_;have a2:∀(c:SortSt)(Q':PUnit->SortSt->Prop),Q' ⟨⟩ c->wpS (model prog w) A E s (set c:StateT SortSt Sem PUnit) Q' st:=λc Q' hq=>by
  unfold wpS;rw[StateT.run_set];exact j_ ⟨rfl,hq⟩
 refine a2 _ _ ?_;obtain⟨M,G⟩:∃c,c=setPending st (((#[(0,n1,pw),(n1,a₀.size-n1,0)]:Array (Nat×Nat×Nat)).setIfInBounds 0 (0,n1+(a₀.size-n1),pw)).eraseIdxIfInBounds (0+1)):=⟨_,rfl⟩;rw[<-G];have B:SB kd a₀ M:=by rw[G];exact⟨hB.perm,hB.kind,hB.failed⟩
 have a0:(pendingOf M).size=1:=by rw[G];simp[pendingOf]
 have a4:arrOf M=arrOf st:=by rw[G]
 clear G;have Z:vu C (arrOf st) 0 n1->vu C (arrOf st) n1 a₀.size->(∀i j,i<n1->n1<=j->j<a₀.size->O.kle (kk C (arrOf st) i) (kk C (arrOf st) j))->vu C (arrOf M) 0 a₀.size:=by
  intro g1 g2 g3 i j _ a6 R;rw[a4];by_cases c1:j<n1
  .exact g1 i j (wB _) a6 c1
  .by_cases c2:i<n1
   .exact g3 i j c2 ⋯ R
   .exact g2 i j ⋯ a6 R
 refine wpS_bind (aS ⋯ λb0 S=>?_);refine wpS_bind (dW (C:=C) B.kind hg (bu hg S) ⋯ ⋯ (by rw[AO];exact H) λk hk bv b1=>?_);have X:∀r p,r<k->(arrOf st)[r]?=J p->O.kle (C.key p) (C.key b0):=λr p hr f=>by
  have:=bv r hr
  unfold io at this;rw[AO,aP f]at this;simp only[n7,if_false,Kx]at this;exact this
 have bm:∀r p,k<=r->r<n1->(arrOf st)[r]?=J p->O.kle (C.key b0) (C.key p):=λr p ax ay f=>by
  have:=b1 r ax ay
  unfold io at this;rw[AO,aP f]at this;simp only[n7,if_false,OZ]at this;exact KeyOrd.kle_of_klt this
 dsimp only;rw[AO];have P:∀i,i<a₀.size->∃p,(arrOf st)[i]?=J p:=λi z=>⟨_,getElem?_pos _ i ⋯⟩;by_cases z1:n1-k=0
 .rw[b_ (by simpa using z1)];refine wpS_pure (h M B a0 (Z H F λi j z a7 U=>?_));obtain⟨p,f⟩:=P i ⋯;obtain⟨q,u⟩:=P j U;rw[aP f,aP u];exact KeyOrd.kle_trans (X i p ⋯ f) (iu F (i_ _) a7 U S u)
 .rw[e_ (by simpa using z1)];have ez:k+(n1-k)-1=n1-1:=by lia
  rw[ez];refine wpS_bind (aS ⋯ λal an=>?_);refine wpS_bind (dW (C:=C) B.kind hg (bu hg an) ⋯ ⋯ (by have e:n1+(a₀.size-n1)=a₀.size:=⋯;rw[e];exact F) λm hm a5 a9=>?_);have as:∀r p,n1<=r->r<n1+m->(arrOf st)[r]?=J p->O.kle (C.key p) (C.key al):=λr p ax ay f=>by
   have:=a5 (r-n1) ⋯
   have e:n1+(r-n1)=r:=by lia
   unfold io at this;rw[e,aP f]at this;exact KeyOrd.kle_of_klt this
  have ai:∀r p,n1+m<=r->r<a₀.size->(arrOf st)[r]?=J p->O.kle (C.key al) (C.key p):=λr p ax ay f=>by
   have:=a9 (r-n1) ⋯ ⋯
   have e:n1+(r-n1)=r:=by lia
   unfold io at this;rw[e,aP f]at this;exact this
  dsimp only;by_cases z2:m=0
  .rw[b_ (by simpa using z2)];refine wpS_pure (h M B a0 (Z H F λi j z a7 U=>?_));obtain⟨p,f⟩:=P i ⋯;obtain⟨q,u⟩:=P j U;rw[aP f,aP u];exact KeyOrd.kle_trans (iu H (wB _) ⋯ ⋯ f an) (ai j q ⋯ U u)
  .rw[e_ (by simpa using z2)];have sx:((arrOf st).extract k n1).size=n1-k:=by simp;lia
   have sy:((arrOf st).extract n1 (n1+m)).size=m:=by simp;lia
   have gx:∀r,r<n1-k->((arrOf st).extract k n1)[r]?=(arrOf st)[k+r]?:=λr hr=>by rw[OU,b_ ⋯]
   have gy:∀r,r<m->((arrOf st).extract n1 (n1+m))[r]?=(arrOf st)[n1+r]?:=λr hr=>by rw[OU,b_ ⋯]
   have ar:∀p,p∈((arrOf st).extract k n1).toList->∃i,k<=i/\i<n1/\(arrOf st)[i]?=J p:=λp f=>vF ⋯ f;have W:∀p,p∈((arrOf st).extract n1 (n1+m)).toList->∃i,n1<=i/\i<n1+m/\(arrOf st)[i]?=J p:=λp f=>vF ⋯ f;have a8:AD C ((arrOf st).extract k n1) ((arrOf st).extract n1 (n1+m)):=by
    refine⟨λp f=>?_,λp f=>?_,pd ⋯ λi j a b c=>H i j (wB _) b c,pd ⋯ λi j a b c=>F i j a b ⋯,⋯,⋯,?_,?_⟩
    .obtain⟨i,_,_,z⟩:=ar p f;exact bu hg z
    .obtain⟨i,_,_,z⟩:=W p f;exact bu hg z
    .intro p q f u;rw[gy 0 ⋯]at f;rw[gx 0 ⋯]at u;have e:(arrOf st)[n1+0]?=J b0:=S;rw[e]at f;cases f;exact bm (k+0) q ⋯ ⋯ u
    .intro x q hx u;obtain⟨i,i1,i2,z⟩:=W x hx;rw[sx,gx _ ⋯]at u;have e:k+(n1-k-1)=n1-1:=by lia
     rw[e,an]at u;cases u;exact as i x i1 i2 z
   have fin:∀L l,Eqv M l->MR C ((arrOf st).extract k n1) ((arrOf st).extract n1 (n1+m)) L ->
     wpS (model prog w) A E s (do
      modify λc=>setArr c (L.toList.zipIdx.foldl (λa (p:Keyed×Nat)=>a.setIfInBounds (k+p.2) p.1) (arrOf c))
      return (failedOf (<-get)).isNone) Q l:=by
    intro L l ev mr;refine wpS_bind (wpS_modify ?_);refine wpS_bind (wpS_get (wpS_pure ?_));have ea:arrOf l=arrOf st:=ev.arr.trans a4;have so:L.size=n1-k+m:=by
     have:=mr.1.length_eq
     rw[JX,BP,JX,JX,sx,sy]at this;exact this
    have hl:=Bt (xs:=arrOf l) (ou:=L) (off:=k) (by rw[ea];lia);have eo:k+L.size=n1+m:=by lia
    rw[eo,ea]at hl;have b2:=Ig (xs:=arrOf st) (i:=k) (j:=n1) (k:=n1+m) ⋯ ⋯ ⋯;have b3:(failedOf (setArr l (L.toList.zipIdx.foldl (λa (p:Keyed×Nat)=>a.setIfInBounds (k+p.2) p.1) (arrOf l)))).isNone=I:=by show(failedOf l).isNone=I;rw[ev.failed,B.failed];rfl
    rw[b3];have br:LS C (L.toList.zipIdx.foldl (λa (p:Keyed×Nat)=>a.setIfInBounds (k+p.2) p.1) (arrOf l)).toList:=by
     rw[ea,hl];have mo:∀p,p∈L.toList->(∃i,k<=i/\i<n1/\(arrOf st)[i]?=J p)\/(∃i,n1<=i/\i<n1+m/\(arrOf st)[i]?=J p):=λp f =>
      (wj.mp (mr.1.mem_iff.mp f)).imp (ar p) (W p)
     have mt:∀p,p∈(arrOf st).toList.take k->∃i,i<k/\(arrOf st)[i]?=J p:=λp f=>by
      obtain⟨i,z⟩:=B6.mp f;by_cases c:i<k
      .rw[OQ c,BJ]at z;exact⟨i,c,z⟩
      .rw[Ce (by simp;lia)]at z;cases z
     have md:∀p,p∈(arrOf st).toList.drop (n1+m)->∃i,n1+m<=i/\i<a₀.size/\(arrOf st)[i]?=J p:=λp f=>by
      obtain⟨i,z⟩:=B6.mp f;rw[OY,BJ]at z
      have:=(Kj.mp z).1
      exact⟨n1+m+i,⋯,⋯,z⟩
     refine cj ?_ (cj mr.2 ?_ ?_) ?_
     .have:=pd (C:=C) (xs:=arrOf st) (lo:=0) (hi:=k) ⋯ λi j a b c=>H i j a b ⋯
      rw[nU]at this;exact this
     .have:=pd (C:=C) (xs:=arrOf st) (lo:=n1+m) (hi:=(arrOf st).size) (i_ _) λi j a b c=>F i j ⋯ b ⋯
      rw[iI]at this;exact this
     .intro x hx y hy;obtain⟨j,j1,j2,R⟩:=md y hy;rcases mo x hx with⟨i,i1,i2,z⟩|⟨i,i1,i2,z⟩
      .exact KeyOrd.kle_trans (iu H (wB _) ⋯ ⋯ z an) (ai j y j1 j2 R)
      .exact iu F i1 ⋯ j2 z R
     .intro x hx y hy;obtain⟨i,i1,z⟩:=mt x hx;rcases wj.mp hy with hy|hy
      .rcases mo y hy with⟨j,j1,j2,R⟩|⟨j,j1,j2,R⟩
       .exact iu H (wB _) ⋯ j2 z R
       .exact KeyOrd.kle_trans (X i x i1 z) (iu F (i_ _) j1 ⋯ S R)
      .obtain⟨j,j1,j2,R⟩:=md y hy;exact KeyOrd.kle_trans (X i x i1 z) (iu F (i_ _) ⋯ j2 S R)
    have a3:(L.toList.zipIdx.foldl (λa (p:Keyed×Nat)=>a.setIfInBounds (k+p.2) p.1) (arrOf l)).Perm (arrOf st):=by rw[ON,ea,hl];refine List.Perm.trans ?_ (List.Perm.of_eq b2.symm);exact List.Perm.append_left _ (List.Perm.append_right _ mr.1)
    refine h _ ⟨a3.trans hB.perm,ev.kind.trans B.kind,ev.failed.trans B.failed⟩ ?_ ?_
    .show (pendingOf l).size=1;rw[ev.pend];exact a0
    .have:=lK br
     have e2:(L.toList.zipIdx.foldl (λa (p:Keyed×Nat)=>a.setIfInBounds (k+p.2) p.1) (arrOf l)).size=a₀.size:=(a3.trans hB.perm).size_eq;rw[e2]at this;exact this
   by_cases a1:n1-k<=m
   .rw[b_ a1];refine wpS_bind (HU a8 B.kind λL l ev mr=>?_);exact fin L l ev mr
   .rw[e_ a1];refine wpS_bind (Ie a8 B.kind λL l ev mr=>?_);exact fin L l ev mr
end
def tQ(a:2<=n)(h:n<64):minRun' n n 0=n:=by
 obtain⟨f,hf⟩:∃f,n=f+1:=⟨n-1,⋯⟩
 have:minRun' (f+1) n 0=n+0:=by rw[minRun'_succ,b_ h]
 rw[<-hf]at this;exact this
def ye(a:2<=n)(h:n<=66):1<=minRun' n n 0/\minRun' n n 0<=n/\n<=2*minRun' n n 0:=by
 by_cases c:n<64
 .rw[tQ a c];lia
 .have:n=64\/n=65\/n=66:=by lia
  rcases this with e|e | e<;>subst e
  .have:minRun' 64 64 0=32:=by decide
   rw[this];lia
  .have:minRun' 65 65 0=33:=by decide
   rw[this];lia
  .have:minRun' 66 66 0=33:=by decide
   rw[this];lia
section
variable{prog:Program}{w:World}{A:Around}{E:TF}{s:Shared}{kd:SortKind}{O:KeyOrd}{C:wO prog w A E s kd O}{a₀:Array Keyed}{st:SortSt}
def One(C:wO prog w A E s kd O)(a₀:Array Keyed)(f a:Nat)(st:SortSt):Prop:=SB kd a₀ st/\pendingOf st=#[(0,a,0)]/\f<=a/\a<=a₀.size/\vu C (arrOf st) 0 a
def L5(C:wO prog w A E s kd O)(a₀:Array Keyed)(a:Nat)(st:SortSt):Prop :=
 SB kd a₀ st/\1<=a/\a<a₀.size/\(∃f,pendingOf st=#[(0,a,f),(a,a₀.size-a,0)])/\vu C (arrOf st) 0 a/\vu C (arrOf st) a a₀.size
def sR{xs ys:Array Keyed}{p lo f:Nat}(h:cI p xs ys)(u:f<=p)(g:vu C xs lo f):vu C ys lo f:=by intro i j a l y;rw[eJ (h i ⋯),eJ (h j ⋯)];exact g i j a l y
def AF(h0:cH C a₀)(hB:SB kd a₀ st)(a0:pendingOf st=#[])(h2:2<=a₀.size)(ay:a₀.size<=66)(h:∀i,(arrOf i).Perm a₀->failedOf i=Y->vu C (arrOf i) 0 a₀.size->Q () i):wpS (model prog w) A E s sortRuns' Q st:=by
 obtain⟨m1,m2,m3⟩:=ye h2 ay;rw[sortRuns'_eq];refine wpS_bind (wpS_get ?_);dsimp only;rw[hB.size];generalize minRun' a₀.size a₀.size 0=mr at m1 m2 m3 ⊢
 refine wpS_bind (wpS_mono (wpS_forRange
  (I:=λx c i=>(x=0/\c=(Y,0)/\SB kd a₀ i/\pendingOf i=#[])\/(x=1/\∃f,c=(Y,f)/\One C a₀ mr f i)\/(2<=x/\c=(Y,a₀.size)/\∃f,L5 C a₀ f i))
  (Q:=λc i=>c=(Y,a₀.size)/\(One C a₀ mr a₀.size i\/∃f,L5 C a₀ f i)) ?_ ?_ (.inl ⟨rfl,rfl,hB,a0⟩)) ?_)
 .rintro x c i _ hx (⟨rfl,rfl,u,j⟩|⟨rfl,f,rfl,u,j,a1,ax,P⟩|⟨a5,rfl,f,S⟩)
  .rw[e_ ⋯];simp only[Nat.sub_zero,AO];refine wpS_bind (vS (p:=0) h0 ⋯ ⋯ u λm L z _ F as a3 G=>?_);rw[AO]at G;dsimp only;by_cases R:m<mr
   .rw[b_ R];refine wpS_bind (wpS_lift (wpAny_rule ⟨rfl,?_⟩));refine wpS_bind (vK (p:=0) h0 ⋯ ⋯ z (by rw[AO];exact G) λB H _ M U=>?_);simp only[AA,n7,if_false];refine wpS_bind (wpS_get ?_);have S:(pendingOf B).back?=Y:=by rw[M,F,j];rfl
    rw[S];dsimp only;refine wpS_bind (wpS_modify (wpS_pure (.inr (.inl ⟨trivial,_,rfl,⟨H.perm,H.kind,H.failed⟩,?_,⋯,⋯,?_⟩))))
    .show (pendingOf B).push _=_;rw[M,F,j];rfl
    .rw[AO]at U;exact U
   .rw[e_ R];refine wpS_bind (wpS_get ?_);have S:(pendingOf L).back?=Y:=by rw[F,j];rfl
    rw[S];dsimp only;refine wpS_bind (wpS_modify (wpS_pure (.inr (.inl ⟨trivial,_,rfl,⟨z.perm,z.kind,z.failed⟩,?_,⋯,⋯,G⟩))));show(pendingOf L).push _=_;rw[F,j];rfl
  .dsimp only;by_cases W:f>=a₀.size
   .rw[b_ W];have e:f=a₀.size:=by lia
    subst e;exact wpS_pure ⟨rfl,.inl ⟨u,j,a1,ax,P⟩⟩
   .rw[e_ W];have ap:a₀.size-f<=mr:=by lia
    refine wpS_bind (vS (p:=f) h0 ⋯ ⋯ u λm L z an F as a3 G=>?_);dsimp only;by_cases R:m<mr
    .rw[b_ R];refine wpS_bind (wpS_lift (wpAny_rule ⟨rfl,?_⟩));have em:min (a₀.size-f) mr=a₀.size-f:=by lia
     rw[em];refine wpS_bind (vK (p:=f) h0 ⋯ ⋯ z G λB H al M U=>?_);simp only[AA,n7,if_false];refine wpS_bind (wpS_get ?_);have ai:pendingOf B=#[(0,f,0)]:=by rw[M,F,j]
     have S:(pendingOf B).back?=J (0,f,0):=by rw[ai];rfl
     rw[S];dsimp only;refine wpS_bind (wpS_mono (wpS_forRange (I:=λ_ c l=>c=(Y,())/\l=B) (Q:=λc l=>c=(Y,())/\l=B) ?_ (λ_ _ hh=>hh) ⟨rfl,rfl⟩) ?_)
     .rintro y c l _ _ ⟨rfl,rfl⟩;refine wpS_bind (wpS_get ?_);rw[ai];exact wpS_pure ⟨rfl,rfl⟩
     .rintro c l ⟨rfl,rfl⟩;dsimp only;refine wpS_bind (wpS_modify (wpS_bind (wpS_modify (wpS_pure (.inr (.inr ⟨⋯,?_,f,⟨H.perm,H.kind,H.failed⟩,⋯,⋯,⟨power' a₀.size (2*0+f) (2*0+f+f+(a₀.size-f)) a₀.size,?_⟩,(sR (an.trans al) (i_ _) P),(by have e:f+(a₀.size-f)=a₀.size:=⋯;rw[e]at U;exact U)⟩))))))
      .have e:f+(a₀.size-f)=a₀.size:=by lia
       rw[e]
      .show ((pendingOf l).modify _ _).push _=_;rw[ai];simp
    .rw[e_ R];have em:m=a₀.size-f:=by lia
     subst em;refine wpS_bind (wpS_get ?_);have Z:pendingOf L=#[(0,f,0)]:=by rw[F,j]
     have S:(pendingOf L).back?=J (0,f,0):=by rw[Z];rfl
     rw[S];dsimp only;refine wpS_bind (wpS_mono (wpS_forRange (I:=λ_ c l=>c=(Y,())/\l=L) (Q:=λc l=>c=(Y,())/\l=L) ?_ (λ_ _ hh=>hh) ⟨rfl,rfl⟩) ?_)
     .rintro y c l _ _ ⟨rfl,rfl⟩;refine wpS_bind (wpS_get ?_);rw[Z];exact wpS_pure ⟨rfl,rfl⟩
     .rintro c l ⟨rfl,rfl⟩;dsimp only;refine wpS_bind (wpS_modify (wpS_bind (wpS_modify (wpS_pure (.inr (.inr ⟨⋯,?_,f,⟨z.perm,z.kind,z.failed⟩,⋯,⋯,⟨power' a₀.size (2*0+f) (2*0+f+f+(a₀.size-f)) a₀.size,?_⟩,(sR an (i_ _) P),(by have e:f+(a₀.size-f)=a₀.size:=⋯;rw[e]at G;exact G)⟩))))))
      .have e:f+(a₀.size-f)=a₀.size:=by lia
       rw[e]
      .show ((pendingOf l).modify _ _).push _=_;rw[Z];simp
  .dsimp only;rw[b_ (i_ _)];exact wpS_pure ⟨rfl,.inr ⟨f,S⟩⟩
 .rintro c i (⟨hx,_⟩|⟨hx,_⟩|⟨_,hc,S⟩)
  .lia
  .lia
  .exact⟨hc,.inr S⟩
 .rintro c i ⟨rfl,hc⟩;dsimp only;rcases hc with⟨u,j,_,_,P⟩|⟨f,u,a2,n12,⟨pw,j⟩,a4,ar⟩
  .refine wpS_bind (wpS_mono (wpS_forRange (I:=λ_ c a=>a=i/\c=(Y,())) (Q:=λc a=>a=i/\c=(Y,())) ?_ (λ_ _ hh=>hh) ⟨rfl,rfl⟩) ?_)
   .rintro x c a _ _ ⟨rfl,rfl⟩;refine wpS_bind (wpS_get ?_);rw[b_ (by rw[j];exact i_ 1)];exact wpS_pure ⟨rfl,rfl⟩
   .rintro c a ⟨rfl,rfl⟩;exact wpS_pure (h _ u.perm u.failed P)
  .refine wpS_bind (wpS_mono (wpS_forRange (I:=λx c a=>c=(Y,())/\((x=0/\a=i)\/(1<=x/\SB kd a₀ a/\(pendingOf a).size=1/\vu C (arrOf a) 0 a₀.size)))
    (Q:=λc a=>c=(Y,())/\SB kd a₀ a/\vu C (arrOf a) 0 a₀.size) ?_ ?_ ⟨rfl,.inl ⟨rfl,rfl⟩⟩) ?_)
   .rintro x c a _ _ ⟨rfl,X⟩;rcases X with⟨rfl,rfl⟩|⟨a6,b1,b2,b3⟩
    .refine wpS_bind (wpS_get ?_);rw[e_ (by rw[j];simp)];rw[j];refine wpS_bind (uT (n1:=f) (pw:=pw) h0 u a2 n12 j a4 ar λB c1 c2 c3=>?_);simp only[AA,n7,if_false];exact wpS_pure ⟨rfl,.inr ⟨⋯,c1,c2,c3⟩⟩
    .refine wpS_bind (wpS_get ?_);rw[b_ (by rw[b2];exact i_ 1)];exact wpS_pure ⟨rfl,b1,b3⟩
   .rintro c a ⟨rfl,⟨hx,_⟩|⟨_,b1,_,b3⟩⟩
    .lia
    .exact⟨rfl,b1,b3⟩
   .rintro c a ⟨rfl,b1,b3⟩;exact wpS_pure (h _ b1.perm b1.failed b3)
end
end SortT
namespace SortT
open PyProof.Rows SetT PySem.W
def bD:TN->TN->Bool
 |[],[]=>T
 |[],_::_=>I
 |_::_,[]=>T
 |a::x,b::y=>if a=b then bD x y else decide (a<b)
def nE:∀x,bD x x=T
 |[]=>rfl
 |a::x=>by unfold bD;rw[b_ rfl];exact nE x
def pg:∀x y z,bD x y=I->bD y z=I->bD x z=I
 |[],_::_,_::_,_,_=>rfl
 |a::x,b::y,c::z,i,f=>by
  unfold bD at i f ⊢;by_cases e1:a=b
  .rw[b_ e1]at i;by_cases e2:b=c
   .rw[b_ e2]at f;rw[b_ (e1.trans e2)];exact pg x y z i f
   .rw[e_ e2]at f;rw[e_ (λq=>e2 (e1.symm.trans q)),e1];exact f
  .grind
def uu:∀x y z,bD x z=I->bD x y=I\/bD y z=I
 |[],[],_::_,_=>.inr rfl
 |[],_::_,_,_=>.inl rfl
 |_::_,[],_::_,_=>.inr rfl
 |a::x,b::y,c::z,h=>by
  unfold bD at h ⊢;by_cases e1:a=b
  .rw[b_ e1];by_cases e2:b=c
   .rw[b_ e2];rw[b_ (e1.trans e2)]at h;exact uu x y z h
   .rw[e_ (λq=>e2 (e1.symm.trans q)),e1]at h;rw[e_ e2];exact .inr h
  .grind
def jQ:∀x y,bD x y=T->bD y x=T->x=y
 |[],[],_,_=>rfl
 |a::x,b::y,f,i=>by
  unfold bD at f i;by_cases e:a=b
  .rw[b_ e]at f;rw[b_ e.symm]at i;rw[e,jQ x y f i]
  .rw[e_ e]at f;rw[e_ (λq=>e q.symm)]at i
   grind
def DM:KeyOrd:=⟨TN,bD,nE,pg,uu,jQ⟩
def DN(l:TQ):Prop:=l.Pairwise λx y=>bD y x=T
section
variable{prog:Program}{w:World}{A:Around}{E:TF}{s:Shared}
def va(prog:Program)(w:World)(h:Heap)(v:Value):TN:=Classical.epsilon λk=>∃a,v=.ref a/\TK prog w h k a
def hJ(t:TK prog w h k a):va prog w h (.ref a)=k:=by
 have:=Classical.epsilon_spec (p:=λk=>∃b,Value.ref a=.ref b/\TK prog w h k b) ⟨k,a,rfl,t⟩
 obtain⟨b,e,f⟩:=this;cases e;exact IsTupleKey.inj f t
def Ih:∀(xs ys:TW)(l ky:TN)(i:Nat),ItemsAre (intKind prog w) l xs->ItemsAre (intKind prog w) ky ys->fin=decide (xs.length<ys.length)->Q (bD l ky) s ->
  KatLex prog w A b fin Q (xs.zip ys) i s:=by
 intro xs
 induction xs with
 |nil =>
  intro ys l ky i z F hf a;cases z
  cases F with
  |nil=>rw[hf];exact a
  |cons L M=>rw[hf];exact a
 |cons x xs O =>
  intro ys l ky i z F hf a
  cases z with
  |@cons j _ C _ L G =>
   cases F with
   |nil=>rw[hf];exact a
   |@cons f y u B M H =>
    obtain⟨S,rfl⟩:=Value.isInt_shape (k:=j) (v:=x) L;obtain⟨R,rfl⟩:=Value.isInt_shape (k:=f) (v:=y) M;refine kat_cons (wpAny_eqBool_int ?_);unfold bD at a;by_cases e:j=f
    .rw[b_ e]at a
     have:(j==f)=I:=by simpa using e
     rw[this];exact kat_yes (O B C u (i+1) G H (by rw[hf];simp) a)
    .rw[e_ e]at a
     have:(j==f)=T:=by simpa using e
     rw[this];refine kat_no ?_
     cases P:(b&&i==0) with
     |true=>exact oneLt_int a
     |false=>exact kat_one _ _ (wpAny_lt_int a)
def L6(prog:Program)(w:World)(A:Around)(E:TF)(s:Shared)(b:Bool):wO prog w A E s (tuples' b) DM where
 key:=λp=>va prog w s.heap p.1
 dflt:=([]:TN)
 good:=λp=>∃a k,p.1=.ref a/\TK prog w s.heap k a
 ask:=λx y st Q P H R O=>by
  obtain⟨W,x2⟩:=x;obtain⟨X,y2⟩:=y;obtain⟨M,C,ex,B⟩:=P;obtain⟨U,ky,F,ty⟩:=H;simp only at ex F;subst ex;subst F;have G:Q (J (bD C ky)) st:=by
   have L:=hJ B;have S:=hJ ty;have e:DM.blt (va prog w s.heap (.ref M)) (va prog w s.heap (.ref U))=bD C ky:=by rw[L,S];rfl
   rw[<-e];exact O
  obtain⟨ox,Z,nx,z,_,f,i⟩:=B;obtain⟨oy,iy,ny,l,_,j,u⟩:=ty;rw[lt'_eq];refine wpS_bind (wpS_get ?_);rw[R];refine wpS_bind (wpS_lift (wpAny_attempt (kat_lt z f l j (Ih _ _ _ _ _ i u (by simp) ⟨rfl,?_⟩))));exact wpS_pure G
def uo{C:TW}{G:TQ}{Q:SortKind->Shared->Prop}(U:DF prog w s.heap C.toArray G)(P:∀k∈G,k≠[])(h1:0<C.length)(h:Q (tuples' I) s):
  wpAny (model prog w) A (keyKind' C.toArray) Q E s:=by
 have B:C.length=G.length:=by have:=U.1;simpa using this
 have key:∀(z:TW)(j:TQ),z.length=j.length->(∀(i:Nat)(v:Value)(k:TN),z[i]?=J v->j[i]?=J k->∃a,v=.ref a/\TK prog w s.heap k a)->(∀k∈j,k≠[]) ->
   ∃fs:TW,fs.length=z.length/\KatTups s.heap z fs/\∀v∈fs,∃i t,v=.int i t:=by
  intro z
  induction z with
  |nil=>intro j _ _ _;exact⟨[],rfl,KatTups.nil,λv hv=>by cases hv⟩
  |cons u z ih =>
   intro j W y Z
   cases j with
   |nil=>simp at W
   |cons k j =>
    obtain⟨a,rfl,o,items,n,ho,hc,hd,hi⟩:=y 0 u k rfl rfl;obtain⟨fs,X,L,O⟩:=ih j (by simpa using W) (λi v H hv f=>y (i+1) v H (by simpa using hv) (by simpa using f)) (λH f=>Z H (l7 _ f))
    cases k with
    |nil=>exact absurd rfl (Z [] x_)
    |cons S kr =>
     have F:=hi;generalize M:items.toList=l at F
     cases F with
     |@cons _ v0 _ vr h0 hr =>
      obtain⟨R,rfl⟩:=Value.isInt_shape h0;have hg:items[0]?=J (.int S R):=by rw[<-BJ,M];rfl
      refine⟨.int S R::fs,by simp[X],KatTups.cons ho hc hd hg L,λv hv=>?_⟩;rcases mx.mp hv with rfl|hv
      .exact⟨_,_,rfl⟩
      .exact O v hv
 obtain⟨fs,X,L,O⟩:=key C G B (λi v k hv f=>U.2 i v k (by simpa using hv) f) P;refine kat_kind (T:=.type "int") L ⋯ (λv hv=>?_) (by decide) ?_
 .obtain⟨i,t,rfl⟩:=O v hv;exact .now
 .exact h
def yP(ho:s.heap.get? a=J (seqObj "list" vs.toArray n))(G:DF prog w s.heap vs.toArray z)(a0:∀k∈z,k≠[])(a5:vs.length<=66)(h:∀(O:TW) (R:TQ),DF prog w s.heap O.toArray R->O.Perm vs->R.Perm z->DN R->P (.done (.ret .none)) { s with heap:=sortedHeap s.heap a vs O.toArray}):
  wpAny (model prog w) A (Builtin.«list.sort» ⟨[.ref a],[]⟩) P E s:=by
 rw[list_sort_plain];have F:vs.length<=sizeLine:=by rw[sizeLine_eq];lia
 refine g_ (listItems_at ho rfl ?_);refine g_ (listUpdate_at ho rfl ?_ (by rw[tt];exact F) (wB _));obtain⟨e1,ai⟩:∃e1,(s.heap.update a (Obj.mapSeq λ_=>(#[]:Array Value))).get? a=J (seqObj "list" #[] e1):=⟨_,get?_update_seq ho λ_=>#[]⟩;refine g_ (seqEpoch_at ai rfl ?_);refine g_ (wpAny_newTuple ?_ (by show vs.length<=_;exact F));refine g_ (wpAny_newList ?_ (wB _));refine wpAny_holding ?_;have H:(((s.heap.update a (Obj.mapSeq λ_=>(#[]:Array Value))).push (seqObj "tuple" vs.toArray 0)).push (seqObj "list" #[] 0)).get? a=J (seqObj "list" #[] e1) :=
  lR _ (lR _ ai)
 have X:∀k b,TK prog w s.heap k b->TK prog w (((s.heap.update a (Obj.mapSeq λ_=>(#[]:Array Value))).push (seqObj "tuple" vs.toArray 0)).push (seqObj "list" #[] 0)) k b:=by
  rintro k b ⟨o,items,m,hb,hc,r⟩;have al:b≠a:=by rintro rfl;rw[ho]at hb;cases hb;have ap:Value.type "list"=Value.type "tuple":=hc;exact absurd ap (by decide)
  exact⟨o,items,m,lR _ (lR _ ((F4 _ _ _ _ al).trans hb)),hc,r⟩
 show wpAny (model prog w) A _ P E { s with heap:=((s.heap.update a (Obj.mapSeq λ_=>(#[]:Array Value))).push (seqObj "tuple" vs.toArray 0)).push (seqObj "list" #[] 0)};have U:DF prog w (((s.heap.update a (Obj.mapSeq λ_=>(#[]:Array Value))).push (seqObj "tuple" vs.toArray 0)).push (seqObj "list" #[] 0)) vs.toArray z :=
  ⟨G.1,λi v k hv l=>let⟨b,e,t⟩:=G.2 i v k hv l;⟨b,e,X k b t⟩⟩
 have a4:vs.toArray.size=vs.length:=by simp
 dsimp only;by_cases h2:vs.toArray.size<2
 .rw[b_ h2,b_ h2];refine g_ (j_ ?_);rw[StateT.run_pure];refine g_ (j_ ?_);dsimp only;refine g_ (seqEpoch_at H rfl ?_);have hz:((vs.toArray.zip vs.toArray).map (·.2))=vs.toArray:=by
   apply C1.mp;simp only[Array.toList_map,Array.toList_zip,List.toList_toArray];exact O7 (i_ _)
  refine g_ (listUpdate_at H rfl ?_ (wB _) (by show((vs.toArray.zip vs.toArray).map (·.2)).size<=_;rw[hz,a4];lia));simp only[bne_self_eq_false,n7,if_false];refine j_ ?_
  have:=h vs z G (List.Perm.refl _) (List.Perm.refl _) (by
   have Z:z.length<2:=by have:=G.1;lia
   unfold DN
   match z,Z with
   |[],_=>simp
   |[x],_=>simp)
  have e:(arrOf (SortSt.mk' general' (vs.toArray.zip vs.toArray) #[] 7 Y)).map (·.2)=vs.toArray:=hz;rw[e];exact this
 .rw[e_ h2,e_ h2];refine g_ (uo (s:={ s with heap:=_}) U a0 ⋯ ?_);have ax:(pairsOf vs).size=vs.length:=pairsOf_size vs
  refine g_ (wpAny_mono (AF (C:=L6 prog w A E { s with heap:=((s.heap.update a (Obj.mapSeq λ_=>(#[]:Array Value))).push (seqObj "tuple" vs.toArray 0)).push (seqObj "list" #[] 0)} I)
   (a₀:=pairsOf vs) (st:=SortSt.mk' (tuples' I) (vs.toArray.zip vs.toArray) #[] 7 Y)
   (Q:=λ_ f=>(arrOf f).Perm (pairsOf vs)/\failedOf f=Y/\vu (L6 prog w A E { s with heap:=((s.heap.update a (Obj.mapSeq λ_=>(#[]:Array Value))).push (seqObj "tuple" vs.toArray 0)).push (seqObj "list" #[] 0)} I) (arrOf f) 0 (pairsOf vs).size)
   ?_ ⟨Array.Perm.refl _,rfl,rfl⟩ rfl ⋯ ⋯ λf a1 a2 a3=>⟨a1,a2,a3⟩) ?_ λ_ _ e=>e)
  .intro p S;rw[pairsOf_toList]at S;obtain⟨q1,q2⟩:=mem_zip_self S;obtain⟨i,u⟩:=B6.mp q2
   obtain⟨k,l⟩:∃k,z[i]?=J k:=⟨_,xg (by
    have h3:=(o_.mp u).1
    have:=G.1;lia)⟩
   obtain⟨b,e,t⟩:=U.2 i p.1 k (by simpa using u) l;exact⟨b,k,e,t⟩
  .rintro⟨⟨⟩,f⟩ s' ⟨rfl,S,hf,hs⟩;dsimp only;refine g_ (seqEpoch_at H rfl ?_);have hz:((arrOf f).map (·.2)).size=vs.length:=by rw[Array.size_map,S.size_eq,ax]
   refine g_ (listUpdate_at H rfl ?_ (wB _) (by show((arrOf f).map (·.2)).size<=_;rw[hz];lia));rw[hf];simp only[bne_self_eq_false,n7,if_false];refine j_ ?_;have Z:(arrOf f).toList.Perm (vs.zip vs):=by rw[<-pairsOf_toList];exact ON.mp S
   have B:∀p,p∈(arrOf f).toList->p.1=p.2/\p.1∈vs:=λp as=>mem_zip_self (Z.mem_iff.mp as);have hv:∀v,v∈vs->∃k b,v=.ref b/\TK prog w s.heap k b/\k∈z:=λv hv=>by
    obtain⟨i,u⟩:=B6.mp hv
    obtain⟨k,l⟩:∃k,z[i]?=J k:=⟨_,xg (by
     have h3:=(o_.mp u).1
     have:=G.1;lia)⟩
    obtain⟨b,e,t⟩:=G.2 i v k (by simpa using u) l;exact⟨k,b,e,t,B6.mpr ⟨i,l⟩⟩
   have W:vs.map (va prog w s.heap)=z:=by
    apply F8;intro i;rw[qo]
    cases u:vs[i]? with
    |none =>
     have:=List.getElem?_eq_none_iff.mp u
     rw[Ce (by have:=G.1;lia)];rfl
    |some v =>
     obtain⟨k,l⟩:∃k,z[i]?=J k:=⟨_,xg (by
      have h3:=(o_.mp u).1
      have:=G.1;lia)⟩
     obtain⟨b,e,t⟩:=G.2 i v k (by simpa using u) l;subst e;rw[l];show J (va prog w s.heap (.ref b))=J k;rw[hJ t]
   have M:∀v,v∈vs->va prog w (((s.heap.update a (Obj.mapSeq λ_=>(#[]:Array Value))).push (seqObj "tuple" vs.toArray 0)).push (seqObj "list" #[] 0)) v=va prog w s.heap v:=λv y=>by
    obtain⟨k,b,rfl,t,_⟩:=hv v y;rw[hJ t,hJ (X k b t)]
   have L:=h ((arrOf f).toList.map (·.2)) ((arrOf f).toList.map λp=>va prog w s.heap p.1) ?_ ?_ ?_ ?_
   .have e:((arrOf f).toList.map (·.2)).toArray=(arrOf f).map (·.2):=by apply C1.mp;simp
    rw[e]at L;exact L
   .refine⟨by simp,λi v k y l=>?_⟩;rw[RJ,qo]at y;rw[qo]at l
    cases u:(arrOf f).toList[i]? with
    |none=>rw[u]at y;cases y
    |some p =>
     rw[u]at y l;cases y;cases l;obtain⟨q1,q2⟩:=B p (AL u);obtain⟨k,b,e,t,_⟩:=hv p.1 q2;refine⟨b,by show p.2=_;rw[<-q1];exact e,?_⟩;show TK prog w s.heap (va prog w s.heap p.1) b;rw[e,hJ t];exact t
   .have q:=Z.map (·.2);rw[O7 (i_ _)]at q;exact q
   .have q:=Z.map λp=>va prog w s.heap p.1;have e2:(vs.zip vs).map (λp=>va prog w s.heap p.1)=z:=by
     rw[<-W]
     have:(vs.zip vs).map (λp=>va prog w s.heap p.1)=((vs.zip vs).map Prod.fst).map (va prog w s.heap):=by rw[q7];rfl
     rw[this,List.map_fst_zip (i_ _)]
    rw[e2]at q;exact q
   .unfold DN;rw[C0,F1];intro i j u hj ar;have ay:i<(arrOf f).size:=by simpa using u
    have an:j<(arrOf f).size:=by simpa using hj
    have q:=hs i j (wB _) (Fj ar) (by rw[<-S.size_eq];exact an);rw[aP (getElem?_pos _ i ay),aP (getElem?_pos _ j an)]at q;have m1:=(B (arrOf f)[i] (by simp)).2;have m2:=(B (arrOf f)[j] (by simp)).2;have q':bD (va prog w (((s.heap.update a (Obj.mapSeq λ_=>(#[]:Array Value))).push (seqObj "tuple" vs.toArray 0)).push (seqObj "list" #[] 0)) (arrOf f)[j].1)
     (va prog w (((s.heap.update a (Obj.mapSeq λ_=>(#[]:Array Value))).push (seqObj "tuple" vs.toArray 0)).push (seqObj "list" #[] 0)) (arrOf f)[i].1)=T:=q
    rw[M _ m1,M _ m2]at q';simpa using q'
def fb(j:h.get? a=J (seqObj "list" vs.toArray n))(f:Array Value):∃c,(sortedHeap h a vs f).get? a=J (seqObj "list" f c):=by obtain⟨e1,i⟩:∃e1,(h.update a (Obj.mapSeq λ_=>(#[]:Array Value))).get? a=J (seqObj "list" #[] e1):=⟨_,get?_update_seq j λ_=>#[]⟩;exact⟨_,get?_update_seq (lR _ (lR _ i)) λ_=>f⟩
def eI(i:b≠a)(j:h.get? b=J o)(f:Array Value):(sortedHeap h a vs f).get? b=J o:=by unfold sortedHeap;rw[F4 _ _ _ _ i];exact lR _ (lR _ ((F4 _ _ _ _ i).trans j))
structure Told(prog:Program)(w:World)(R:Value->Prop)(H0 h h':Heap)(l:Addr)(ks:TQ)(out:TW)(ks':TQ):Prop where
 ext:Ext h h'
 fresh:h.get? l=Y
 size:h.objs.size<=l
 at':∃c,h'.get? l=J (seqObj "list" out.toArray c)
 lie:DF prog w H0 out.toArray ks'
 perm:ks'.Perm ks
 ris:DN ks'
 mem:∀v∈out,R v
def zm(hx:Ext H0 s.heap)(an:∀k∈ks,k≠[])(ai:ks.length<=66)(hc:wpAny (model prog w) A.in1 (collect v) (λj s1=>∃H C f,s1={ s with heap:=H,toks:=C}/\Ext s.heap H/\s.heap.objs.size<H.objs.size/\s.toks<=C/\DF prog w H0 (List.toArray j) f/\f.Perm ks/\∀v∈j,R v) E s)(h:∀H C l y F,Told prog w R H0 s.heap H l ks y F->s.toks<=C->Q (.ref l) { s with heap:=H,toks:=C}):
  wpAny (model prog w) A (call (.builtin "sorted") [v]) Q E s:=by
 refine Calls.call_function_entry kind_sorted plain_sorted entry_sorted (args_sorted1 _) ?_;refine g_ (j_ ?_);refine g_ (wpAny_mono hc (λj s1 X=>?_) λ_ _ e=>e);obtain⟨B,C,f,rfl,L,W,al,a,p1,hR⟩:=X;have M:j.length=f.length:=by have:=a.1;simpa using this
 have O:j.length<=66:=by rw[M,p1.length_eq];exact ai
 refine g_ (wpAny_newList ?_ (by rw[sizeLine_eq];lia));have G:(B.push (seqObj "list" j.toArray 0)).get? B.objs.size=J (seqObj "list" j.toArray 0):=w_ _ rfl;have up:∀b o,B.get? b=J o->(B.push (seqObj "list" j.toArray 0)).get? b=J o:=λb o e=>lR _ e;have P:DF prog w (B.push (seqObj "list" j.toArray 0)) j.toArray f:=⟨a.1,λi u k Z U=>let⟨b,e,t⟩:=a.2 i u k Z U;⟨b,e,yc (λc o ho=>up c o (L c o (hx c o ho))) t⟩⟩
 refine g_ (wpAny_holding (wpAny_call_entry slot_list_sort ⟨_,G,rfl⟩ entry_list_sort
  (yP G P (λk U=>an k (p1.mem_iff.mp U)) O λy F l2 pv p2 r2=>⟨_,rfl,?_⟩) (args_list_sort _)))
 refine j_ ⟨_,rfl,?_⟩;have z:s.heap.get? B.objs.size=Y:=by
  cases e:s.heap.get? B.objs.size with
  |none=>rfl
  |some o=>exact absurd (m_ (L _ _ e)) (BR _)
 refine h _ C B.objs.size y F ⟨λb o e=>?_,z,Fj W,fb G _,⟨l2.1,λi u k Z U=>?_⟩,p2.trans p1,r2,λv hv=>hR v (pv.mem_iff.mp hv)⟩ al
 .have hb:=ww (m_ (L b o e));exact eI hb (up b o (L b o e)) _
 .obtain⟨b,e,t⟩:=l2.2 i u k Z U;have ar:y[i]?=J u:=by simpa using Z
  have S:=pv.mem_iff.mp (AL ar);obtain⟨q,X⟩:=B6.mp S;obtain⟨k1,ap⟩:∃k1,f[q]?=J k1:=⟨_,xg (by have:=(o_.mp X).1;lia)⟩;obtain⟨b1,e1,t1⟩:=a.2 q u k1 (by simpa using X) ap;rw[e]at e1;cases e1;have t2:=yc (λc o ho=>up c o (L c o (hx c o ho))) t1
  have:=IsTupleKey.inj t t2
  subst this;exact⟨b,e,t1⟩
def uE{l:Addr}{f:TW}{a:TQ}{Q:TF}(H:s.heap.IsList l f.toArray)(G:DF prog w s.heap f.toArray a)(z:∀k∈a,k≠[])(u:a.length<=66)(h:∀C F l i y,Told prog w (·∈f) s.heap s.heap C l a i y->s.toks<=F->Q (.ref l) { s with heap:=C,toks:=F}):
  wpAny (model prog w) A (call (.builtin "sorted") [.ref l]) Q E s:=by
 have B:f.length=a.length:=by have:=G.1;simpa using this
 refine zm (λb o e=>e) z u (collect_list H ⟨_,s.toks,a,rfl,λb o e=>?_,by rw[O9,size_push'];exact NR _,i_ _,G,List.Perm.refl _,λv hv=>hv⟩ (by rw[sizeLine_eq];lia)) h;have j:=m_ e;rw[F4 _ _ _ _ (ww j)];exact lR _ e
end
end SortT
namespace MM
open PySem.Spec PyProof.Rows L2 SetT SortT
def i7:TL->Option (TN)
 |[]=>J []
 |.int i::r=>(i7 r).map (i::·)
 |_=>Y
def Oq:PV->Option (TN)
 |.tup xs=>i7 xs
 |_=>Y
def lO:TL->Option (TQ)
 |[]=>J []
 |x::r=>(match Oq x,lO r with
  |some k,J a=>J (k::a)
  |_,_=>Y)
def kP(k:TN):PV:=.tup (k.map .int)
def kS(l:TQ):TQ:=l.mergeSort λx y=>!bD y x
def zh(l:TQ):(kS l).Perm l:=List.mergeSort_perm _ _
def A8(l:TQ):DN (kS l):=by
 have:=Ry (le:=λx y=>!bD y x) (λa b c f i=>by
   simp only[Kx]at f i ⊢
   exact KeyOrd.kle_trans (O:=DM) f i) (λa b=>by
   cases h:bD b a with
   |false=>simp
   |true =>
    have:bD a b=T:=KeyOrd.klt_asymm (O:=DM) h
    simp[this])
 unfold DN kS
 simp_all
def wU(f:DN l)(i:DN m)(p:l.Perm m):l=m :=
 List.Perm.eq_of_pairwise (λa b _ _ x y=>jQ a b y x) f i p
def t7:∀{xs:TL}{k:TN},i7 xs=J k->xs=k.map .int
 |[],k,h=>by cases h;rfl
 |x::r,k,h=>by
  cases x with
  |int i =>
   unfold i7 at h
   cases a:i7 r with
   |none=>rw[a]at h;cases h
   |some f =>
    rw[a]at h;cases h;rw[t7 a];rfl
  |_=>cases h
def Ii(h:Oq x=J k):x=kP k:=by
 cases x with
 |tup xs=>unfold kP;rw[t7 (show i7 xs=J k from h)]
 |_=>cases h
def u7:∀{xs:TL}{a:TQ},lO xs=J a->xs=a.map kP
 |[],a,h=>by cases h;rfl
 |x::r,a,h=>by
  unfold lO at h
  cases f:Oq x with
  |none=>rw[f]at h;cases h
  |some k =>
   cases i:lO r with
   |none=>rw[f,i]at h;cases h
   |some j =>
    rw[f,i]at h;cases h;rw[Ii f,u7 i];rfl
def Ij(K:hH)(H:Hp)(ys:List V)(f:TQ):Prop :=
 ys.length=f.length/\∀(i:Nat)(y:V)(k:TN),ys[i]?=J y->f[i]?=J k->∃a,y=.ref a/\SqT K H a (k.map V.int)
def CC{K:hH}{U:TV}{H:Hp}:∀{k:TN}{ys:List V},RPs K U H (k.map PV.int) ys->ys=k.map V.int
 |[],ys,h=>by cases h;rfl
 |i::k,ys,h=>by
  cases h with
  |cons r t =>
   cases r;rw[CC t];rfl
def v5{K:hH}{U:TV}{H:Hp}:∀{a:TQ}{ys:List V},RPs K U H (a.map kP) ys->Ij K H ys a
 |[],ys,h=>by cases h;exact⟨rfl,λi y k e=>by simp at e⟩
 |k::a,ys,h=>by
  cases h with
  |cons r t =>
   obtain⟨l,g⟩:=v5 t;refine⟨by simp[l],λi y u e1 e2=>?_⟩
   cases i with
   |zero =>
    simp at e1 e2;subst e1;subst e2
    cases r with
    |tup f j =>
     rw[CC j]at f;exact⟨_,rfl,f⟩
   |succ i=>exact g i y u (by simpa using e1) (by simpa using e2)
def vU{K:hH}{U:TV}{H:Hp}:∀{f:TQ}{ys:List V},Ij K H ys f->RPs K U H (f.map kP) ys
 |[],ys,h=>by
  have:=Rz.mp (by have:=h.1;simpa using this)
  subst this;exact .nil
 |k::f,ys,h=>by
  cases ys with
  |nil=>have:=h.1;simp at this
  |cons y ys =>
   obtain⟨a,rfl,u⟩:=h.2 0 y k rfl rfl;refine .cons (.tup u (RPs.ints k)) (vU ⟨by have:=h.1;simpa using this,λi j l e1 e2=>h.2 (i+1) j l (by simpa using e1) (by simpa using e2)⟩)
def pB:∀{k:TN}{a:TW},aG (k.map V.int) a->ItemsAre (intKind prog w) k a
 |[],_,h=>by cases h;exact .nil
 |i::k,_,h=>by
  cases h with
  |cons r t =>
   obtain⟨f,rfl⟩:=r;exact .cons (intKind_is _ _ _ _) (pB t)
section
variable{X:Cx}{Lz:List (Addr × Obj)}{Z:L2.St}{H:Hp}{s:Shared}
def yE(i:Inv X Lz Z H s)(h:SqT X.K H a (k.map V.int)):TK X.prog X.w s.heap k a:=by obtain⟨f,l,⟨o,u,j,n,hd⟩,_⟩:=i.tuple h;exact⟨o,f.toArray,n,u,j,hd,by simpa using pB l⟩
def DO(f:Inv X Lz Z H s)(h:Ij X.K H ys ks)(y:aG ys its):DF X.prog X.w s.heap its.toArray ks:=by
 refine⟨by simp[<-y.length,h.1],λi v k hv j=>?_⟩;have B:i<ys.length:=by rw[h.1];exact(o_.mp j).1
 obtain⟨a,e,z⟩:=h.2 i ys[i] k (by simp) j;obtain⟨u,C,l⟩:=y.get (show ys[i]?=J ys[i] by simp)
 have:v=u:=by simp_all
 subst this;rw[e]at l;exact⟨a,l,yE f z⟩
end
section
variable{X:Cx}{N W G:TM}{k:Nat}
def DP{Lz:TX}{s:Shared}{Z:L2.St}{H:Hp}{Q:VK}{R:Value->Prop}{h':Heap}{tk:Nat}{l:Addr}{M E:TQ}{j:TW}(C:Inv X Lz Z H s)(f:Told X.prog X.w R s.heap s.heap h' l M j E)(hR:∀v,R v->∃(a:Addr)(k:TN),v=.ref a/\SqT X.K H a (k.map V.int))(hz:M.length<=66)(q:∀l ys,H l=Y->Ij X.K H ys (kS M)->Q (.ref l) (mf H l (.lst ys))):EP X Lz Z Q (.ref l) { s with heap:=h',toks:=tk}:=by
 have O:=f.size;have P:=wU f.ris (A8 M) (f.perm.trans (zh M).symm);obtain⟨c,hc⟩:=f.at';have z:j.length=E.length:=by have:=f.lie.1;simpa using this
 have B:∀v∈j,∃a,v=.ref a:=λv hv=>let⟨a,_,e,_⟩:=hR v (f.mem v hv);⟨a,e⟩;obtain⟨ys,U,F⟩:∃ys:List V,aG ys j/\∀y∈ys,∃a,y=.ref a/\Value.ref a∈j:=by
  clear z f hR P hc
  induction j with
  |nil=>exact⟨[],.nil,λy F=>by cases F⟩
  |cons v j ih =>
   obtain⟨a,rfl⟩:=B v x_;obtain⟨ys,r,g⟩:=ih (λu hu=>B u (l7 _ hu));refine⟨.ref a::ys,.cons rfl r,λy F=>?_⟩;rcases mx.mp F with rfl|F
   .exact⟨a,rfl,x_⟩
   .obtain⟨b,e,m⟩:=g y F;exact⟨b,e,l7 _ m⟩
 have L:Ij X.K H ys E:=by
  refine⟨by rw[U.length,z],λi y k S hk=>?_⟩;obtain⟨u,eu,ru⟩:=U.get S;obtain⟨a,e,m⟩:=F y (AL S);subst e;cases ru;obtain⟨b,k2,e2,s1⟩:=hR _ (f.mem _ m);cases e2;obtain⟨b2,e3,t⟩:=f.lie.2 i (.ref a) k (by simpa using eu) hk;cases e3
  have:=IsTupleKey.inj t (yE C s1)
  subst this;exact⟨a,rfl,s1⟩
 have ai:=C.hok.fresh O;refine⟨.ref l,_,C.laid (o:=.lst ys) f.ext O (⟨?_,j,c,U,hc⟩),rfl,q l ys ai (by rw[<-P];exact L)⟩;rw[U.length,z,f.perm.length_eq,sizeLine_eq];lia
def sP:cG X (.builtin "sorted") (λxs H Q=>∃l ys j,xs=[.ref l]/\SqL X.K H l ys/\Ij X.K H ys j/\(∀k∈j,k≠[])/\j.length<=66 /\
  ∀B y,H B=Y->Ij X.K H y (kS j)->Q (.ref B) (mf H B (.lst y))):=by
 intro Lz s Z H xs us Q f r ⟨l,ys,j,e,hq,L,F,P,q⟩;subst e;obtain⟨u,rfl,U⟩:=fU r;cases U;obtain⟨al,C,pl,ar⟩:=f.list hq;refine uE pl.isList (DO f L C) F P λh' tk B ai an td ap=>?_;refine DP f td (λv hv=>?_) P q;obtain⟨i,M⟩:=B6.mp hv;have E:=(o_.mp M).1;have z:i<ys.length:=by rw[C.length];exact E
 have S:i<j.length:=by rw[<-L.1];exact z
 obtain⟨a,e,s1⟩:=L.2 i ys[i] j[i] (by simp) (by simp);obtain⟨u,O,R⟩:=C.get (show ys[i]?=J ys[i] by simp);rw[M]at O;cases O;rw[e]at R;exact⟨a,_,R,s1⟩
def i5(h:MH):PV->Option (TL)
 |.frl xs=>J xs
 |.loc n=>(match h[n]? with
  |some (.lst xs)=>J xs
  |_=>Y)
 |_=>Y
def DQ{U:TV}{H:Hp}{h:MH}{x:PV}{y:V}{xs:TL}{K:hH}{mg:Cs}(j:RH K mg U H h)(r:RP K U H x y)(e:i5 h x=J xs):∃a f,y=.ref a/\SqL K H a f/\RPs K U H xs f:=by
 cases r with
 |frl s r=>cases e;exact⟨_,_,rfl,s.sq,r⟩
 |@loc n a l =>
  obtain⟨o,i,z⟩:=j.obj l;unfold i5 at e;dsimp only at e;rw[i]at e
  cases o with
  |lst f =>
   cases e;obtain⟨ys,u,B⟩:=z;exact⟨a,ys,rfl,SqL.of u,B⟩
  |_=>cases e
 |_=>cases e
end
end MM
namespace SeqT
abbrev CL(tp:Bool):String:=if tp then "tuple_iterator" else "list_iterator"
abbrev Sa(tp:Bool):String:=if tp then "tuple" else "list"
def SqI(f:Bool)(h:Heap)(j a:Addr)(i:Nat):Prop:=∃o,h.get? j=J o/\o.cls=.type (CL f)/\o.data=.fields #[.ref a,.int i 0]
def SqO(f:Bool)(h:Heap)(a:Addr)(xs:Array Value):Prop:=∃o,h.get? a=J o/\o.cls=.type (Sa f)/\∃n,o.data=.seq xs n
def SqI.at'(x:SqI tp h it a i)(k:∀o,h.get? it=J o->h'.get? it=J o):SqI tp h' it a i:=let⟨o,e,r⟩:=x;⟨o,k o e,r⟩
def SqO.at'(x:SqO tp h a xs)(k:∀o,h.get? a=J o->h'.get? a=J o):SqO tp h' a xs:=let⟨o,e,r⟩:=x;⟨o,k o e,r⟩
def SqI.lt(x:SqI tp h it a i):it<h.objs.size:=let⟨_,e,_⟩:=x;m_ e
section
variable{prog:Program}{w:World}{A:Around}{E:TF}{s:Shared}
def i6(y:SqI tp s.heap it a i)(G:SqO tp s.heap a xs)(C:xs[i]?=J x)(z:∀j,SqI tp j it a (i+1)->Heap.SameBut it s.heap j->Q x { s with heap:=j}):wpAny (model prog w) A (Builtin.SmallTypes.nextOf (.ref it)) Q E s:=by
 cases tp with
 |false=>exact wpAny_nextOf_list_item (y) (G) C z
 |true =>
  obtain⟨o,e,B,hd⟩:=id y;obtain⟨H,l,_,L,f⟩:=G;have u:s.TypeIs (.ref it) "tuple_iterator":=⟨o,e,B⟩;refine g_ (wpAny_callSpecial?_slot u F.slot_tuple_iterator_next (wpAny_call_entry F.slot_tuple_iterator_next u F.entry_tuple_iterator_next ?_ (F.args_tuple_iterator_next_1 _)));show wpAny _ _ (field (.ref it) 0 >>= _) _ _ s;refine g_ (wpAny_field e hd rfl ?_);refine g_ (wpAny_field e hd rfl ?_);refine g_ (wpAny_seqItems l f ?_);simp only[BK,C];refine g_ (wpAny_setField e hd (by simp) (j_ ⟨x,rfl,j_ (z _ ?_ (Heap.SameBut.update ..))⟩));exact⟨_,RI _ e (Obj.isFreed_of_fields (Obj.data_mapFields hd _)),(Obj.cls_mapFields ..).trans B,by rw[Obj.data_mapFields hd];simp[rawInt]⟩
def jZ(G:A.handled=Y)(z:SqI tp s.heap it a i)(C:SqO tp s.heap a xs)(B:xs[i]?=Y)(u:∀j e,Heap.ExtBut it s.heap j->(∃o,j.get? e=J o/\o.cls=.type "StopIteration")->E (.ref e) { s with heap:=j}):wpAny (model prog w) A (Builtin.SmallTypes.nextOf (.ref it)) Q E s:=by
 cases tp with
 |false=>exact wpAny_nextOf_list_end G (z) (C) B u
 |true =>
  obtain⟨o,e,H,hd⟩:=id z;obtain⟨L,l,_,M,f⟩:=C;have y:s.TypeIs (.ref it) "tuple_iterator":=⟨o,e,H⟩;refine g_ (wpAny_callSpecial?_slot y F.slot_tuple_iterator_next (wpAny_call_entry F.slot_tuple_iterator_next y F.entry_tuple_iterator_next ?_ (F.args_tuple_iterator_next_1 _)));show wpAny _ _ (field (.ref it) 0 >>= _) _ _ s;refine g_ (wpAny_field e hd rfl ?_);refine g_ (wpAny_field e hd rfl ?_);refine g_ (wpAny_seqItems l f ?_);simp only[BK,B];refine g_ (wpAny_rule (g_ (wpAny_setField e hd (by simp) ?_)));refine g_ ?_;refine g_ (m:=firstArgMember _ _) (wpAny_of_eq (by first | rfl | (simp only)) ?_);refine wpAny_newObj_type ?_ (by size_fits);refine g_ (wpAny_handled ?_);rw[show A.in1.handled=Y from G];refine g_ (j_ (wpAny_throw ?_));exact u _ _ (((Heap.SameBut.update ..).extBut.push _).push _) ⟨_,w_ _ rfl,rfl⟩
def jD(f:SqO tp s.heap a xs)(i:Q (.ref s.heap.objs.size) { s with heap:=s.heap.push { cls:=.type (CL tp),data:=.fields #[.ref a,.int 0 0]}}):wpAny (model prog w) A (pyIter (.ref a)) Q E s:=by
 cases tp with
 |false=>exact wpAny_pyIter_list (f) i
 |true=>exact wpAny_pyIter_tuple (f) i
end
def L7(C:A.handled=Y)(y:Bool)(l a:Addr)(u:a≠l)(xs:Array Value):
  Draws prog w A l [l,a] xs.size (λi v=>xs[i]?=J v) (λi h=>SqI y h l a i/\SqO y h a xs) where
 live:=λ_ _ st=>let⟨o,G,_⟩:=st.1;⟨o,G⟩
 frame:=λ_ _ _ st z=>⟨st.1.at' λo e=>z l (by simp) o e,st.2.at' λo e=>z a (by simp) o e⟩
 item:=λi s Q E L st H=>by
  refine i6 st.1 st.2 (x:=xs[i]) (by simp) λB j f=>?_;exact H _ B s.toks (by simp) ⟨j,st.2.at' λo e=>(f.2 a u).trans e⟩ f
 done:=λs Q E st F=>jZ C st.1 st.2 (by simp) F
def AV(i:Bool)(a:Addr)(xs:Array Value)(n:Nat)(j:Option Addr)(u:Array (TZ)):
  Meets (Builtin.«enumerate.__new__» ⟨[.type "enumerate",.ref a],[]⟩) (λ_ R s=>s.heap.get? a=J { cls:=.type (Sa i),dict:=j,data:=.seq xs n,slots:=u} /\
   R (.ok (.ret (.ref (s.heap.push { cls:=.type (CL i),data:=.fields #[.ref a,.int 0 0]}).objs.size)))
    { s with heap:=(s.heap.push { cls:=.type (CL i),data:=.fields #[.ref a,.int 0 0]}).push { cls:=.type "enumerate",data:=.fields #[.none,.bool T,.ref s.heap.objs.size,rawInt 0,.none,.none]}}) :=
 .of_wp λprog w A R s h=>by
  obtain⟨y,g,d,z,os⟩:=s;obtain⟨f,h⟩:=h;have l:=sub_enumerate;have hL:SqO i (Shared.heap ⟨y,g,d,z,os⟩) a xs:=⟨_,f,rfl,n,rfl⟩
  wp_walk using AutoSeq1.wpAny_loadPart' f
  refine wpAny_stack_any λst=>j_ ?_;split
  .rename_i c _ _ _ _ _
   cases(c==Value.type "enumerate")
   .wp_walk using AutoSeq1.wpAny_loadPart' f,jD hL
    exact⟨_,rfl,h⟩
   .wp_walk using AutoSeq1.wpAny_loadPart' f,jD hL
    exact⟨_,rfl,h⟩
  .wp_walk using AutoSeq1.wpAny_loadPart' f,jD hL
   exact⟨_,rfl,h⟩
section
variable{prog:Program}{w:World}{A:Around}{E:TF}{s:Shared}
def xJ(hL:SqO tp s.heap a xs)(h:∀f,IsEnum f (s.heap.objs.size+1) s.heap.objs.size 0 .none->SqI tp f s.heap.objs.size a 0->f.objs.size=s.heap.objs.size+2 ->
   (∀b o,s.heap.get? b=J o->f.get? b=J o)->Q (.ref (s.heap.objs.size+1)) { s with heap:=f}):
  wpAny (model prog w) A (call (.type "enumerate") [.ref a]) Q E s:=by
 obtain⟨⟨c,i,B,u⟩,z,y,n,hd⟩:=hL;subst y hd;refine callType_new F.called_enumerate (by decide) (F.typeCall_enumerate_1 _) (F.newCall_enumerate_1 _) (λobj=>F.args_object_init_2 obj _) F.entry_enumerate_new (AV tp a xs n i u) ⟨z,?_⟩;have j:(s.heap.push { cls:=.type (CL tp),data:=.fields #[.ref a,.int 0 0]}).objs.size=s.heap.objs.size+1:=Ch ..;rw[j]
 have l:IsEnum ((s.heap.push { cls:=.type (CL tp),data:=.fields #[.ref a,.int 0 0]}).push
   { cls:=.type "enumerate",data:=.fields #[.none,.bool T,.ref s.heap.objs.size,rawInt 0,.none,.none]}) (s.heap.objs.size+1) s.heap.objs.size 0 .none:=by
  have:=w_ (s.heap.push { cls:=.type (CL tp),data:=.fields #[.ref a,.int 0 0]})
   (o:={ cls:=.type "enumerate",data:=.fields #[.none,.bool T,.ref s.heap.objs.size,rawInt 0,.none,.none]}) rfl
  rw[j]at this;exact this
 exact⟨⟨_,l,rfl⟩,h _ l ⟨_,lR _ (w_ _ rfl),rfl,rfl⟩ (by rw[Ch,j]) λb o x=>lR _ (lR _ x)⟩
end
section
variable{prog:Program}{w:World}{A:Around}{E:TF}{s:Shared}{z TI TO i1 i2 l1 l2:Addr}{t1 t2:Bool}{k1 k2:Nat}{xs ys:Array Value}
def zv{x y a b:Value}{Q:TF}(D:ZipApart z TI TO i1 i2 l1 l2)(P:IsZip s.heap z TI TO .none)(an:IsPair s.heap TI (.ref i1) (.ref i2))(ax:IsPair s.heap TO a b)(h1:SqI t1 s.heap i1 l1 k1)(h2:SqI t2 s.heap i2 l2 k2)(ai:SqO t1 s.heap l1 xs)(as:SqO t2 s.heap l2 ys)(hx:xs[k1]?=J x)(hy:ys[k2]?=J y)(hQ:∀l,IsZip l z TI TO (rawInt s.heap.objs.size)->IsPair l TO x y->SqI t1 l i1 l1 (k1+1)->SqI t2 l i2 l2 (k2+1)->IsPair l s.heap.objs.size x y->l.objs.size=s.heap.objs.size+1 ->
   (∀c o,c≠z->c≠TO->c≠i1->c≠i2->s.heap.get? c=J o->l.get? c=J o)->Q (.ref s.heap.objs.size) { s with heap:=l}):
  wpAny (model prog w) A (Builtin.«zip.__next__» ⟨[.ref z],[]⟩) (λfin s'=>∃v,fin=.done (.ret v)/\Q v s') E s:=by
 show wpAny _ _ (field (.ref z) 2 >>= _) _ _ _;refine g_ (wpAny_field P rfl (x:=.bool T) rfl ?_);refine g_ (wpAny_field P rfl (x:=.ref TI) rfl ?_);refine g_ (wpAny_seqItems an rfl ?_);refine g_ ?_;refine g_ (wpAny_field P rfl (x:=.none) rfl (j_ ?_));refine g_ (wpAny_rule ?_);refine g_ (wpAny_field P rfl (x:=.ref TO) rfl ?_);refine g_ (wpAny_setField_rec P (by simp) λha a0 sa=>?_);refine g_ ?_;simp only[O6,List.zipIdx_nil,Pc,Pj];refine g_ (g_ (wpAny_onRaise ?_));show wpAny _ _ (Builtin.SmallTypes.nextOf (.ref i1) >>= _) _ _ _;refine g_ (i6 (s:={ s with heap:=ha}) (h1.at' λo e=>(sa.2 _ D.i1z).trans e) (ai.at' λo e=>(sa.2 _ D.l1z).trans e) hx λhb a2 sb=>j_ ?_);replace sb:Heap.SameBut i1 ha hb:=sb;have X:IsPair hb TO a b:=(sb.2 _ D.TOi1).trans ((sa.2 _ D.TOz).trans ax);refine g_ (wpAny_seqItems X rfl ?_);refine g_ (wpAny_updateSeq_pair X λZ C u=>?_);replace C:IsPair Z TO x b:=C;replace u:Heap.SameBut TO hb Z:=u;refine g_ (wpAny_letGo (j_ ?_));refine g_ (g_ (wpAny_onRaise ?_));show wpAny _ _ (Builtin.SmallTypes.nextOf (.ref i2) >>= _) _ _ _
 refine g_ (i6 (s:={ s with heap:=Z}) (h2.at' λo e=>(u.2 _ D.TOi2.symm).trans ((sb.2 _ D.i12.symm).trans ((sa.2 _ D.i2z).trans e)))
  (as.at' λo e=>(u.2 _ D.l2TO).trans ((sb.2 _ D.l2i1).trans ((sa.2 _ D.l2z).trans e))) hy λhd ar H=>j_ ?_)
 replace H:Heap.SameBut i2 Z hd:=H;have O:IsPair hd TO x b:=(H.2 _ D.TOi2).trans C;refine g_ (wpAny_seqItems O rfl ?_);refine g_ (wpAny_updateSeq_pair O λf j G=>?_);replace j:IsPair f TO x y:=j;replace G:Heap.SameBut TO hd f:=G;refine g_ (wpAny_letGo (j_ (j_ ?_)));refine g_ (wpAny_seqItems j rfl ?_);refine g_ (wpAny_newTuple ?_);have U:f.objs.size=s.heap.objs.size:=by rw[G.1,H.1,u.1,sb.1,sa.1]
 have S:IsZip f z TI TO .ellipsis:=(G.2 _ D.TOz.symm).trans ((H.2 _ D.i2z.symm).trans ((u.2 _ D.TOz.symm).trans ((sb.2 _ D.i1z.symm).trans a0)));have ap:∀c o,c≠z->c≠TO->c≠i1->c≠i2->s.heap.get? c=J o->f.get? c=J o:=λc o L c2 c3 c4 e =>
  (G.2 _ c2).trans ((H.2 _ c4).trans ((u.2 _ c2).trans ((sb.2 _ c3).trans ((sa.2 _ L).trans e))))
 have al:SqI t1 f i1 l1 (k1+1):=a2.at' λo e=>(G.2 _ D.TOi1.symm).trans ((H.2 _ D.i12).trans ((u.2 _ D.TOi1.symm).trans e));have a1:SqI t2 f i2 l2 (k2+1):=ar.at' λo e=>(G.2 _ D.TOi2.symm).trans e;have B:z<f.objs.size:=m_ S;show wpAny _ _ (Builtin.SmallTypes.ownedTupleHandOut (.ref z) (.ref f.objs.size) >>= _) _ _ _;refine g_ ?_;unfold Builtin.SmallTypes.ownedTupleHandOut;have ay:IsZip (f.push { cls:=.type "tuple",data:=.seq #[x,y]}) z TI TO .ellipsis:=lR _ S;refine g_ (wpAny_setField_rec ay (by simp) λhg F sg=>?_);replace F:IsZip hg z TI TO (rawInt f.objs.size):=F;refine wpAny_setField_rec F (by simp) λR i sh=>?_;replace i:IsZip R z TI TO (rawInt f.objs.size):=i;have up:∀c o,c≠z->f.get? c=J o->R.get? c=J o:=λc o L e=>(sh.2 _ L).trans ((sg.2 _ L).trans (lR _ e));have W:IsPair R f.objs.size x y:=(sh.2 _ (BL B)).trans ((sg.2 _ (BL B)).trans (w_ _ rfl));have M:R.objs.size=f.objs.size+1:=by rw[sh.1,sg.1,Ch]
 rw[U]at i W M;refine j_ ⟨_,rfl,?_⟩;show Q (.ref f.objs.size) _;rw[U];exact hQ R i (up _ _ D.TOz j) (al.at' λo e=>up _ o D.i1z e) (a1.at' λo e=>up _ o D.i2z e) W M λc o L c2 c3 c4 e=>up c o L (ap c o L c2 c3 c4 e)
def Bg(hh:A.handled=Y)(D:ZipApart z TI TO i1 i2 l1 l2)(C:IsZip s.heap z TI TO .none)(R:IsPair s.heap TI (.ref i1) (.ref i2))(Z:IsPair s.heap TO a b)(h1:SqI t1 s.heap i1 l1 k1)(h2:SqI t2 s.heap i2 l2 k2)(y:SqO t1 s.heap l1 xs)(W:SqO t2 s.heap l2 ys)(M:xs[k1]?=Y\/ys[k2]?=Y)(hE:∀P e,(∀c o,c≠z->c≠TO->c≠i1->c≠i2->s.heap.get? c=J o->P.get? c=J o)->(∃o,P.get? e=J o/\o.cls=.type "StopIteration")->E (.ref e) { s with heap:=P}):
  wpAny (model prog w) A (Builtin.«zip.__next__» ⟨[.ref z],[]⟩) Q E s:=by
 show wpAny _ _ (field (.ref z) 2 >>= _) _ _ _;refine g_ (wpAny_field C rfl (x:=.bool T) rfl ?_);refine g_ (wpAny_field C rfl (x:=.ref TI) rfl ?_);refine g_ (wpAny_seqItems R rfl ?_);refine g_ ?_;refine g_ (wpAny_field C rfl (x:=.none) rfl (j_ ?_));refine g_ (wpAny_rule ?_);refine g_ (wpAny_field C rfl (x:=.ref TO) rfl ?_);refine g_ (wpAny_setField_rec C (by simp) λha G sa=>?_);refine g_ ?_;simp only[O6,List.zipIdx_nil,Pc,Pj];refine g_ (g_ (wpAny_onRaise ?_));show wpAny _ _ (Builtin.SmallTypes.nextOf (.ref i1) >>= _) _ _ _
 cases S:xs[k1]? with
 |none =>
  refine g_ (jZ (s:={ s with heap:=ha}) hh (h1.at' λo e=>(sa.2 _ D.i1z).trans e) (y.at' λo e=>(sa.2 _ D.l1z).trans e) S λF e sb he=>?_);obtain⟨X,f,i⟩:=he;have B:IsZip F z TI TO .ellipsis:=sb _ _ D.i1z.symm G;have l:e≠z:=λq=>by subst q;rw[B]at f;cases f;simp at i
  exact wpAny_setField_rec B (by simp) λO _ j=>hE O e (λc o L _ U _ q=>(j.2 _ L).trans (sb _ _ U ((sa.2 _ L).trans q))) ⟨X,(j.2 _ l).trans f,i⟩
 |some x =>
  have hy:ys[k2]?=Y:=by
   rcases M with q|q
   .rw[S]at q;cases q
   .exact q
  refine g_ (i6 (s:={ s with heap:=ha}) (h1.at' λo e=>(sa.2 _ D.i1z).trans e) (y.at' λo e=>(sa.2 _ D.l1z).trans e) S λF al sb=>j_ ?_);replace sb:Heap.SameBut i1 ha F:=sb;have H:IsPair F TO a b:=(sb.2 _ D.TOi1).trans ((sa.2 _ D.TOz).trans Z);refine g_ (wpAny_seqItems H rfl ?_);refine g_ (wpAny_updateSeq_pair H λO ai j=>?_);replace j:Heap.SameBut TO F O:=j;refine g_ (wpAny_letGo (j_ ?_));refine g_ (g_ (wpAny_onRaise ?_));show wpAny _ _ (Builtin.SmallTypes.nextOf (.ref i2) >>= _) _ _ _
  refine g_ (jZ (s:={ s with heap:=O}) hh (h2.at' λo e=>(j.2 _ D.TOi2.symm).trans ((sb.2 _ D.i12.symm).trans ((sa.2 _ D.i2z).trans e)))
   (W.at' λo e=>(j.2 _ D.l2TO).trans ((sb.2 _ D.l2i1).trans ((sa.2 _ D.l2z).trans e))) hy λhd e sd he=>?_)
  obtain⟨X,f,i⟩:=he;have u:IsZip hd z TI TO .ellipsis:=sd _ _ D.i2z.symm ((j.2 _ D.TOz.symm).trans ((sb.2 _ D.i1z.symm).trans G));have l:e≠z:=λq=>by subst q;rw[u]at f;cases f;simp at i
  exact wpAny_setField_rec u (by simp) λhf _ sf=>hE hf e (λc o L c2 U c4 q=>(sf.2 _ L).trans (sd _ _ c4 ((j.2 _ c2).trans ((sb.2 _ U).trans ((sa.2 _ L).trans q))))) ⟨X,(sf.2 _ l).trans f,i⟩
def Bz(D:ZipApart z TI TO i1 i2 l1 l2)(B:IsZip s.heap z TI TO .none)(j:IsPair s.heap TI (.ref i1) (.ref i2))(u:IsPair s.heap TO a b)(M:SqI t1 s.heap i1 l1 k1)(P:SqI t2 s.heap i2 l2 k2)(i:SqO t1 s.heap l1 xs)(l:SqO t2 s.heap l2 ys)(L:xs[k1]?=J x)(X:ys[k2]?=J y)(U:∀f,IsZip f z TI TO (rawInt s.heap.objs.size)->IsPair f TO x y->SqI t1 f i1 l1 (k1+1)->SqI t2 f i2 l2 (k2+1)->IsPair f s.heap.objs.size x y->f.objs.size=s.heap.objs.size+1 ->
   (∀c o,c≠z->c≠TO->c≠i1->c≠i2->s.heap.get? c=J o->f.get? c=J o)->Q (J (.ref s.heap.objs.size)) { s with heap:=f}):
  wpAny (model prog w) A (pyNext (.ref z)) Q E s:=by
 have C:s.TypeIs (.ref z) "zip":=⟨_,B,rfl⟩
 exact g_ (wpAny_attempt (wpAny_callSpecial?_slot C F.slot_zip_next
  (wpAny_call_entry F.slot_zip_next C F.entry_zip_next (zv D B j u M P i l L X λf W S G R Z H O=>j_ (U f W S G R Z H O)) (F.args_zip_next_1 _))))
def DR(L:A.handled=Y)(D:ZipApart z TI TO i1 i2 l1 l2)(B:IsZip s.heap z TI TO .none)(l:IsPair s.heap TI (.ref i1) (.ref i2))(y:IsPair s.heap TO a b)(H:SqI t1 s.heap i1 l1 k1)(O:SqI t2 s.heap i2 l2 k2)(i:SqO t1 s.heap l1 xs)(u:SqO t2 s.heap l2 ys)(f:xs[k1]?=Y\/ys[k2]?=Y)(R:∀j,(∀c o,c≠z->c≠TO->c≠i1->c≠i2->s.heap.get? c=J o->j.get? c=J o)->Q Y { s with heap:=j}):wpAny (model prog w) A (pyNext (.ref z)) Q E s:=by
 have C:s.TypeIs (.ref z) "zip":=⟨_,B,rfl⟩
 refine g_ (wpAny_attempt (wpAny_callSpecial?_slot C F.slot_zip_next
  (wpAny_call_entry F.slot_zip_next C F.entry_zip_next (Bg L D B l y H O i u f λj e M S=>?_) (F.args_zip_next_1 _))))
 obtain⟨o,P,G⟩:=S;refine g_ (wpAny_isInstance ⟨o,P,G⟩ isSubtype_stop ?_);exact j_ (R _ M)
end
abbrev zA(t1:Bool)(h:Heap)(l1:Addr):Heap:=h.push { cls:=.type (CL t1),data:=.fields #[.ref l1,.int 0 0]}
abbrev zB(t1 t2:Bool)(h:Heap)(l1 l2:Addr):Heap:=(zA t1 h l1).push { cls:=.type (CL t2),data:=.fields #[.ref l2,.int 0 0]}
abbrev zC(t1 t2:Bool)(h:Heap)(l1 l2:Addr):Heap:=(zB t1 t2 h l1 l2).push { cls:=.type "tuple",data:=.seq #[.ref h.objs.size,.ref (zA t1 h l1).objs.size]}
abbrev zD(t1 t2:Bool)(h:Heap)(l1 l2:Addr):Heap:=(zC t1 t2 h l1 l2).push { cls:=.type "tuple",data:=.seq #[.none,.none]}
abbrev zE(t1 t2:Bool)(h:Heap)(l1 l2:Addr):Heap:=(zD t1 t2 h l1 l2).push { cls:=.type "zip",data:=.fields #[.none,.bool T,.bool T,.ref (zB t1 t2 h l1 l2).objs.size,.ref (zC t1 t2 h l1 l2).objs.size]}
def DT(i j:Bool)(a f:Addr)(xs ys:Array Value):
  Meets (Builtin.«zip.__new__» ⟨[.type "zip",.ref a,.ref f],[]⟩) (λ_ R s=>SqO i s.heap a xs/\SqO j s.heap f ys/\R (.ok (.ret (.ref (zD i j s.heap a f).objs.size))) { s with heap:=zE i j s.heap a f}) :=
 .of_wp λprog w A R s h=>by
  obtain⟨B,g,d,C,os⟩:=s;obtain⟨l,u,h⟩:=h;have E:=sub_zip;have z:SqO i (Shared.heap ⟨B,g,d,C,os⟩) a xs:=l;have y:SqO j (Shared.heap ⟨B.push { cls:=.type (CL i),data:=.fields #[.ref a,.int 0 0]},g,d,C,os⟩) f ys:=u.at' λo e=>lR _ e
  wp_walk using jD z,jD y
  exact⟨_,rfl,h⟩
section
variable{prog:Program}{w:World}{A:Around}{E:TF}{s:Shared}
def AU(u:SqO t1 s.heap l1 xs)(y:SqO t2 s.heap l2 ys)(h:∀a,IsZip a (s.heap.objs.size+4) (s.heap.objs.size+2) (s.heap.objs.size+3) .none->IsPair a (s.heap.objs.size+2) (.ref s.heap.objs.size) (.ref (s.heap.objs.size+1)) ->
   IsPair a (s.heap.objs.size+3) .none .none->SqI t1 a s.heap.objs.size l1 0->SqI t2 a (s.heap.objs.size+1) l2 0->a.objs.size=s.heap.objs.size+5 ->
   (∀c o,s.heap.get? c=J o->a.get? c=J o)->Q (.ref (s.heap.objs.size+4)) { s with heap:=a}):
  wpAny (model prog w) A (call (.type "zip") [.ref l1,.ref l2]) Q E s:=by
 refine callType_new F.called_zip (by decide) (F.typeCall_zip_2 _ _) (F.newCall_zip_2 _ _) (λobj=>F.args_object_init_3 obj _ _) F.entry_zip_new (DT t1 t2 l1 l2 xs ys) ⟨u,y,?_⟩;have z1:(zA t1 s.heap l1).objs.size=s.heap.objs.size+1:=Ch ..;have l:(zB t1 t2 s.heap l1 l2).objs.size=s.heap.objs.size+2:=by rw[Ch,z1]
 have i:(zC t1 t2 s.heap l1 l2).objs.size=s.heap.objs.size+3:=by rw[Ch,l]
 have f:(zD t1 t2 s.heap l1 l2).objs.size=s.heap.objs.size+4:=by rw[Ch,i]
 have G:(zE t1 t2 s.heap l1 l2).objs.size=s.heap.objs.size+5:=by rw[Ch,f]
 have j:(zE t1 t2 s.heap l1 l2).get? (zD t1 t2 s.heap l1 l2).objs.size=J _:=w_ _ rfl;have z:(zE t1 t2 s.heap l1 l2).get? (zC t1 t2 s.heap l1 l2).objs.size=J _:=lR _ (w_ _ rfl);have B:(zE t1 t2 s.heap l1 l2).get? (zB t1 t2 s.heap l1 l2).objs.size=J _:=lR _ (lR _ (w_ _ rfl));have C:(zE t1 t2 s.heap l1 l2).get? (zA t1 s.heap l1).objs.size=J _:=lR _ (lR _ (lR _ (w_ _ rfl)));have H:(zE t1 t2 s.heap l1 l2).get? s.heap.objs.size=J _:=lR _ (lR _ (lR _ (lR _ (w_ _ rfl))));rw[l,i,f]at j;rw[z1,l]at B;rw[i]at z;rw[z1]at C;rw[f]
 exact⟨⟨_,j,rfl⟩,h _ j B z ⟨_,H,rfl,rfl⟩ ⟨_,C,rfl,rfl⟩ G λc o x =>
  lR _ (lR _ (lR _ (lR _ (lR _ x))))⟩
end
end SeqT
namespace MM
open PySem.Spec PyProof.Rows L2 SeqT
def B0(f:Bool)(K:hH)(H:Hp)(a:Addr)(ys:List V):Prop:=match f with
 |true=>SqT K H a ys
 |false=>SqL K H a ys
section
variable{X:Cx}{Lz:List (Addr × Obj)}{Z:L2.St}{H:Hp}{s:Shared}
def eY(i:Inv X Lz Z H s)(h:B0 tp X.K H a ys):∃f:TW,aG ys f/\SqO tp s.heap a f.toArray/\ys.length<=sizeLine:=by
 cases tp with
 |true =>
  obtain⟨f,l,j,u⟩:=i.tuple h;exact⟨f,l,j,u⟩
 |false =>
  obtain⟨f,l,j,u⟩:=i.list h;exact⟨f,l,j.isList,u⟩
def pR(f:Inv X Lz Z H s)(h:B0 tp X.K H a xs)(i:B0 tp X.K H a ys):xs=ys:=by
 cases tp with
 |true=>exact f.tuple_inj h i
 |false=>exact f.list_inj h i
def kM(f:Inv X Lz Z H s){l:Heap}{t':Nat}{j:TV}(hf:∀b∈j,iz X Lz H b)(k:∀b o,b∉j->s.heap.get? b=J o->l.get? b=J o):
  Inv X Lz Z H { s with heap:=l,toks:=t'}:=by
 have i:∀b u,H b=J u->b∉j:=λb u e z=>by rw[(hf b z).1]at e;cases e
 refine f.step (g':=s.gens) (d':=s.drawn) (λb C=>?_) (λb o _ _ a e _=>k b o a e) (λb o _ _ a e _=>⟨o.slots,k b o a e⟩) (λ_ _ _ _ n=>n)
  (λb o a e=>⟨o,k b o a e⟩) (λ_ _ e=>e) (λ_ _ _ e=>e) (λb Q e=>⟨#[],by rw[e];simp⟩) (λm B=>?_) (λb u e=>?_) f.bare
 .obtain⟨R,O,P,L,y,M⟩:=hf b C;exact⟨L,O,y,M⟩
 .obtain⟨o,G,E,F,r⟩:=B;exact⟨o,G,E,k _ o (λz=>(hf _ z).2.1 rfl) F,r⟩
 .refine (f.hok b u e).stay (λc v a q=>k c v ?_ q) (λ_ q=>q) λ_ _ q=>q;rcases a with z|z
  .rw[z];exact i b u e
  .exact i c _ z
def uW(f:Inv X Lz Z H s){h':Heap}{t':Nat}{ch:TV}{ys:List V}{its:TW}(hf:∀b∈ch,iz X Lz H b)(E:aG ys its)(F:ys.length<=sizeLine)(j:s.heap.objs.size∉ch)(G:h'.get? s.heap.objs.size=J { cls:=.type "tuple",data:=.seq its.toArray})(k:∀b o,b∉ch->s.heap.get? b=J o->h'.get? b=J o):
  Inv X Lz Z (mf H s.heap.objs.size (.tup ys)) { s with heap:=h',toks:=t'}/\(∀b∈ch,(mf H s.heap.objs.size (.tup ys)) b=Y)/\H s.heap.objs.size=Y:=by
 have y:=f.hok.fresh (i_ s.heap.objs.size);have B:∀b∈ch,b≠s.heap.objs.size:=λb a z=>j (by rw[<-z];exact a);have C:Inv X Lz Z (mf H s.heap.objs.size (.tup ys)) { s with heap:=s.heap.push { cls:=.type "tuple",data:=.seq its.toArray},toks:=s.toks} :=
  f.laid (λb u q=>lR _ q) (i_ _) ⟨F,its,E,_,w_ _ rfl,rfl,⟨_,rfl⟩,rfl⟩
 have i:∀b∈ch,(mf H s.heap.objs.size (.tup ys)) b=Y:=λb a=>by rw[aV (B b a)];exact(hf b a).1
 refine⟨?_,i,y⟩;refine kM (t':=t') C (λb a=>⟨i b a,(hf b a).2⟩) λb o a e=>?_;by_cases z:b=s.heap.objs.size
 .have l:(s.heap.push { cls:=.type "tuple",data:=.seq its.toArray}).get? s.heap.objs.size=J { cls:=.type "tuple",data:=.seq its.toArray}:=w_ _ rfl
  grind
 .have l:=e;rw[Heap.get?_push_ne _ _ _ z]at l;exact k b o a l
end
def S3(K:hH)(f:Bool)(a:Addr):It :=
 ⟨λi H=>∃ys y,B0 f K H a ys/\ys[i]?=J y,λi H x j=>∃p y,H p=Y/\x=.ref p/\j=mf H p (.tup [.int i,y])/\∀ys,B0 f K H a ys->ys[i]?=J y,λi H=>∃ys,B0 f K H a ys/\ys.length<=i⟩
def yh{P:Program}{w:World}{K:hH}{U:TC}{x1:Nat}{a6:Pos}(tp:Bool)(a e j:Addr)(M:e≠j)(as:a≠e)(a2:a≠j):
  B9 P w K (.Tuple U x1 a6) (S3 K tp a) [e,j] e (λi h=>(∃old,IsEnum h e j i old)/\SqI tp h j a i) where
 mem:=by simp
 obj:=λi h st b O=>by
  obtain⟨⟨old,l⟩,F⟩:=st
  have:b=e\/b=j:=by simpa using O
  rcases this with rfl|rfl
  .exact⟨_,l,λv z=>nomatch z⟩
  .obtain⟨o,ho,hc,hd⟩:=F;exact⟨o,ho,λv z=>by rw[hd]at z;cases z⟩
 keep:=λi h h' st k=>let⟨⟨old,l⟩,F⟩:=st;⟨⟨old,k e (by simp) _ l⟩,F.at' λo q=>k j (by simp) o q⟩
 item:=by
  intro X hP hw hK hc i Lz s Z H E f hf st hg;subst hP hw hK;obtain⟨⟨old,l⟩,F⟩:=st;obtain⟨ys,y,W,hy⟩:=hg;obtain⟨B,rv,so,hz⟩:=eY f W;obtain⟨u,hu,ru⟩:=rv.get hy;have ay:i<B.toArray.size:=by
   have:=(o_.mp hu).1
   simpa using this
  have G:(X.A.in1).handled=Y:=by have:=f.ok.hd hc;simpa using this
  refine wpAny_pyNext_enum_itemD (L7 G tp j a a2 B.toArray) l ⟨F,so⟩ ay M (by simp[M,Ne.symm as]) λx h1 tk hx a1 a0 ai bm a8=>⟨_,rfl,?_⟩;have ax:x=u:=by
   have:B.toArray[i]?=J u:=by simpa using hu
   rw[this]at hx;exact(Option.some.inj hx).symm
  subst ax;refine wpAny_letOwnedTupleGo_enum (s:={ s with heap:=h1,toks:=tk+1}) a1 λh2 a4 L=>?_;have C:e<s.heap.objs.size:=m_ l;have S:j<s.heap.objs.size:=F.lt;obtain⟨I2,ap,a7⟩:=uW (t':=tk+1) (h':=h2) f (ch:=[e,j]) (ys:=[.int i,y]) (its:=[.int i tk,x]) hf (.cons ⟨tk,rfl⟩ (.cons ru .nil)) (by rw[sizeLine_eq];show 2<=_;decide)
   (by simp only[mx,CJ,or_false,not_or];exact⟨BL C,BL S⟩)
   ((L.2 _ (BL C)).trans ai)
   (λb o O q=>by
    have R:b≠e:=λz=>O (by simp[z]);have an:b≠j:=λz=>O (by simp[z])
    exact(L.2 b R).trans (a8 b o R an q))
  refine⟨.ref s.heap.objs.size,_,I2,rfl,⟨_,y,a7,rfl,rfl,λzs a5=>by rw[pR f a5 W];exact hy⟩,⟨⟨x,by simpa using a4⟩,?_⟩,ap⟩;exact a0.1.at' λo q=>(L.2 j (Ne.symm M)).trans q
 done:=by
  intro X hP hw hK hc i Lz s Z H E f hf st hg;subst hP hw hK;obtain⟨⟨old,l⟩,F⟩:=st;obtain⟨ys,W,hy⟩:=hg;obtain⟨B,rv,so,hz⟩:=eY f W;have G:(X.A.in1).handled=Y:=by have:=f.ok.hd hc;simpa using this
  have a9:=rv.length;have hT:s.TypeIs (.ref e) "enumerate":=⟨_,l,rfl⟩;unfold pyNext;refine g_ (wpAny_attempt (wpAny_callSpecial?_slot (name:=Str.ofString "__next__") hT PySem.F.slot_enumerate_next (wpAny_call_entry PySem.F.slot_enumerate_next hT PySem.F.entry_enumerate_next ?_ (PySem.F.args_enumerate_next_1 _))));show wpAny _ _ (field (.ref e) 2 >>= _) _ _ _;refine g_ (wpAny_field l rfl (x:=.ref j) rfl ?_);refine g_ (jZ G F so (by simp;ext) λh1 x al a3=>?_);obtain⟨o,ho,ar⟩:=a3;refine g_ (wpAny_isInstance (T:="StopIteration") (b:=I) ⟨o,ho,ar⟩ isSubtype_stop ?_);refine j_ ⟨rfl,kM (t':=s.toks) f hf λb o O q=>al b o (λz=>O (by simp[z])) q⟩
 self:=λA i s Q E st h=>let⟨⟨old,l⟩,_⟩:=st;wpAny_pyIter_enum l h
def S4(K:hH)(j f:Bool)(a b:Addr):It :=
 ⟨λi H=>∃xs ys x y,B0 j K H a xs/\B0 f K H b ys/\xs[i]?=J x/\ys[i]?=J y,
   λi H v l=>∃p x y,H p=Y/\v=.ref p/\l=mf H p (.tup [x,y])/\(∀xs,B0 j K H a xs->xs[i]?=J x)/\∀ys,B0 f K H b ys->ys[i]?=J y,
   λi H=>∃xs ys,B0 j K H a xs/\B0 f K H b ys/\(xs.length<=i\/ys.length<=i)⟩
def Bn{P:Program}{w:World}{K:hH}{as:TC}{x1:Nat}{a8:Pos}(t1 t2:Bool)(a b z TI TO M L:Addr)(D:ZipApart z TI TO M L a b):
  B9 P w K (.Tuple as x1 a8) (S4 K t1 t2 a b) [z,TI,TO,M,L] z (λi h=>IsZip h z TI TO .none/\IsPair h TI (.ref M) (.ref L)/\(∃u v,IsPair h TO u v)/\SqI t1 h M a i/\SqI t2 h L b i) where
 mem:=by simp
 obj:=λi h st c l=>by
  obtain⟨C,j,⟨u,v,B⟩,⟨o1,e1,_,d1⟩,⟨o2,e2,_,d2⟩⟩:=st
  have:c=z\/c=TI\/c=TO\/c=M\/c=L:=by simpa using l
  rcases this with rfl|rfl|rfl|rfl|rfl
  .exact⟨_,C,λv z=>nomatch z⟩
  .exact⟨_,j,λv z=>nomatch z⟩
  .exact⟨_,B,λv z=>nomatch z⟩
  .exact⟨o1,e1,λv z=>by rw[d1]at z;cases z⟩
  .exact⟨o2,e2,λv z=>by rw[d2]at z;cases z⟩
 keep:=λi h h' st k=>let⟨C,j,⟨u,v,B⟩,h1,h2⟩:=st
  ⟨k z (by simp) _ C,k TI (by simp) _ j,⟨u,v,k TO (by simp) _ B⟩,h1.at' λo q=>k M (by simp) o q,h2.at' λo q=>k L (by simp) o q⟩
 item:=by
  intro X hP hw hK l i Lz s Z H E f hf st hg;subst hP hw hK;obtain⟨C,j,⟨u,v,B⟩,h1,h2⟩:=st;obtain⟨xs,ys,x,y,G,F,hx,hy⟩:=hg;obtain⟨ai,R,W,ay⟩:=eY f G;obtain⟨ar,S,O,a6⟩:=eY f F;obtain⟨u1,ax,a2⟩:=R.get hx;obtain⟨u2,br,a7⟩:=S.get hy;refine Bz D C j B h1 h2 W O (x:=u1) (y:=u2) (by simpa using ax) (by simpa using br) λha bm ap a3 a5 a1 b0 an=>⟨_,rfl,?_⟩;refine wpAny_letOwnedTupleGo_zip (s:={ s with heap:=ha}) bm λhb a0 sb=>?_;have l1:z<s.heap.objs.size:=m_ C;have l2:TI<s.heap.objs.size:=m_ j;have l3:TO<s.heap.objs.size:=m_ B;have l4:M<s.heap.objs.size:=h1.lt;have l5:L<s.heap.objs.size:=h2.lt;have up:∀c o,c≠z->ha.get? c=J o->hb.get? c=J o:=λc o l q=>(sb.2 c l).trans q;obtain⟨I2,a4,a9⟩:=uW (t':=s.toks) (h':=hb) f (ch:=[z,TI,TO,M,L]) (ys:=[x,y]) (its:=[u1,u2]) hf (.cons a2 (.cons a7 .nil)) (by rw[sizeLine_eq];show 2<=_;decide)
   (by simp only[mx,CJ,or_false,not_or];exact⟨BL l1,BL l2,BL l3,BL l4,BL l5⟩)
   (up _ _ (BL l1) a1)
   (λc o l q=>up c o (λe=>l (by simp[e])) (an c o (λe=>l (by simp[e])) (λe=>l (by simp[e])) (λe=>l (by simp[e])) (λe=>l (by simp[e])) q))
  refine⟨.ref s.heap.objs.size,_,I2,rfl,⟨_,x,y,a9,rfl,rfl,λzs U=>by rw[pR f U G];exact hx,λzs U=>by rw[pR f U F];exact hy⟩,⟨a0,?_,⟨_,_,up _ _ D.TOz ap⟩,a3.at' λo q=>up _ o D.i1z q,a5.at' λo q=>up _ o D.i2z q⟩,a4⟩;exact up _ _ D.TIz (an _ _ D.TIz D.TITO D.TIi1 D.TIi2 j)
 done:=by
  intro X hP hw hK l i Lz s Z H E f hf st hg;subst hP hw hK;obtain⟨C,j,⟨u,v,B⟩,h1,h2⟩:=st;obtain⟨xs,ys,G,F,al⟩:=hg;obtain⟨ai,R,W,ay⟩:=eY f G;obtain⟨ar,S,O,a6⟩:=eY f F;have e1:=R.length;have e2:=S.length;have hT:s.TypeIs (.ref z) "zip":=⟨_,C,rfl⟩;have bv:(X.A.in1).handled=Y:=by have:=f.ok.hd l;simpa using this
  refine DR (f.ok.hd l) D C j B h1 h2 W O ?_ λh' hk=>⟨rfl,kM (t':=s.toks) f hf λc o l q=>hk c o (λe=>l (by simp[e])) (λe=>l (by simp[e])) (λe=>l (by simp[e])) (λe=>l (by simp[e])) q⟩;rcases al with q|q
  .exact .inl (by simp;ext)
  .exact .inr (by simp;ext)
 self:=λA i s Q E st h=>wpAny_pyIter_zip st.1 h
def bQ(v:PV)(h:MH):Option (Bool×TL×List (Nat×TL)):=match v with
 |.loc n=>(match h[n]? with
  |some (.lst xs)=>J (T,xs,[(n,xs)])
  |_=>Y)
 |.frl xs=>J (T,xs,[])
 |.tup xs=>J (I,xs,[])
 |_=>Y
def uf{X:Cx}{U:TV}{H:Hp}{h:MH}{x:PV}{y:V}{u:Bool}{xs:TL}{gd:List (Nat×TL)}(L:RH X.K X.mg U H h)(r:RP X.K U H x y)(e:bQ x h=J (u,xs,gd)):
  ∃a,y=.ref a/\(∃ys,B0 u X.K H a ys)/\∀i f j,Le U H i f->RH X.K X.mg i f j->(∀p∈gd,j[p.1]?=J (.lst p.2))->∃ys,B0 u X.K f a ys/\RPs X.K i f xs ys:=by
 cases r with
 |frl s r=>cases e;exact⟨_,rfl,⟨_,s.sq⟩,λi f j l _ _=>⟨_,(l.sqf s).sq,r.le l⟩⟩
 |tup s r=>cases e;exact⟨_,rfl,⟨_,s⟩,λi f j l _ _=>⟨_,l.sqt s,r.le l⟩⟩
 |@loc n a F =>
  obtain⟨o,G,O⟩:=L.obj F;unfold bQ at e;dsimp only at e;rw[G]at e
  cases o with
  |lst P =>
   cases e;obtain⟨ys,M,Q⟩:=O;refine⟨a,rfl,⟨ys,SqL.of M⟩,λi f j l z ok=>?_⟩;obtain⟨C,B,E⟩:=z.at' n a _ (l.get F) (ok (n,xs) (by simp));exact⟨C,SqL.of B,E⟩
  |_=>cases e
 |_=>cases e
def dC(xs:TL):TL:=xs.zipIdx.map λp=>.tup [.int (p.2:Int),p.1]
def iL(xs ys:TL):TL:=(xs.zip ys).map λp=>.tup [p.1,p.2]
def yA{xs:TL}{i:Nat}{x:PV}(h:xs[i]?=J x):(dC xs)[i]?=J (.tup [.int (i:Int),x]):=by unfold dC;rw[qo,Kq,h];simp
def qW(xs:TL):(dC xs).length=xs.length:=by simp[dC]
def uB(xs ys:TL):(iL xs ys).length=min xs.length ys.length:=by simp[iL]
def AQ{xs ys:TL}{i:Nat}{x y:PV}(a:xs[i]?=J x)(f:ys[i]?=J y):(iL xs ys)[i]?=J (.tup [x,y]):=by
 unfold iL;rw[qo]
 have:(xs.zip ys)[i]?=J (x,y):=by rw[List.getElem?_zip_eq_some];exact⟨a,f⟩
 rw[this];rfl
def um(m:Mx (TL)):Mx MIt:=λZ h=>(m Z h).bind λf a=>match f with
 |[x]=>(match bQ x a with
  |some (_,xs,gd)=>.ok ⟨dC xs,gd⟩ a
  |none=>.bad)
 |_=>.bad
def Qt(m:Mx (TL)):Mx MIt:=λZ h=>(m Z h).bind λf a=>match f with
 |[x,y]=>(match bQ x a,bQ y a with
  |some (_,xs,i),J (_,ys,j)=>.ok ⟨iL xs ys,i++j⟩ a
  |_,_=>.bad)
 |_=>.bad
section
variable{X:Cx}{N W G:TM}{k:Nat}
def vO(g:Good X N W G k){ar:TC}{x1:Nat}{tp:Pos}{a:Expr}{m:Mx (TL)}{p a1:Pos}{j:Nat}(hj:G[j]?=J "enumerate")(hm:X.mg "enumerate"=Y)(ha:MA X [a] m)(hs:starEach [a] X.env=[(T,eval a X.env)]:=by rfl):MI X (.Tuple ar x1 tp) (.Call (.Name "enumerate" p) [a] [] a1) (um m):=by
 have d:=g.dbg _ (u_ _ (aM hj));intro Lz s Z H R ap ⟨U,ai,h,rs,rh,q⟩;refine wpAny_Call_Name_kw (gq ap (g.gl _ (aM hj)) hm PyProof.Rows.Boot.«enumerate» ?_ d.2.2 d.1)
 refine PyProof.Rows.callWith_type1 (kx (ha a1 Lz s Z H (λvs B=>∃O S xs,Le U H O B/\RH X.K X.mg O B S/\RPs X.K O B xs vs/\Ful X (pV X) ai O B ((match xs with
   |[x]=>(match bQ x S with|some (_,xs,gd)=>.ok ⟨dC xs,gd⟩ S|none=>.bad)
   |_=>.bad:Out MIt)) R) ap ⟨U,ai,h,rs,rh,Ful.bind q λO B v v' S _ l1 L rv M=>⟨O,S,v,l1,L,rv,M⟩⟩) λus E ⟨vs,B,I1,r1,O,S,xs,l1,L,rv,M⟩=>?_) hs rfl
 cases rv with
 |nil=>exact M.elim
 |@cons y y' ys a9 ry t1 =>
  cases t1 with
  |cons _ _=>exact M.elim
  |nil =>
   dsimp only at M
   cases P:bQ y S with
   |none=>rw[P]at M;exact M.elim
   |some z =>
    obtain⟨b,zs,gd⟩:=z;rw[P]at M;obtain⟨ad,rfl,⟨ws,a3⟩,a4⟩:=uf L ry P;obtain⟨u,rfl,rx⟩:=fU r1;cases rx;obtain⟨bm,a8,so,hz⟩:=eY I1 a3;refine xJ so λh' he hi a6 hk=>?_;refine wpAny_pyIter_enum he ?_;have I2:Inv X Lz Z B { E with heap:=h',toks:=E.toks}:=I1.kept hk;obtain⟨oa,a2,a7,_⟩:=id so;have as:ad<E.heap.objs.size:=m_ a2;have a0:=I1.hok.fresh (i_ E.heap.objs.size);have an:=I1.hok.fresh (Ga E.heap.objs.size);refine⟨E.heap.objs.size+1,_,_,_,B,rfl,I2,yh b ad _ E.heap.objs.size (BL (NR _)) (ww (O3 as)) (ww as),⟨⟨_,he⟩,hi⟩,λc hc=>?_,?_⟩
    .have:c=E.heap.objs.size+1\/c=E.heap.objs.size:=by simpa using hc
     rcases this with rfl|rfl
     .have F:=Inv.fpOk I1 (H':=B) (b:=E.heap.objs.size+1) (Ga _) an;exact F
     .exact Inv.fpOk I1 (H':=B) (i_ _) a0
    .refine M O B _ (Le.refl _ _) L ?_;intro U' H' h2 i l al ok;obtain⟨Q,C,ay⟩:=a4 U' H' h2 l al ok;refine⟨λf=>?_,λf=>⟨Q,C,by rw[<-ay.length];rw[qW]at f;exact f⟩⟩;rw[qW]at f;have hx:zs[i]?=J (zs[i]'f):=xg f;obtain⟨w',ew,rw'⟩:=ay.get hx;refine⟨⟨Q,w',C,ew⟩,λx' H3 ⟨pp,y2,hp,e1,e2,ax⟩=>?_⟩;subst e1;subst e2;have ey:y2=w':=by
      have:=ax Q C
      rw[ew]at this;exact(Option.some.inj this).symm
     subst ey;obtain⟨a5,l3⟩:=al.tup hp [.int i,y2];exact⟨U',_,l3,a5,yA hx,.tup (SqT.of bW) (.cons (.int _) (.cons (rw'.le l3) .nil))⟩
def Ik(g:Good X N W G k){b3:TC}{x1:Nat}{tp:Pos}{a b:Expr}{m:Mx (TL)}{p a4:Pos}{j:Nat}(hj:G[j]?=J "zip")(hm:X.mg "zip"=Y)(ha:MA X [a,b] m)(hs:starEach [a,b] X.env=(T,eval a X.env)::starEach [b] X.env:=by rfl)(cm:(backTo a4 (starEach [b] X.env)).any (·.1)=T:=by rfl):MI X (.Tuple b3 x1 tp) (.Call (.Name "zip" p) [a,b] [] a4) (Qt m):=by
 have d:=g.dbg _ (u_ _ (aM hj));intro Lz s Z H R b0 ⟨U,a5,h,rs,rh,q⟩;refine wpAny_Call_Name_kw (gq b0 (g.gl _ (aM hj)) hm PyProof.Rows.Boot.«zip» ?_ d.2.2 d.1)
 refine PyProof.Rows.callWith_type1 (kx (ha a4 Lz s Z H (λvs P=>∃U1 h1 xs,Le U H U1 P/\RH X.K X.mg U1 P h1/\RPs X.K U1 P xs vs/\Ful X (pV X) a5 U1 P ((match xs with
   |[x,y]=>(match bQ x h1,bQ y h1 with|some (_,xs,g1),J (_,ys,g2)=>.ok ⟨iL xs ys,g1++g2⟩ h1|_,_=>.bad)
   |_=>.bad:Out MIt)) R) b0 ⟨U,a5,h,rs,rh,Ful.bind q λU1 P v v' h1 _ l1 S rv M=>⟨U1,h1,v,l1,S,rv,M⟩⟩) λus f ⟨vs,P,I1,r1,U1,h1,xs,l1,S,rv,M⟩=>?_) hs cm
 cases rv with
 |nil=>exact M.elim
 |@cons y y' ys ds ry t1 =>
  cases t1 with
  |nil=>exact M.elim
  |@cons v v' dn dd rv t2 =>
   cases t2 with
   |cons _ _=>exact M.elim
   |nil =>
    dsimp only at M
    cases al:bQ y h1 with
    |none=>rw[al]at M;exact M.elim
    |some z =>
     obtain⟨b1,bm,dq⟩:=z
     cases ai:bQ v h1 with
     |none=>rw[al,ai]at M;exact M.elim
     |some z2 =>
      obtain⟨b2,a7,dt⟩:=z2;rw[al,ai]at M;obtain⟨B,rfl,⟨dv,b6⟩,br⟩:=uf S ry al;obtain⟨L,rfl,⟨dF,ca⟩,a8⟩:=uf S rv ai
      cases r1 with
      |@cons _ u1 _ dk ck c3 =>
       cases c3 with
       |@cons _ u2 _ di c4 c1 =>
        cases c1;cases ck;cases c4;obtain⟨da,de,cb,df⟩:=eY I1 b6;obtain⟨dc,db,a9,dx⟩:=eY I1 ca;refine AU cb a9 λh' hz cv ch c5 c7 dj hk=>?_;refine wpAny_pyIter_zip hz ?_;have I2:Inv X Lz Z P { f with heap:=h',toks:=f.toks}:=I1.kept hk;obtain⟨dr,b4,_,_⟩:=id cb;obtain⟨dV,b9,_,_⟩:=id a9;have an:B<f.heap.objs.size:=m_ b4;have FT:L<f.heap.objs.size:=m_ b9;have sN:∀(n:Nat),f.heap.objs.size<=f.heap.objs.size+n:=λn=>Nat.le_add_right _ _;have ap:∀(c:Addr)(n:Nat),c<f.heap.objs.size->c≠f.heap.objs.size+n:=λc n hc=>ww (xj hc (sN n));have u:∀(m n:Nat),m≠n->f.heap.objs.size+m≠f.heap.objs.size+n:=λm n cn e=>cn (Nat.add_left_cancel e);have D:ZipApart (f.heap.objs.size+4) (f.heap.objs.size+2) (f.heap.objs.size+3) f.heap.objs.size (f.heap.objs.size+1) B L :=
         ⟨u 2 4 (by decide),u 3 4 (by decide),u 0 4 (by decide),u 1 4 (by decide),u 2 3 (by decide),u 2 0 (by decide),u 2 1 (by decide),u 3 0 (by decide),u 3 1 (by decide),u 0 1 (by decide),
          ap B 4 an,ap B 3 an,ap B 0 an,ap B 1 an,ap L 4 FT,ap L 3 FT,ap L 0 FT,ap L 1 FT⟩
        refine⟨f.heap.objs.size+4,_,_,_,P,rfl,I2,Bn b1 b2 B L _ _ _ _ _ D,⟨hz,cv,⟨_,_,ch⟩,c5,c7⟩,λc hc=>?_,?_⟩
        .have F:∀n:Nat,iz X Lz P (f.heap.objs.size+n):=λn=>Inv.fpOk I1 (H':=P) (sN n) (I1.hok.fresh (sN n))
         have:c=f.heap.objs.size+4\/c=f.heap.objs.size+2\/c=f.heap.objs.size+3\/c=f.heap.objs.size\/c=f.heap.objs.size+1:=by simpa using hc
         rcases this with rfl|rfl|rfl|rfl|rfl
         .exact F 4
         .exact F 2
         .exact F 3
         .exact F 0
         .exact F 1
        .refine M U1 P _ (Le.refl _ _) S ?_;intro U' H' h2 i l ax ok;obtain⟨O,E,ar⟩:=br U' H' h2 l ax (λp hp=>ok p (Bs _ hp));obtain⟨Q,C,as⟩:=a8 U' H' h2 l ax (λp hp=>ok p (u_ _ hp));refine⟨λa0=>?_,λa0=>⟨O,Q,E,C,?_⟩⟩
         .rw[uB]at a0;have b5:bm[i]?=J (bm[i]'(by ext)):=xg (by ext);have a6:a7[i]?=J (a7[i]'(by ext)):=xg (by ext);obtain⟨w1,cd,cs⟩:=ar.get b5;obtain⟨w2,bv,cf⟩:=as.get a6;refine⟨⟨O,Q,w1,w2,E,C,cd,bv⟩,λx' H3 ⟨pp,y1,y2,hp,e1,e2,ay,a3⟩=>?_⟩;subst e1;subst e2;have c6:y1=w1:=by
           have:=ay O E
           rw[cd]at this;exact(Option.some.inj this).symm
          have ci:y2=w2:=by
           have:=a3 Q C
           rw[bv]at this;exact(Option.some.inj this).symm
          subst c6;subst ci;obtain⟨c2,l3⟩:=ax.tup hp [y1,y2];exact⟨U',_,l3,c2,AQ b5 a6,.tup (SqT.of bW) (.cons (cs.le l3) (.cons (cf.le l3) .nil))⟩
         .rw[uB]at a0;have a1:=ar.length;have a2:=as.length;ext
end
end MM
namespace MM
open PySem.Spec PyProof.Rows L2 SetT SortT
def kR:TL->Option (TN)
 |[]=>J []
 |.int i::r=>(kR r).map (i::·)
 |_=>Y
def gJ(l:TN):TN:=l.mergeSort λa b=>decide (a<=b)
def gF(l:TN):(gJ l).Perm l:=List.mergeSort_perm _ _
def ko(l:TN):(gJ l).Pairwise (·<=·):=by
 have:=Ry (le:=λa b:Int=>decide (a<=b)) (λa b c f i=>by
   simp only[decide_eq_true_eq]at f i ⊢;lia) (λa b=>by
   lia)
 unfold gJ
 simp_all
def fX{l m:TN}(f:l.Pairwise (·<=·))(i:m.Pairwise (·<=·))(p:l.Perm m):l=m :=
 List.Perm.eq_of_pairwise (λa b _ _ x y=>by lia) f i p
def vB:∀{xs:TL}{k:TN},kR xs=J k->xs=k.map .int
 |[],k,h=>by cases h;rfl
 |x::r,k,h=>by
  cases x with
  |int i =>
   unfold kR at h
   cases a:kR r with
   |none=>rw[a]at h;cases h
   |some f =>
    rw[a]at h;cases h;rw[vB a];rfl
  |_=>cases h
def oe(xs:TL)(h:MH):TD:=match xs with
 |[x]=>(match i5 h x with
  |some ys=>(match kR ys with
   |some ns=>if ns.length<64 then .ok (.loc h.length) (h++[.lst ((gJ ns).map .int)])else .bad
   |none=>(match lO ys with
    |some a=>if(∀k∈a,k≠[])/\a.length<=66 then .ok (.loc h.length) (h++[.lst ((kS a).map kP)])else .bad
    |none=>.bad))
  |none=>.bad)
 |_=>.bad
def sM:∀{ns:TN}{a:TW},aG (ns.map V.int) a->IntsAre a ns
 |[],_,h=>by cases h;exact .nil
 |i::k,_,h=>by
  cases h with
  |cons r t =>
   obtain⟨f,rfl⟩:=r;exact .cons i f (sM t)
def tz:∀{ns:TN}{a:TW},IntsAre a ns->aG (ns.map V.int) a
 |_,_,.nil=>.nil
 |_,_,.cons n t h=>.cons ⟨t,rfl⟩ (tz h)
section
variable{X:Cx}{N W G:TM}{k:Nat}
def uz:cG X (.builtin "sorted") (λxs H Q=>∃l ns,xs=[.ref l]/\SqL X.K H l (ns.map V.int)/\ns.length<64/\∀z,H z=Y->Q (.ref z) (mf H z (.lst ((gJ ns).map V.int)))):=by
 intro Lz s Z H xs us Q f r ⟨l,ns,e,P,hz,q⟩;subst e;obtain⟨u,rfl,M⟩:=fU r;cases M;obtain⟨a,E,U,ai⟩:=f.list P;have i:=E.length;rw[wv]at i;refine sorted_ints U.isList (sM E) ⋯ λj S O R h3=>?_;have e:=fX h3 (ko ns) (R.trans (gF ns).symm);subst e;have C:((s.heap.push (seqObj "list" #[] 0)).update s.heap.objs.size (Obj.mapSeq (·++a.toArray))).objs.size=s.heap.objs.size+1:=by rw[O9,size_push']
 have B:(((s.heap.push (seqObj "list" #[] 0)).update s.heap.objs.size (Obj.mapSeq (·++a.toArray))).push (seqObj "list" a.toArray 0)).get? (s.heap.objs.size+1)=J (seqObj "list" a.toArray 0):=by rw[<-C];exact w_ _ rfl
 obtain⟨c,L⟩:=fb B j;refine⟨.ref (s.heap.objs.size+1),_,f.laid (o:=.lst ((gJ ns).map V.int)) (t':=s.toks) (λb o F=>?_) (Ga _) (⟨?_,j.toList,c,tz O,?_⟩),rfl,q _ (f.hok.fresh (Ga _))⟩
 .have y:=m_ F;refine eI (ww (O3 y)) ?_ _;refine lR _ ?_;rw[F4 _ _ _ _ (ww y)];exact lR _ F
 .rw[wv,(gF ns).length_eq,sizeLine_eq];lia
 .unfold sortedAll;rw[L]
def qA:cz X (.builtin "sorted") oe:=by
 intro R s Z H xs P Q u r ⟨U,h,ps,B,rp,q⟩
 cases rp with
 |nil=>exact q.elim
 |@cons x y _ _ r1 t1 =>
  cases t1 with
  |cons _ _=>exact q.elim
  |nil =>
   unfold oe at q;dsimp only at q
   cases M:i5 h x with
   |none=>rw[M]at q;exact q.elim
   |some S =>
    rw[M]at q;dsimp only at q;obtain⟨O,ys,rfl,j,a⟩:=DQ B r1 M
    cases E:kR S with
    |some ns =>
     rw[E]at q;dsimp only at q;by_cases z:ns.length<64
     .rw[b_ z]at q;rw[vB E]at a;rw[CC a]at j;refine uz R s Z H _ P Q u r ⟨O,ns,rfl,j,z,λl f=>?_⟩;obtain⟨i,F⟩:=B.new f (o:=.lst ((gJ ns).map .int)) ⟨_,rfl,RPs.ints _⟩;exact q _ _ _ F i (.loc (by rw[<-B.len];simp))
     .rw[e_ z]at q;exact q.elim
    |none =>
     rw[E]at q
     cases L:lO S with
     |none=>rw[L]at q;exact q.elim
     |some C =>
      rw[L]at q;dsimp only at q;by_cases z:(∀k∈C,k≠[])/\C.length<=66
      .rw[b_ z]at q;rw[u7 L]at a;refine sP R s Z H _ P Q u r ⟨O,ys,C,rfl,j,v5 a,z.1,z.2,λl ai f tk=>?_⟩;obtain⟨i,F⟩:=B.new f (o:=.lst ((kS C).map kP)) ⟨_,rfl,vU tk⟩;exact q _ _ _ F i (.loc (by rw[<-B.len];simp))
      .rw[e_ z]at q;exact q.elim
end
def DU:Bi X b (λ_ _=>.bad):=λi s Z H D a ⟨U,f,h,rs,j,q⟩=>q.elim
end MM
namespace MM
open PySem.Spec PyProof.Rows L2
end MM
namespace MM
open PySem.Spec PyProof.Rows L2 SetT SortT
section
variable{h:MH}{i:Int}{xs:TL}{n:Nat}
def xS(e:h[n]?=J (.lst xs)):bJ h (.loc n)=J xs:=by simp[bJ,e]
def w5(e:h[n]?=J (.lst xs))(a:xs.length<1000):fR n [v] h=.ok .non (h.set n (.lst (xs++[v]))):=by
 have z:1000<=sizeLine:=by decide
 simp only[fR,e];rw[b_ ⋯]
def uy:∀(m:Nat),kH (List.replicate m (.bl I))=J (List.replicate m I)
 |0=>rfl
 |m+1=>by
  rw[B7];unfold kH;rw[uy m];rfl
def yx(e:h[n]?=J (.lst (List.replicate m (.bl I)))):BV [.loc n] h=.ok (.bl I) h:=by simp[BV,xS e,uy]
end
def itR1'(em:m Z h=.ok [.int j] h1)(z:-(2^62)<=j/\j<2^62):dP m Z h=.ok ⟨aW 0 j.toNat,[]⟩ h1:=by simp_all
def Il(em:m Z h=.ok [.int (n:Int)] h1)(a:n<=100000):dP m Z h=.ok ⟨aW 0 n,[]⟩ h1:=by
 have z1:-(2^62)<=(n:Int):=Int.le_trans (by decide) (Int.natCast_nonneg n);have f:(n:Int)<2^62:=Int.lt_of_le_of_lt (Int.ofNat_le.mpr a) (by decide)
 have:=itR1' em ⟨z1,f⟩
 rwa [BK]at this
def jV:∀(k:TN),PyData.canLayAll0 (k.map .int)=I/\PyData.depthAll (k.map .int)<=1
 |[]=>⟨rfl,by simp[PyData.depthAll]⟩
 |i::k=>by
  obtain⟨a,b⟩:=jV k;constructor
  .simp[PyData.canLayAll0,PyData.canLay0,a]
  .simp only[nc,PyData.depthAll,PyData.depth];lia
end MM
namespace MM
open PySem.Spec PyProof.Rows L2
section
variable{X:Cx}{N W G:TM}{k:Nat}
end
end MM
namespace MM
open PySem.Spec PyProof.Rows L2 PySem.W
section
variable{X:Cx}
end
end MM
namespace MM
open PySem.Spec PyProof.Rows L2
section
variable{X:Cx}{o e:Expr}{es:TC}{name:Str}{apos cpos:Pos}{id:String}{f:Str->TL->MH->TD}{m:Mx PV}{ma:Mx (TL)}
end
end MM
namespace DcT
open PyProof.Rows
section
variable{prog:Program}{w:World}{A:Around}{E:TF}{s:Shared}
def wS:typeLookup (.type "tuple") "keys"=pure Y:=by rw[typeLookup_type,builtinLookup_eq_fast];kernel_rfl
def yS(y:s.heap.get? a=J o)(u:o.cls=.type "tuple")(f:o.data=.seq xs k)(hd:o.dict=Y)(M:A.handled=Y)(h:∀l z e,Heap.NewExcOf s.heap l e "AttributeError"->Q Y { s with heap:=l,toks:=z}):wpAny (model prog w) A (getAttr? (.ref a) "keys") Q E s:=by
 obtain⟨c,H,L,C⟩:=o;simp only at u f hd;subst u f hd;obtain⟨G,g,d,z,os⟩:=s;have B:∀i,(⟨G,g,d,i,os⟩:Shared).TypeIs (.ref a) "tuple":=λ_=>⟨_,y,rfl⟩;have W:=sub_AttributeError;have R:=F.slot_tuple_getattribute.lookup;have O:=F.slot_tuple_getattribute.bind (.ref a);have U:=am_tuple_getattr_none;unfold getAttr? getAttrBy? getAttrBy
 repeat (any_goals (first | assumption | exact B _ | ((with_reducible show wpAny _ _ (call (Value.builtin "tuple.__getattribute__") _ _) _ _ _);refine call_meets F.slot_tuple_getattribute (B _) am_entry_tuple_getattribute (F.args_tuple_getattribute_2 _ _) (meets_getattribute_miss_tuple a xs k C "keys" _ wS (by decide +kernel) (by decide)) ⟨y,M,λl i e j=>?_⟩)|wp_step))
 obtain⟨S,P,X⟩:=j.there;show wpAny _ _ (getattributeRaised _ _ _ _ _ _ _) _ _ _;unfold getattributeRaised
 repeat (any_goals (first | assumption | wp_step))
 exact h _ _ _ j.of
def nH:entryFor table "dict.update.loop"=J Builtin.«dict.update.loop»:=entryFor_of_tree (by kernel_rfl)
def fT:plainId "dict.update.loop"=I:=by decide +kernel
def Ext(a h:Heap):Prop:=∀b o,a.get? b=J o->h.get? b=J o
def iS{h i:Heap}{d:Addr}{a:List (Int×Value)}(f:h.DictOf (intKind prog w) d a)(hd:∀o,h.get? d=J o->i.get? d=J o):i.DictOf (intKind prog w) d a:=by obtain⟨o,u,j,l,r⟩:=f;exact⟨o,u,j,hd o l,r⟩
def xA{a:List (Int×Value)}{k:Int}{v:Value}(h:k∉a.map (·.1)):stored a k v=a++[(k,v)]:=by unfold stored;rw[e_];intro z;rw[List.any_eq_true]at z;obtain⟨x,f,e⟩:=z;exact h (mm.mpr ⟨x,f,by simpa using e⟩)
def L8{R:Result->Shared->Prop}{y:Addr}{fp O:TV}{G:Array GenState->Array GenState->Prop}{n:Nat}{P:Nat->Value->Prop}{St:Nat->Shared->Prop}(W:WalksS prog w A.in1 y fp O G n P St)(d:Addr)(as:d∉fp){H0:Heap}(a7:H0.get? d=Y)(a6:∀b∈O,H0.get? b=Y)(f:List (Int×Value))(hn:f.length=n)(b0:n<=sizeLine)(nd:(f.map (·.1)).Nodup)(a0:∀i v u,P i v->f[i]?=J u->∃a t,v=.ref a/\H0.IsTuple a #[.int u.1 t,u.2]):
  ∀(c i:Nat)(s:Shared)(j:Int)(tj:Tok),n-i=c->i<=n->St i s->Ext H0 s.heap->s.heap.DictOf (intKind prog w) d (f.take i) ->
   (∀l,Moved (d::O) G s l->Ext H0 l.heap->l.heap.DictOf (intKind prog w) d f->R (.ok (.ret .none)) l) ->
   codeAny (model prog w) A (.builtin "dict.update.loop" ⟨[.ref d,.ref y,.int j tj,.none],[]⟩) R s:=by
 have a1:d∉O:=λh=>as (W.sub _ h);have F:∀b∈O,b∈d::O:=λb U=>l7 _ U;have C:∀{s l:Shared},Moved O G s l->Ext H0 s.heap->Ext H0 l.heap:=λ{s l} B x b o e =>
  B.heap b o (λU=>by rw[a6 b U]at e;cases e) (x b o e)
 intro c
 induction c with
 |zero =>
  intro i s j tj hc hi S hx hT L;have e:i=n:=by lia
  subst e;refine codeAny_builtin nH ?_;rw[Around.under_plainId fT _];show wpAny _ A.in1 (pyNext (.ref y) >>= _) _ _ s;refine g_ (W.done s _ _ S λl B=>?_);show wpAny _ A.in1 (Builtin.Dict.addKeywords d [] >>= λ_=>ret Value.none) _ _ l;rw[<-hn,List.take_length]at hT;refine g_ ?_;show wpAny _ A.in1 (pure ()) _ _ l;exact j_ (j_ (L l (B.mono F) (C B hx) (iS hT λo e=>B.heap d o a1 e)))
 |succ c ih =>
  intro i s j tj hc hi S hx hT L;have ax:i<n:=by lia
  refine codeAny_builtin nH ?_;rw[Around.under_plainId fT _];show wpAny _ A.in1 (pyNext (.ref y) >>= _) _ _ s;refine g_ (W.item i s _ _ ax S λv l hP ai B=>?_);obtain⟨u,hk⟩:∃k,f[i]?=J k:=⟨_,xg ⋯⟩;obtain⟨a,t,rfl,ha⟩:=a0 i v u hP hk;have ay:=C B hx;have a4:=iS hT (λo e=>B.heap d o a1 e);obtain⟨oa,a2,H,na,Z⟩:=ha;have ap:=ay a oa a2;have a8:l.TypeIs (.ref a) "tuple":=⟨oa,ap,H⟩;dsimp only;refine g_ (wpAny_holding (g_ ?_));have M:∀(Q:TW->Shared->Prop) (E:TF),Q [.int u.1 t,u.2] l->wpAny (model prog w) A.in1 (Builtin.Dict.pairItems (.ref a)) Q E l:=λQ E q=>by
   unfold Builtin.Dict.pairItems;refine g_ (wpAny_typeOf a8 ?_);obtain⟨b6,g',d',b5,b2⟩:=l;obtain⟨oc,od,b3,b1⟩:=oa;simp only at H Z;subst H Z;rw[b_ (by decide)]
   repeat (any_goals (first | assumption | wp_step))
  refine wpAny_tryCatch (M _ _ ?_);dsimp only;have an:(f.take i).length<=sizeLine:=by rw[Ky];lia
  have ar:u.1∉(f.take i).map (·.1):=λz=>by
   obtain⟨x,bm,ex⟩:=mm.mp z;obtain⟨q,X⟩:=B6.mp bm;rw[List.getElem?_take]at X
   split at X
   .rename_i b4
    have e1:(f.map (·.1))[q]?=J u.1:=by rw[qo,X];simp[ex]
    have e2:(f.map (·.1))[i]?=J u.1:=by rw[qo,hk];rfl
    have l1:q<(f.map (·.1)).length:=(o_.mp e1).1
    have:=(List.getElem?_inj l1 nd).mp (e1.trans e2.symm)
    lia
   .cases X
  have a5:f.take (i+1)=f.take i++[u]:=by rw[Pk,hk];rfl
  refine wpAny_holding (wpAny_dictSet_pairs (knd:=intKind prog w) (k:=u.1) (intKind_is prog w u.1 t) a4 (λh' hD sb=>?_) an);rw[xA ar,show f.take i++[(u.1,u.2)]=f.take (i+1)from a5.symm]at hD;have a3:Ext H0 h':=λq o e=>by
   have X:q≠d:=by rintro rfl;rw[a7]at e;cases e
   exact(sb.2 q X).trans (ay q o e)
  refine j_ ⟨plainId_quiet fT _,ih (i+1) _ _ _ ⋯ ax (W.frame _ l _ _ ai (Ga _) λb U o e=>(sb.2 b (λq:b=d=>as (by rw[<-q];exact U))).trans e) a3 hD λa9 al br bv=>?_⟩;refine L a9 (Moved.trans W.gtrans ((B.mono F).then_heap (Ga _) λb o U e=>?_) al) br bv;exact(sb.2 b (λq:b=d=>U (by rw[q];exact x_))).trans e
set_option maxHeartbeats 3200000 in
theorem oD{a:Addr}{items:Array Value}{kvs:List (Int×Value)}{Q:TF}(hh:A.handled=Y)(ha:∃o k,s.heap.get? a=J o/\o.cls=.type "tuple"/\o.data=.seq items k/\o.dict=Y)(hn:kvs.length=items.size)(an:items.size<=sizeLine)(nd:(kvs.map (·.1)).Nodup)(M:∀(i:Nat) v W,items[i]?=J v->kvs[i]?=J W->∃b t,v=.ref b/\s.heap.IsTuple b #[.int W.1 t,W.2])(h:∀(C:Heap) (tk:Nat),C.DictOf (intKind prog w) s.heap.objs.size kvs->Ext s.heap C->Q (.ref s.heap.objs.size) { s with heap:=C,toks:=tk}):
  wpAny (model prog w) A (call (.type "dict") [.ref a]) Q E s:=by
 refine callType_codes (Q₁:=λobj z=>obj=.ref s.heap.objs.size/\z={ s with heap:=s.heap.push { cls:=.type "dict",data:=.dict #[]}}) F.kt_called_dict (F.kt_typeCall_dict_1 _) F.entry_dict_init (kt_code_dict_new _ ⟨rfl,rfl⟩) ?_;rintro obj z ⟨rfl,rfl⟩;have j:(s.heap.push { cls:=.type "dict",data:=.dict #[]}).DictOf (intKind prog w) s.heap.objs.size []:=Heap.DictOf.new s.heap;refine⟨j.typeIs,F.args_dict_init_2 _ _,?_⟩;unfold Builtin.«dict.__init__»;refine g_ ?_;unfold Builtin.Dict.selfAndRest;refine g_ (wpAny_notOrdered_dict j.typeIs ?_);show wpAny _ _ (pure (s.heap.objs.size,[Value.ref a])) _ _ _;refine j_ ?_;show wpAny _ _ (Builtin.Dict.updateFrom "dict.__init__" s.heap.objs.size (.ref a) [] .none) _ _ _;unfold Builtin.Dict.updateFrom;obtain⟨H,ka,l,B,G,al⟩:=ha;have y:(s.heap.push { cls:=.type "dict",data:=.dict #[]}).get? a=J H:=lR _ l;have O:A.in1.in1.handled=Y:=by simp[hh]
 refine g_ (wpAny_typeOf (T:="tuple") ⟨H,y,B⟩ ?_);rw[b_ (by decide)];refine g_ (yS y B G al O λu ap e hx=>?_);rw[b_ (by rfl)];have S:Ext s.heap u:=λb o eb=>hx.keeps b o (lR _ eb);have L:u.DictOf (intKind prog w) s.heap.objs.size []:=iS j λo U=>hx.keeps _ o U;have P:u.IsTuple a items:=⟨H,S a H l,B,ka,G⟩;refine g_ (wpAny_rule (g_ (wpAny_pyIter_tuple (s:={ s with heap:=u,toks:=ap}) P ?_)));have R:s.heap.objs.size<u.objs.size:=by obtain⟨o,_,_,ho,_⟩:=L;exact m_ ho
 have ax:a<u.objs.size:=m_ (S a H l);have has:a<s.heap.objs.size:=m_ l;have f:∀b,s.heap.objs.size<=b->s.heap.get? b=Y:=λb hb=>by
  cases e:s.heap.get? b with
  |none=>rfl
  |some o=>exact absurd (m_ e) (Nat.not_lt.mpr hb)
 refine j_ ⟨plainId_quiet fT _,?_⟩
 refine L8 (A:=A.in1) (H0:=s.heap) ((Walks.tuple (A:=A.in1.in1) O u.objs.size a (ww ax) items).toS) s.heap.objs.size (by simp only[mx,CJ,or_false,not_or];exact⟨ww R,BL has⟩) (f _ (i_ _)) (λb hb=>by
   have:b=u.objs.size:=by simpa using hb
   rw[this];exact f _ (Fj R)) kvs hn an nd M items.size 0 _ 0 0 ⋯ (wB _) ⟨⟨_,w_ _ rfl,rfl,rfl⟩,P.push _⟩ (λb o e=>lR _ (S b o e)) (iS L λo e=>lR _ e) ?_
 intro s' X as ai;obtain⟨C,g',d',Z,ar⟩:=s';have eg:g'=s.gens:=X.gens;have ed:d'=s.drawn:=X.drawn;have U:ar=s.os:=X.os;subst eg;subst ed;subst U;exact⟨rfl,h C Z ai as⟩
end
end DcT
namespace MM
open PySem.Spec PyProof.Rows L2 DcT
section
variable{X:Cx}{N W G:TM}{k:Nat}
local instance inhPV:Inhabited PV:=⟨.non⟩
def hZ:TL->Option (List (Int×PV))
 |[]=>J []
 |.tup [.int k,v]::r=>(hZ r).map ((k,v)::·)
 |_=>Y
def L9(x:PV):Option (List (Int×PV)):=match x with
 |.tup f=>(match hZ f with
  |some a=>if(a.map (·.1)).Nodup then J a else Y
  |none=>Y)
 |_=>Y
def xz{K:hH}{U:TV}{H:Hp}:∀{xs:TL}{ys:List V}{y:TW}{a:List (Int×PV)},RPs K U H xs ys->aG ys y->hZ xs=J a ->
  xs.length=a.length/\∀(i:Nat) u f,y[i]?=J u->a[i]?=J f->∃b w,u=.ref b/\SqT K H b [.int f.1,w]/\RP K U H f.2 w:=by
 intro xs
 induction xs with
 |nil =>
  intro ys y a r v e;cases r;cases v;cases e;exact⟨rfl,λi u f h=>by simp at h⟩
 |cons x xs E =>
  intro ys y a r v e
  cases r with
  |cons C F =>
   cases v with
   |cons R Q =>
    unfold hZ at e
    split at e
    .rename_i h;cases h
    .rename_i Z S r0 h
     injection h with j l
     subst j l;rw[As]at e;obtain⟨z,e1,rfl⟩:=e;obtain⟨L,hv⟩:=E F Q e1;refine⟨by simp[L],λi u f j l=>?_⟩
     cases i with
     |zero =>
      simp at j l;subst j l
      cases C with
      |tup sq rp =>
       cases rp with
       |cons P O=>cases O with
        |cons B M =>
         cases M;cases P;exact⟨_,_,R,sq,B⟩
     |succ i =>
      simp at j l;exact hv i u f j l
    .cases e
def oQ(K:hH)(x:Str)(i j:Int):Prop:=∃(a:Addr) (t l:Tok) (n:Nat) (f:Array (TZ)),PySem.W.nsIn K mainGlobals x=J (J (.ref a))/\K.lookup a=J ⟨.type "tuple",Y,.seq #[.int i t,.int j l] n,f⟩
def nN(K:hH)(mg:Cs)(x:Str)(i j:Int):Prop:=∃(a:Addr) (t l:Tok) (n:Nat) (f:Array (TZ)),mg x=J (.ref a)/\K.lookup a=J ⟨.type "tuple",Y,.seq #[.int i t,.int j l] n,f⟩
def DV{K:hH}{x:Str}{i j:Int}{a:Addr}{t u:Tok}{n:Nat}{f:Array (TZ)}(h:PySem.W.nsIn K mainGlobals x=J (J (.ref a)))(l:K.lookup a=J ⟨.type "tuple",Y,.seq #[.int i t,.int j u] n,f⟩):oQ K x i j:=⟨a,t,u,n,f,h,l⟩
def oQ.mg{K:hH}{mg:Cs}{base:Heap}{x:Str}{i j:Int}(z:oQ K x i j)(kin:K.In base)(ns:base.Ns mainGlobals mg):nN K mg x i j:=by obtain⟨a,t,u,n,f,h,l⟩:=z;exact⟨a,t,u,n,f,PySem.W.mg_of kin ns h,l⟩
def xZ(g:Good X N W G k){x:Str}{q:Nat}{i j:Int}{l:Pos}(u:G[q]?=J x)(f:nN X.K X.mg x i j):ME X (.Name x l) (mC (.tup [.int i,.int j])):=by obtain⟨a,t,C,n,E,f,B⟩:=f;have d:=g.dbg x (u_ _ (aM u));exact PE.imp (C4 (v:=.ref a) (g.gl x (aM u)) f rfl d.1) λZ H Q ⟨U,z,h,rs,y,q⟩=>q U H _ (Le.refl _ _) y (.tup (ys:=[.int i,.int j]) (.inr ⟨_,_,n,B,rfl,⟨rfl,rfl⟩,by show 2<=sizeLine;decide,.cons ⟨t,rfl⟩ (.cons ⟨C,rfl⟩ .nil)⟩) (.cons (.int _) (.cons (.int _) .nil)))
end
end MM
namespace L2
open PySem.Spec PyProof.Rows
section
variable{X:Cx}{e st:Expr}{te:TE}{hi:Option Expr}{th ts:TO}{pos p2:Pos}
end
end L2
namespace MM
open PySem.Spec PyProof.Rows L2
section
variable{X:Cx}{pos p2:Pos}
end
section
variable{X:Cx}{k:Nat}
end
end MM
namespace MM
open PySem.Spec PyProof.Rows L2 SetT SortT
section
variable{X:Cx}{N W G:TM}{k:Nat}
end
end MM
namespace L2
open PySem.Spec PyProof.Rows
section
variable{X:Cx}{a:Expr}{ta:TE}{pos:Pos}
end
end L2
namespace MM
open PySem.Spec PyProof.Rows L2
section
variable{X:Cx}{pos:Pos}
end
section
variable{X:Cx}
end
end MM
namespace MM
open PySem.Spec PyProof.Rows L2 DcT
def DW(a:List (ql×V))(k:ql):Option V:=(a.find? λf=>decide (f.1=k)).map (·.2)
def KV.val{a:List (ql×V)}{f:List (ql×Value)}(r:KV a f)(k:ql):gG (DW a k) (valueAt f k):=by
 unfold KV at r
 induction r with
 |nil=>exact True.intro
 |@cons p q y u h t l =>
  obtain⟨i,j⟩:=h;unfold DW valueAt at *;rw[NW,NW,<-i];by_cases e:p.1=k
  .simp only[e,decide_true];exact j
  .simp only[e,decide_false];exact l
def Im{a:List (ql×V)}{f:List (ql×Value)}(r:KV a f):a.length=f.length:=by
 unfold KV at r
 induction r with
 |nil=>rfl
 |cons h t i=>simp[i]
def q_(a:TN)(xs:List α)(i:Int):Option α:=match a,xs with
 |k::a,x::xs=>if k=i then J x else q_ a xs i
 |_,_=>Y
def i0(a:TN)(xs:List α)(i:Int)(v:α):TN×List α:=match a,xs with
 |k::a,x::xs=>if k=i then(k::a,v::xs)else(k::(i0 a xs i v).1,x::(i0 a xs i v).2)
 |_,_=>([i],[v])
def zY{a:TN}{xs:List α}{i:Int}{v:α}(h:xs.length=a.length):(i0 a xs i v).2.length=(i0 a xs i v).1.length/\(i0 a xs i v).1.length<=a.length+1:=by
 induction a generalizing xs with
 |nil=>simp[i0]
 |cons k a f =>
  cases xs with
  |nil=>simp at h
  |cons x xs =>
   simp at h;unfold i0;split
   .simp[h]
   .have:=f h
    simp only[B8];lia
def sL{a:TN}{ys:List V}{i:Int}(h:ys.length=a.length):DW (kz a ys) (.inl i)=q_ a ys i:=by
 induction a generalizing ys with
 |nil=>cases ys<;>rfl
 |cons k a f =>
  cases ys with
  |nil=>simp at h
  |cons y ys =>
   have:=f (ys:=ys) (by simpa using h)
   unfold kz DW at *;rw[nc,O0,NW,q_];by_cases e:k=i
   .simp[e]
   .simp only[show ¬(Sum.inl k:ql)=.inl i from λz=>e (by cases z;rfl),decide_false,e_ e];exact this
def fA{a:List (ql×Value)}{i:ql}:a.any (λf=>decide (f.1=i))=I↔i∈a.map Prod.fst:=by rw[List.any_eq_true,mm];exact⟨λ⟨x,h,e⟩=>⟨x,h,by simpa using e⟩,λ⟨x,h,e⟩=>⟨x,h,by simpa using e⟩⟩
def Io{f:TN}{ys:List V}{B:List (ql×Value)}{i:Int}{y:V}{u:Value}(h:ys.length=f.length)(nd:(B.map (·.1)).Nodup)(r:KV (kz f ys) B)(E:aJ y u):
  KV (kz (i0 f ys i y).1 (i0 f ys i y).2) (stored B (.inl i) u):=by
 induction f generalizing ys B with
 |nil =>
  have:B=[]:=by unfold KV at r;cases ys<;>cases r<;>rfl
  subst this;exact .cons ⟨rfl,E⟩ .nil
 |cons k f j =>
  cases ys with
  |nil=>simp at h
  |cons z ys =>
   have F:ys.length=f.length:=by simpa using h
   unfold KV at r
   cases r with
   |@cons _ q _ l H t =>
    obtain⟨M,L⟩:=q;obtain⟨e1,e2⟩:=H;cases e1;rw[nc,xk]at nd;have j:=j F nd.2 t;unfold stored at *;unfold i0;by_cases e:k=i
    .subst e;rw[b_ rfl,b_ (fA.mpr (by simp))];refine .cons ⟨by simp,by simp[E]⟩ ?_
     have:(l.map λa=>if a.1=(Sum.inl k:ql)then(a.1,u)else a)=l:=by
      conv=>rhs;rw[<-N0 l]
      refine CH λx G=>?_;rw[e_]
      .rfl
      .intro z;exact nd.1 (mm.mpr ⟨x,G,z⟩)
     show KV _ (l.map λa=>if a.1=(Sum.inl k:ql)then(a.1,u)else a);rw[this];exact t
    .have C:¬(Sum.inl k:ql)=.inl i:=λz=>e (by cases z;rfl);rw[e_ e];by_cases m:(Sum.inl i:ql)∈l.map Prod.fst
     .rw[b_ (fA.mpr m)]at j;rw[b_ (fA.mpr (l7 _ m))];exact .cons ⟨by simp[C],by simp[C,e2]⟩ j
     .rw[e_ (λz=>m (fA.mp z))]at j;rw[e_ (λz=>(mx.mp (fA.mp z)).elim (λz=>C z.symm) m)];exact .cons ⟨rfl,e2⟩ j
section
variable{K:hH}{U:TV}{H:Hp}
def qt{ks:TN}{xs:TL}{ys:List V}(r:RPs K U H xs ys)(i:Int):match q_ ks xs i with
  |some x=>∃y,q_ ks ys i=J y/\RP K U H x y
  |none=>q_ ks ys i=Y:=by
 induction ks generalizing xs ys with
 |nil=>cases xs<;>cases ys<;>rfl
 |cons k ks f =>
  cases r with
  |nil=>rfl
  |cons a t =>
   unfold q_;by_cases e:k=i
   .simp only[b_ e];exact⟨_,rfl,a⟩
   .simp only[e_ e];exact f t
def zZ{ks:TN}{xs:TL}{ys:List V}{v:PV}{y:V}(r:RPs K U H xs ys)(q:RP K U H v y)(i:Int):(i0 ks xs i v).1=(i0 ks ys i y).1/\RPs K U H (i0 ks xs i v).2 (i0 ks ys i y).2:=by
 induction ks generalizing xs ys with
 |nil=>exact⟨by simp[i0],by simpa [i0]using .cons q .nil⟩
 |cons k ks l =>
  cases r with
  |nil=>exact⟨rfl,.cons q .nil⟩
  |cons a t =>
   unfold i0;by_cases e:k=i
   .simp only[b_ e];exact⟨trivial,.cons q t⟩
   .simp only[e_ e];obtain⟨j,f⟩:=l t;exact⟨by rw[j],.cons a f⟩
end
def cy(h:MH)(y:PV):Option (Bool×TN×TL):=match y with
 |.loc n=>(match h[n]? with
  |some (.dic fz a xs)=>J (fz,a,xs)
  |_=>Y)
 |_=>Y
def jE{X:Cx}{U:TV}{H:Hp}{h:MH}{x:PV}{y:V}{fz:Bool}{i:TN}{xs:TL}(u:RH X.K X.mg U H h)(r:RP X.K U H x y)(e:cy h x=J (fz,i,xs)):
  ∃n a ys,x=.loc n/\U[n]?=J a/\y=.ref a/\h[n]?=J (.dic fz i xs)/\ys.length=i.length/\RPs X.K U H xs ys/\dO fz (H a) (.dK (kz i ys)):=by
 cases r with
 |@loc n a l =>
  obtain⟨o,j,B⟩:=u.obj l;unfold cy at e;dsimp only at e;rw[j]at e
  cases o with
  |dic f k z =>
   cases e;obtain⟨ys,e1,e2,e3⟩:=B;exact⟨n,a,ys,rfl,l,rfl,j,e1,e2,e3⟩
  |_=>cases e
 |_=>cases e
def sB(a:Bool)(x y:PV)(h:MH):TD:=match x,cy h y with
 |.int i,J (_,f,xs)=>.ok (.bl (if a then !(q_ f xs i).isSome else(q_ f xs i).isSome)) h
 |_,_=>.bad
def ni(x y:PV)(h:MH):TD:=match y,cy h x with
 |.int i,J (_,a,xs)=>Out.ofO (q_ a xs i) h
 |_,_=>.bad
section
variable{X:Cx}{N W G:TM}{k:Nat}
def Bw{K:hH}{U:TV}{H:Hp}{f:TN}{xs:TL}{ys:List V}{l:List (ql×Value)}{i:Int}(z:ys.length=f.length)(r:RPs K U H xs ys)(j:KV (kz f ys) l):(q_ f xs i).isSome=(valueAt l (.inl i)).isSome:=by
 have a:=KV.val j (.inl i);rw[sL z]at a;have b:=qt (ks:=f) r i
 cases e:q_ f xs i with
 |none =>
  rw[e]at b;dsimp only at b;rw[b]at a;rw[gG.none_of a];rfl
 |some x =>
  rw[e]at b;obtain⟨y,e1,_⟩:=b;rw[e1]at a;obtain⟨u,e2,_⟩:=gG.some_of a;rw[e2];rfl
def yH(j:Bool):zL X (compareOp (if j then .NotIn else .In)) (sB j):=by
 intro Lz s Z H x' y' u v Q f F B ⟨U,h,x,y,l,M,R,q⟩;unfold sB at q
 split at q
 .rename_i i fz ks xs O
  obtain⟨n,a,ys,rfl,en,rfl,S,P,E,d⟩:=jE l R O;cases M;obtain⟨t,rfl⟩:=F;cases B;obtain⟨z,hd,vs,C,L⟩:=mq f.hok d;have e:=Bw (i:=i) P E C
  cases j with
  |false =>
   refine wpAny_in_of (d3 _ _ i t) hd L.mapOf ⟨.bl _,H,f.tok _,rfl,?_⟩;rw[<-e];exact q U H _ (Le.refl _ _) l (.bl _)
  |true =>
   refine wpAny_notIn_of (d3 _ _ i t) hd L.mapOf ⟨.bl _,H,f.tok _,rfl,?_⟩;rw[<-e];exact q U H _ (Le.refl _ _) l (.bl _)
 .exact q.elim
def ym{ea b:Expr}{ma mb:Mx PV}{ap:Pos}(ha:ME X ea ma)(hb:ME X b mb)(hs:∀ov S,subscripted b T ov S=operate [ov,S] (getItem ov S):=by exact λ_ _=>rfl):ME X (.Subscript ea b ap) (az ni ma mb):=by
 intro Lz s Z H Q al ⟨U,f,h,rs,rh,q⟩;refine Subscript_ (kx (ha Lz s Z H (λx' E=>∃j O x,Le U H j E/\RH X.K X.mg j E O/\RP X.K j E x x'/\Ful X (RV' X) f j E ((mb f O).bind λy M=>(ni x y M).ne) Q) al ⟨U,f,h,rs,rh,Ful.bind q λj E x x' O _ l1 L rx q1=>⟨j,O,x,l1,L,rx,q1⟩⟩) λu s1 ⟨x',E,I1,r1,j,O,x,l1,L,rx,q1⟩=>kx (hb Lz s1 Z E (λy' F=>∃C M y,Le j E C F/\RH X.K X.mg C F M/\RP X.K C F y y'/\Ful X (RV' X) f C F (ni x y M).ne Q) I1 ⟨j,f,O,rs.le l1,L,Ful.bind q1 λC F y y' M _ l2 B R l=>⟨C,M,y,l2,B,R,l⟩⟩) λS s2 ⟨y',F,I2,r2,C,M,y,l2,B,R,l⟩=>?_);unfold ni at l
 split at l
 .rename_i i fz ks xs ed
  obtain⟨n,a,ys,rfl,en,rfl,eo,hl,ai,d⟩:=jE B (rx.le l2) ed;cases R;obtain⟨t,rfl⟩:=r2;cases r1;obtain⟨z,hd,vs,an,dd⟩:=mq I2.hok d
  cases ex:q_ ks xs i with
  |none=>rw[ex]at l;exact l.elim
  |some x =>
   rw[ex]at l;have b:=qt (ks:=ks) ai i;rw[ex]at b;obtain⟨y,e1,R⟩:=b;have ra:=KV.val an (.inl i);rw[sL hl,e1]at ra;obtain⟨w',hw,rw'⟩:=gG.some_of ra;have hT:=dd.typeIs (s:=s2);unfold subscriptTail;refine g_ ?_;rw[getitemInPython_of_ne hT.not_modules];refine g_ (wpAny_specialOf hT PySem.F.slot_dict_getitem.lookup ?_);have fin:wpAny (model X.prog X.w) X.A (subscripted b T (.ref a) (.int i t)) (λr P=>wpAny (model X.prog X.w) X.A (letTemporaryGo ea (.ref a) r >>= λ_=>pure r) (EP X Lz Z Q) X.xe P) X.xe s2:=by rw[hs (.ref a) (.int i t)];exact wpAny_operating (wpAny_getItem_of (d3 _ _ i t) dd.mapOf hw (g_ (wpAny_letTemporaryGo (j_ ⟨y,F,I2.tok _,rw',l C F _ (Le.refl _ _) B R⟩))))
   first
    |exact j_ (g_ fin)
    |exact g_ (j_ (g_ fin))
    |exact g_ fin
 .exact l.elim
def Sb(m:Mx PV)(l:Mx (TL)):Mx PV:=λZ h=>(m Z h).bind λx a=>match x,cy a x with
 |.loc n,J _=>(l Z a).bind λu f=>match u,cy f (.loc n) with
  |[.int i,d],J (_,j,xs)=>.ok ((q_ j xs i).getD d) f
  |_,_=>.bad
 |_,_=>.bad
def DX{u:TX}{Z:L2.St}{H:Hp}{s:Shared}{fz:Bool}{a:Addr}{j:List (ql×V)}(i:Inv X u Z H s)(d:dO fz (H a) (.dK j)):
  s.TypeIs (.ref a) "dict"/\(∀b,Value.ref a=.ref b->∃f,s.heap.get? b=J f/\f.dict=Y)/\(a==sysModules)=T:=by
 obtain⟨_,hd,B,_,l⟩:=mq i.hok d;refine⟨l.typeIs,λb q=>?_,hd⟩;cases q;obtain⟨f,_,_,y,z,_⟩:=l;exact⟨f,y,z.2.1⟩
def L_{o a b:Expr}{m:Mx PV}{ma:Mx (TL)}{P f:Pos}(he:ME X o m)(ha:MA X [a,b] ma)(ai:attributeBase o "get" X.env (eval o X.env)=eval o X.env:=by rfl)(as:((backTo f (starEach [a,b] X.env)).all (λx=>!x.1)&&(backToKw f (keywordEach [] X.env)).all (λx=>x.1.isSome)
   && decide ([a,b].length+([]:List Keyword).length+(if([]:List Keyword).isEmpty then 0 else 1)<30))=I:=by rfl)(S:(P.endLine==f.line)=I:=by rfl)(hs:starEach [a,b] X.env=(T,eval a X.env)::starEach [b] X.env:=by rfl)(E:(backTo f (starEach [b] X.env)).any (·.1)=T:=by rfl):
  ME X (.Call (.Attribute o "get" P) [a,b] [] f) (Sb m ma):=by
 intro Lz s Z H Q a5 ⟨U,j,h,rs,rh,q⟩
 refine wpAny_Call_method_late ai as S rfl (kx (he Lz s Z H (λx' O=>∃l h1 x,Le U H l O/\RH X.K X.mg l O h1/\RP X.K l O x x'/\Ful X (RV' X) j l O (match x,cy h1 x with
 |.loc n,J _=>(ma j h1).bind λF M=>match F,cy M (.loc n) with
  |[.int i,d],J (_,ks,xs)=>.ok ((q_ ks xs i).getD d) M
  |_,_=>.bad
 |_,_=>.bad) Q) a5 ⟨U,j,h,rs,rh,Ful.bind q λl O x x' h1 _ l1 C rx q1=>⟨l,h1,x,l1,C,rx,q1⟩⟩) λv s1 ⟨x',O,I1,r1,l,h1,x,l1,C,rx,q1⟩=>?_)
 split at q1
 .rename_i n w ew
  obtain⟨fz,ks,xs⟩:=w;obtain⟨_,ad,ys,e0,en,rfl,eo,hl,bm,d⟩:=jE C rx ew;cases e0;cases r1;obtain⟨t1,t2,_⟩:=DX I1 d;refine⟨"dict","dict.get",PySem.F.plainAttrs_dict,PySem.F.slot_dict_get,PySem.F.type_dict_get,t1,t2,?_⟩
  have hA:=ha f Lz s1 Z O (λal B=>∃u M F,Le l O u B/\RH X.K X.mg u B M/\RPs X.K u B F al/\Ful X (RV' X) j u B (match F,cy M (.loc n) with
   |[.int i,d],J (_,ks,xs)=>.ok ((q_ ks xs i).getD d) M
   |_,_=>.bad) Q) I1 ⟨l,j,h1,rs.le l1,C,Ful.bind q1 λu B F al M _ l2 L an q2=>⟨u,M,F,l2,L,an,q2⟩⟩
  rw[hs]at hA ⊢;refine Calls.callWith_builtin (by show(T||(backTo f (starEach [b] X.env)).any (·.1))=T;rw[E]<;>rfl) (Calls.evalArgs_plain ?_);refine kx hA λus s2 ⟨al,B,I2,r2,u,M,F,l2,L,an,q2⟩=>?_
  split at q2
  .rename_i i dd br R ar a0
   obtain⟨_,bv,a9,e0,b0,e1,a8,ay,ap,d2⟩:=jE L (.loc (l2.get en)) a0;cases e0;cases e1
   cases an with
   |cons a1 a2=>cases a2 with
    |cons a3 a4 =>
     cases a4;cases a1
     cases r2 with
     |cons b1 b2=>cases b2 with
      |@cons _ u3 _ _ b3 b4 =>
       cases b4;obtain⟨t,rfl⟩:=b1;obtain⟨z,hd,F,a6,de⟩:=mq I2.hok d2;have ra:=KV.val a6 (.inl i);rw[sL ay]at ra;have rb:=qt (ks:=R) ap i;have fin:∃v',aJ v' ((valueAt F (.inl i)).getD u3)/\RP X.K u B ((q_ R ar i).getD dd) v':=by
        cases ex:q_ R ar i with
        |none =>
         rw[ex]at rb;dsimp only at rb;rw[rb]at ra;rw[gG.none_of ra];exact⟨_,b3,a3⟩
        |some x =>
         rw[ex]at rb;obtain⟨y,e1,ry⟩:=rb;rw[e1]at ra;obtain⟨w',hw,rw'⟩:=gG.some_of ra;rw[hw];exact⟨y,rw',ry⟩
       obtain⟨v',a7,ax⟩:=fin;exact call_meetsIn PySem.F.slot_dict_get de.typeIs PySem.F.entry_dict_get (PySem.F.args_dict_get_3 _ _ _) (meets_dict_get_default (fN X.prog X.w) ad (d3 _ _ i t) hd _) ⟨_,de.mapOf,v',B,I2.tok _,a7,q2 u B _ (Le.refl _ _) L ax⟩
  .exact q2.elim
 .exact q1.elim
def kT(mo f mv:Mx PV):nw:=xx mv λv=>xx mo λo=>xx f λi Z h=>match o,i,cy h o with
 |.loc n,.int j,J (T,a,xs)=>if a.length<sizeLine then .nx Z (h.set n (.dic T (i0 a xs j v).1 (i0 a xs j v).2))else .bad
 |_,_,_=>.bad
def DY{o i y:Expr}{mo mi mv:Mx PV}{S O:Pos}(ho:ME X o mo)(hi:ME X i mi)(hv:ME X y mv)(hs:swapsWith y (J (.Subscript o i O)) S.line X.env=pure T:=by rfl):
  MS X (.Assign [.Subscript o i O] y S) (kT mo mi mv):=by
 intro Lz s Z H D as ⟨U,f,h,rs,rh,q⟩;unfold kT at q
 have kk:tM X (RV' X) mv Z H (λB H1=>tM X (RV' X) mo Z H1 λo' H2=>tM X (RV' X) mi Z H2 λi' C=>∃E F v o i,RH X.K X.mg E C F/\RS X.K E C f Z/\RP X.K E C v B/\RP X.K E C o o'/\RP X.K E C i i'/\bg X E C (match o,i,cy F o with
  |.loc n,.int j,J (T,l,xs)=>if l.length<sizeLine then .nx f (F.set n (.dic T (i0 l xs j v).1 (i0 l xs j v).2))else .bad
  |_,_,_=>.bad) D):=by
  refine⟨U,f,h,rs,rh,?_⟩;unfold xx at q
  cases e:mv f h with
  |exc x h1=>rw[e]at q;exact q
  |bad=>rw[e]at q;exact q
  |ok v h1 =>
   rw[e]at q;intro U1 H1 B M ax rv;dsimp only at q;refine⟨U1,f,h1,rs.le M,ax,?_⟩
   cases e2:mo f h1 with
   |exc x h2=>rw[e2]at q;exact XP.le (X:=X) (σp:=f) (x:=x) (h:=h2) M q
   |bad=>rw[e2]at q;exact q
   |ok ov h2 =>
    rw[e2]at q;intro U2 H2 o' Q a0 ro;dsimp only at q;refine⟨U2,f,h2,(rs.le M).le Q,a0,?_⟩
    cases e3:mi f h2 with
    |exc x F=>rw[e3]at q;exact XP.le (X:=X) (σp:=f) (x:=x) (h:=F) Q (XP.le (X:=X) (σp:=f) (x:=x) (h:=F) M q)
    |bad=>rw[e3]at q;exact q
    |ok iv F =>
     rw[e3]at q;intro E C i' l3 L ri;exact⟨E,F,v,ov,iv,L,((rs.le M).le Q).le l3,(rv.le Q).le l3,ro.le l3,ri,bg.le l3 (bg.le Q (bg.le M q))⟩
 refine wpAny_Assign_Subscript (kx (hv Lz s Z H _ as kk) λr s1 ⟨B,H1,I1,rv,q1⟩=>kx (ho Lz s1 Z H1 _ I1 q1) λu s2 ⟨o',H2,I2,ru,q2⟩=>kx (hi Lz s2 Z H2 _ I2 q2) λiv s3 ⟨i',C,I3,ri,E,F,v,ov,i,L,ay,pv,po,pi,P⟩=>?_) hs
 split at P
 .rename_i n j l xs ed
  obtain⟨_,a,ys,e0,en,rfl,eo,hl,ap,d⟩:=jE L po ed;cases e0;cases pi;obtain⟨t,rfl⟩:=ri;cases ru;by_cases hz:l.length<sizeLine
  .rw[b_ hz]at P;have d':C a=J (.dK (kz l ys)):=d;obtain⟨z,hd,vs,R,dd⟩:=mq I3.hok d;obtain⟨p1,p2⟩:=zZ (ks:=l) ap pv j;obtain⟨M,Q⟩:=zY (i:=j) (v:=B) hl;have nd:(vs.map (·.1)).Nodup:=by obtain⟨_,_,_,_,_,_,_,_,nd⟩:=dd;exact nd
   have ar:(kz (i0 l ys j B).1 (i0 l ys j B).2).length<=sizeLine:=by unfold kz;rw[List.length_zip,wv];lia
   refine wpAny_setItem_pairs (hsz:=by rw[<-Im R];exact z) (d3 _ _ j t) dd λh' ai an=>?_;have he:∃q,h'.get? a=J q:=let⟨q,_,_,hq,_⟩:=ai;⟨q,hq⟩;have I4:Inv X Lz Z (mf C a (.dK (kz (i0 l ys j B).1 (i0 l ys j B).2))) { s3 with heap:=h',toks:=s3.toks+1} :=
    I3.write (x:=a) (e:=a) (by rw[d'];exact True.intro) (.inl rfl) (λb q hb z=>(an.2 b hb).trans z) he ⟨ar,hd,_,Io hl nd R rv,ai⟩
   obtain⟨al,l4⟩:=L.put en (o:=.dic T (i0 l xs j v).1 (i0 l xs j v).2) (ho:=.dK (kz (i0 l ys j B).1 (i0 l ys j B).2)) ⟨(i0 l ys j B).2,by rw[p1];exact M,p2,by rw[p1];rfl⟩;exact⟨Z,_,I4,P E _ Z l4 al (ay.le l4)⟩
  .rw[e_ hz]at P;exact P.elim
 .exact P.elim
end
section
variable{X:Cx}{N W G:TM}{k:Nat}
local instance inhPV2:Inhabited PV:=⟨.non⟩
def yM{P:Program}{w:World}{j:List DictEntry}{f:List (Int×Value)}(p:Pairs (intKind P w) j f):Pairs (fN P w) j (f.map λi=>((Sum.inl i.1:ql),i.2)):=by
 induction p with
 |nil=>exact .nil
 |cons a b _ l=>exact .cons a b l
def Ip{P:Program}{w:World}{h:Heap}{a:Addr}{j:List (Int×Value)}(d:h.DictOf (intKind P w) a j):h.DictOf (fN P w) a (j.map λf=>((Sum.inl f.1:ql),f.2)):=by
 obtain⟨o,E,y,u,C,F,B,l,nd⟩:=d;refine⟨o,E,y,u,C,F,λe H=>?_,yM l,?_⟩
 .obtain⟨i,e1,e2⟩:=B e H;exact⟨.inl i,e1,e2⟩
 .rw[q7];rw[show((λx:ql×Value=>x.1)∘λf:Int×Value=>((Sum.inl f.1:ql),f.2))=(Sum.inl∘λf:Int×Value=>f.1)from rfl,<-q7];exact(C0.mpr (List.Pairwise.imp (λh z=>h (by cases z;rfl)) nd))
def Iq{K:hH}{U:TV}{H:Hp}:∀{kvs:List (Int×PV)}{vals:List (Int×Value)},kvs.length=vals.length->(∀(i:Nat) a b,kvs[i]?=J a->vals[i]?=J b->a.1=b.1/\∃v,aJ v b.2/\RP K U H a.2 v) ->
  ∃ys:List V,ys.length=(kvs.map (·.1)).length/\RPs K U H (kvs.map (·.2)) ys/\KV (kz (kvs.map (·.1)) ys) (vals.map λj=>((Sum.inl j.1:ql),j.2)):=by
 intro kvs
 induction kvs with
 |nil =>
  intro vals f _
  cases vals with
  |nil=>exact⟨[],rfl,.nil,.nil⟩
  |cons _ _=>simp at f
 |cons a kvs y =>
  intro vals f h
  cases vals with
  |nil=>simp at f
  |cons b vals =>
   obtain⟨ys,e1,e2,e3⟩:=y (by simpa using f) λi a b l z=>h (i+1) a b (by simpa using l) (by simpa using z);obtain⟨e,v,u,rp⟩:=h 0 a b rfl rfl;exact⟨v::ys,by simp at e1 ⊢;exact e1,.cons rp e2,.cons ⟨congrArg Sum.inl e,u⟩ e3⟩
def z7(f:TL)(h:MH):TD:=match f with
 |[x]=>(match L9 x with
  |some a=>.ok (.loc h.length) (h++[.dic T (a.map (·.1)) (a.map (·.2))])
  |none=>.bad)
 |_=>.bad
def wF(g:Good X N W G k):cG X (.type "dict") (λxs H Q=>∃U h ps f v,xs=[v]/\RH X.K X.mg U H h/\RP X.K U H (.tup ps) v/\hZ ps=J f/\(f.map (·.1)).Nodup /\
   ∀l ys,H l=Y->ys.length=(f.map (·.1)).length->RPs X.K U H (f.map (·.2)) ys->Q (.ref l) (mf H l (.dK (kz (f.map (·.1)) ys)))):=by
 intro Lz s Z H xs us Q C r ⟨U,h,ps,f,v,e,rh,rp,ep,nd,q⟩;subst e;obtain⟨u,rfl,ru⟩:=r.one
 cases rp with
 |tup sq P =>
  cases ru;obtain⟨y,rv,ht,hz⟩:=C.tupleN sq;obtain⟨hl,hv⟩:=xz P rv ep;have a9:=rv.length;have a8:=P.length;have ai:∀i,i<y.length->∃b t B,y[i]?=J (.ref b)/\s.heap.IsTuple b #[.int (f[i]!).1 t,B]/\∃w,aJ w B/\RP X.K U H (f[i]!).2 w:=by
   intro i R;have E:i<f.length:=by lia
   obtain⟨b,w,e1,e2,e3⟩:=hv i y[i] f[i] (by simp[R]) (by simp[E]);obtain⟨a7,ay,a0,_⟩:=C.tuple e2
   cases ay with
   |cons a1 a2=>cases a2 with
    |cons a3 a4 =>
     cases a4;obtain⟨t,rfl⟩:=a1;refine⟨b,t,_,by rw[xg R,e1],?_,w,a3,?_⟩
     .rw[getElem!_pos f i E];exact a0
     .rw[getElem!_pos f i E];exact e3
  have ar:∃j:List (Int×Value),j.length=y.length/\∀i,i<y.length->∃b t B,j[i]?=J ((f[i]!).1,B)/\y[i]?=J (.ref b)/\s.heap.IsTuple b #[.int (f[i]!).1 t,B]/\∃w,aJ w B/\RP X.K U H (f[i]!).2 w:=by
   have:∀n,n<=y.length->∃j:List (Int×Value),j.length=n/\∀i,i<n->∃b t B,j[i]?=J ((f[i]!).1,B)/\y[i]?=J (.ref b)/\s.heap.IsTuple b #[.int (f[i]!).1 t,B]/\∃w,aJ w B/\RP X.K U H (f[i]!).2 w:=by
    intro n
    induction n with
    |zero=>exact λ_=>⟨[],rfl,λi R=>absurd R (Nat.not_lt_zero _)⟩
    |succ n ih =>
     intro hn;obtain⟨vs,e1,e2⟩:=ih ⋯;obtain⟨b,t,B,f1,f2,f3⟩:=ai n ⋯;refine⟨vs++[((f[n]!).1,B)],by simp[e1],λi R=>?_⟩;by_cases z:i<n
     .obtain⟨b,t,B,F,g2⟩:=e2 i z;exact⟨b,t,B,by rw[qi ⋯];exact F,g2⟩
     .have:i=n:=by lia
      subst this;exact⟨b,t,B,by rw[Br ⋯,e1];simp,f1,f2,f3⟩
   exact this _ (i_ _)
  obtain⟨j,a6,M⟩:=ar;have L:j.map (·.1)=f.map (·.1):=by
   apply F8;intro i;by_cases z:i<y.length
   .obtain⟨_,_,_,F,_⟩:=M i z;have E:i<f.length:=by lia
    rw[qo,qo,F,xg E,getElem!_pos f i E];rfl
   .rw[Ce (by simp;lia),Ce (by simp;lia)]
  obtain⟨oa,an,ap,⟨na,al⟩,as⟩:=ht;refine oD (a:=_) (items:=y.toArray) (kvs:=j) (C.ok.hd g.calm) ⟨oa,na,an,ap,al,as⟩ (by simp[a6]) (by simp;lia) (L▸nd) (λi v kv S O=>?_) λh' tk hD hx=>?_
  .have z:i<y.length:=by
    have:=(o_.mp O).1
    lia
   obtain⟨b,t,B,F,g2,g3,_⟩:=M i z;rw[F]at O;cases O
   have:v=.ref b:=by
    have e:y.toArray[i]?=y[i]?:=by simp
    rw[e,g2]at S;exact(Option.some.inj S).symm
   exact⟨b,t,this,g3⟩
  .have hn:H s.heap.objs.size=Y:=C.hok.fresh (i_ _);have a5:=Inv.bigM C;obtain⟨ys,y1,y2,y3⟩:=Iq (K:=X.K) (U:=U) (H:=H) (kvs:=f) (vals:=j) ⋯ λi a b S O=>by
    have z:i<y.length:=by
     have:=(o_.mp O).1
     lia
    obtain⟨b',t,B,F,g2,g3,w,g4,g5⟩:=M i z;rw[F]at O;cases O;have E:i<f.length:=by lia
    rw[xg E]at S;cases S;rw[getElem!_pos f i E]at g5 ⊢;exact⟨rfl,w,g4,g5⟩
   have ax:(kz (f.map (·.1)) ys).length<=sizeLine:=by unfold kz;rw[List.length_zip,wv,wv];lia
   exact⟨.ref s.heap.objs.size,_,C.laid (o:=.dK (kz (f.map (·.1)) ys)) hx (i_ _) ⟨ax,beq_eq_false_iff_ne.mpr (BL a5),_,y3,Ip hD⟩,rfl,q _ ys hn y1 y2⟩
 |_=>cases ep
def DZ(g:Good X N W G k):cz X (.type "dict") z7:=by
 intro L s Z H xs F Q i r ⟨U,h,z,j,rp,q⟩;unfold z7 at q
 split at q
 .rename_i x
  cases rp with
  |cons B S =>
   cases S
   cases a:L9 x with
   |none=>rw[a]at q;exact q.elim
   |some f =>
    rw[a]at q;unfold L9 at a
    split at a
    .rename_i z
     split at a
     .rename_i y E
      split at a
      .rename_i nd
       cases a;refine wF g L s Z H _ F Q i r ⟨U,h,z,f,_,rfl,j,B,E,nd,λl ys O C M=>?_⟩;have R:RO X.K X.mg U H l (.dic T (f.map Prod.fst) (f.map Prod.snd)) (J (.dK (kz (f.map Prod.fst) ys))):=⟨ys,C,M,rfl⟩;obtain⟨u,P⟩:=j.new O R;exact q _ _ _ P u (.loc (by rw[<-j.len];simp))
      .cases a
     .cases a
    .cases a
 .exact q.elim
end
end MM
namespace PU
open MM
def ys{α:Type}{a b:α}(h:a=b):a=b:=h
inductive D where
 |non | bl (b:Bool) | int (i:Int) | str (x:Str) | tup (xs:List D) | lst (xs:List D) | dic (fz:Bool) (ks:TN) (ds:List D) | exc (c:Str) | pen
abbrev _root_.TU:=List D
abbrev _root_.Th:=Option D
abbrev d_:=Int×Int×Int
abbrev au:=List (Th)
def be(h:MH)(p:Nat)(s:d_):Prop:=h[p]?=J (.lst [.int s.1,.int s.2.1,.int s.2.2])
inductive Qu(P:TL->Prop)(v:PV):Prop
 |mk(xs:TL)(e:v=.tup xs)(r:P xs):Qu P v
inductive Sd(h:MH)(O:TR)(P:TL->Prop)(v:PV):Prop
 |mk(n:Nat)(xs:TL)(e:v=.loc n)(no:n∉O)(g:h[n]?=J (.lst xs))(r:P xs):Sd h O P v
inductive Sf(h:MH)(O:TR)(fz:Bool)(ks:TN)(P:TL->Prop)(v:PV):Prop
 |mk(n:Nat)(xs:TL)(e:v=.loc n)(no:n∉O)(g:h[n]?=J (.dic fz ks xs))(r:P xs):Sf h O fz ks P v
inductive Sh(h:MH)(O:TR)(o:MO)(v:PV):Prop
 |mk(n:Nat)(e:v=.loc n)(no:n∉O)(g:h[n]?=J o):Sh h O o v
inductive Qw(P:PV->Prop)(Q:TL->Prop)(vs:TL):Prop
 |mk(x:PV)(r:TL)(e:vs=x::r)(a:P x)(b:Q r):Qw P Q vs
mutual
def Rp(p:Nat)(h:MH)(O:TR):D->PV->Prop
 |.non,v=>v=.non
 |.bl b,v=>v=.bl b
 |.int i,v=>v=.int i
 |.str x,v=>v=.str x
 |.tup a,v=>Qu (Rps p h O a) v
 |.lst a,v=>Sd h O (Rps p h O a) v
 |.dic fz f a,v=>Sf h O fz f (Rps p h O a) v
 |.exc c,v=>Sh h O (.exc ⟨c,[]⟩) v
 |.pen,v=>v=.loc p
def Rps(p:Nat)(h:MH)(O:TR):TU->TL->Prop
 |[],a=>a=[]
 |d::f,a=>Qw (Rp p h O d) (Rps p h O f) a
end
def aE{h:MH}{n:Nat}{o:MO}(e:h[n]?=J o):n<h.length:=(o_.mp e).1
structure Mv(O:TR)(h:MH)(O':TR)(h':MH):Prop where
 keep:∀n:Nat,n<h.length->n∉O->h'[n]?=h[n]?
 new:∀o∈O',o∈O\/h.length<=o
def Mv.get{O a:TR}{h f:MH}(s:Mv O h a f){n:Nat}{o:MO}(e:h[n]?=J o)(no:n∉O):n∉a/\f[n]?=J o:=by
 have i:=aE e;refine⟨λz=>?_,(s.keep n i no).trans e⟩;rcases s.new n z with q|q
 .exact no q
 .lia
section
variable{p:Nat}{O O':TR}{h h':MH}
def Rp.mv(s:Mv O h O' h')(r:Rp p h O d v):Rp p h' O' d v:=by
 refine D.rec (motive_1:=λd=>∀v,Rp p h O d v->Rp p h' O' d v) (motive_2:=λf=>∀l,Rps p h O f l->Rps p h' O' f l)
  (λ_ r=>r) (λ_ _ r=>r) (λ_ _ r=>r) (λ_ _ r=>r) (λf i _ r=>?_) (λf i _ r=>?_) (λ_ _ f i _ r=>?_) (λ_ _ r=>?_) (λ_ r=>r) (λ_ r=>r) (λ_ _ i j _ r=>?_) d v r
 .obtain⟨xs,e,r⟩:=r;exact⟨xs,e,i _ r⟩
 .obtain⟨n,xs,e,no,g,r⟩:=r;exact⟨n,xs,e,(s.get g no).1,(s.get g no).2,i _ r⟩
 .obtain⟨n,xs,e,no,g,r⟩:=r;exact⟨n,xs,e,(s.get g no).1,(s.get g no).2,i _ r⟩
 .obtain⟨n,e,no,g⟩:=r;exact⟨n,e,(s.get g no).1,(s.get g no).2⟩
 .obtain⟨x,t,e,a,b⟩:=r;exact⟨x,t,e,i _ a,j _ b⟩
def Rps.mv(s:Mv O h O' h')(r:Rps p h O f vs):Rps p h' O' f vs:=by
 induction f generalizing vs with
 |nil=>exact r
 |cons d f i=>obtain⟨x,t,e,a,b⟩:=r;exact⟨x,t,e,a.mv s,i b⟩
def Rps.length(r:Rps p h O f vs):vs.length=f.length:=by
 induction f generalizing vs with
 |nil=>rw[show vs=[]from r];rfl
 |cons d f i=>obtain⟨x,t,e,a,b⟩:=r;rw[e,B8,B8,i b]
def Rps.get{f:TU}{j:TL}{i:Nat}{d:D}(r:Rps p h O f j)(g:f[i]?=J d):∃v,j[i]?=J v/\Rp p h O d v:=by
 induction f generalizing j i with
 |nil=>cases g
 |cons d f l =>
  obtain⟨x,t,e,a,b⟩:=r;subst e
  cases i with
  |zero=>cases g;exact⟨x,rfl,a⟩
  |succ i=>have z:=@l t i b g;exact z
def Rps.app(r:Rps p h O f vs)(s:Rps p h O es ws):Rps p h O (f++es) (vs++ws):=by
 induction f generalizing vs with
 |nil=>rw[show vs=[]from r];exact s
 |cons d f i=>obtain⟨x,t,e,a,b⟩:=r;subst e;exact⟨x,t++_,rfl,a,i b⟩
def Rps.take(n:Nat)(r:Rps p h O f vs):Rps p h O (f.take n) (vs.take n):=by
 induction f generalizing vs n with
 |nil=>rw[show vs=[]from r];cases n<;>rfl
 |cons d f i =>
  obtain⟨x,t,e,a,b⟩:=r;subst e
  cases n with
  |zero=>rfl
  |succ n=>exact⟨x,t.take n,rfl,a,i n b⟩
def Rps.drop(n:Nat)(r:Rps p h O f vs):Rps p h O (f.drop n) (vs.drop n):=by
 induction f generalizing vs n with
 |nil=>rw[show vs=[]from r];cases n<;>rfl
 |cons d f i =>
  cases n with
  |zero=>exact r
  |succ n=>obtain⟨x,t,e,a,b⟩:=r;subst e;exact i n b
def Rps.set(i:Nat)(r:Rps p h O f vs)(q:Rp p h O d v):Rps p h O (f.set i d) (vs.set i v):=by
 induction f generalizing vs i with
 |nil=>rw[show vs=[]from r];rfl
 |cons l f j =>
  obtain⟨x,t,e,a,b⟩:=r;subst e
  cases i with
  |zero=>exact⟨v,t,rfl,q,b⟩
  |succ i=>exact⟨x,t.set i v,rfl,a,j i b⟩
end
def dl:Option (TN)->TU->D
 |none,a=>.lst a
 |some f,a=>.dic T f a
def mo:Option (TN)->TL->MO
 |none,xs=>.lst xs
 |some a,xs=>.dic T a xs
def gC(e:D.lst ds=dl k es):k=Y/\ds=es:=by
 cases k with
 |none=>cases e;exact⟨rfl,rfl⟩
 |some _=>cases e
inductive Si(p:Nat)(h:MH)(L:Nat)(O:TR)(d:D)(v:PV):Prop
 |mk(n:Nat)(k:Option (TN))(xs:TL)(ds:TU)(e:d=dl k ds)(e':v=.loc n)(o:n∈O)(l:L<=n)(g:h[n]?=J (mo k xs))(r:Rps p h O ds xs):Si p h L O d v
def Vw(p:Nat)(h:MH)(L:Nat)(O:TR)(d:D)(v:PV):Prop:=Rp p h O d v\/Si p h L O d v
def Ir(p:Nat)(h:MH)(L:Nat)(O:TR):TU->TL->Prop
 |[],a=>a=[]
 |d::f,a=>Qw (Vw p h L O d) (Ir p h L O f) a
inductive Ma(p:Nat)(L:Nat)(O:TR)(h:MH)(k:Option (TN))(ds:TU)(v:PV):Prop
 |mk(n:Nat)(xs:TL)(e:v=.loc n)(l:L<=n)(g:h[n]?=J (mo k xs))(r:Rps p h (n::O) ds xs):Ma p L O h k ds v
def Frs(p:Nat)(L:Nat)(O:TR)(h:MH)(d:D)(v:PV):Prop:=∀k a,d=dl k a->Ma p L O h k a v
structure KB(p:Nat)(h h':MH):Prop where
 len:h.length<=h'.length
 keep:∀n:Nat,n<h.length->n≠p->h'[n]?=h[n]?
def KB.refl(p:Nat)(h:MH):KB p h h:=⟨i_ _,λ_ _ _=>rfl⟩
def KB.trans(a:KB p h h1)(b:KB p h1 h2):KB p h h2 :=
 ⟨pf a.len b.len,λn i f=>(b.keep n (xj i a.len) f).trans (a.keep n i f)⟩
def KB.app(p:Nat)(h g:MH):KB p h (h++g):=⟨by simp,λn a _=>qi a⟩
def KB.mv(k:KB p h h')(f:p∈O):Mv O h O h' :=
 ⟨λn i no=>k.keep n i λz=>no (z▸f),λo a=>.inl a⟩
def be.app{p:Nat}{h g:MH}{s:d_}(e:be h p s):be (h++g) p s:=by unfold be at *;rw[qi (aE e)];exact e
def Vw.kb{p L:Nat}{h f:MH}{O:TR}{d:D}{v:PV}(k:KB p h f)(a:p∈O)(hL:p<L)(w:Vw p h L O d v):Vw p f L O d v:=by
 rcases w with r|⟨n,i,xs,j,e1,e2,l,u,g,r⟩
 .exact .inl (r.mv (k.mv a))
 .exact .inr ⟨n,i,xs,j,e1,e2,l,u,(k.keep n (aE g) ⋯).trans g,r.mv (k.mv a)⟩
inductive PR(α:Type) where
 |ok(a:α)(s:d_)
 |exc(c:Str)(s:d_)
 |bad
def PR.bind{α β:Type}(r:PR α)(f:α->d_->PR β):PR β:=match r with
 |.ok a s=>f a s
 |.exc c s=>.exc c s
 |.bad=>.bad
@[simp]theorem Pb(a:α)(s:d_)(f:α->d_->PR β):(PR.ok a s).bind f=f a s:=rfl
@[simp]theorem Pe(c:Str)(s:d_)(f:α->d_->PR β):(PR.exc c s).bind f=.exc c s:=rfl
@[simp]theorem Pd(f:α->d_->PR β):(PR.bad:PR α).bind f=.bad:=rfl
def PR.of{α:Type}(o:Option α)(s:d_):PR α:=match o with
 |some a=>.ok a s
 |none=>.bad
@[simp]theorem Pf(a:α)(s:d_):PR.of (J a) s=.ok a s:=rfl
@[simp]theorem Pn(s:d_):PR.of (Y:Option α) s=.bad:=rfl
inductive Sj{α β:Type}(p:Nat)(h:MH)(o:Out β)(a:α)(s:d_)(R:MH->α->β->Prop):Prop
 |mk(b:β)(h':MH)(e:o=.ok b h')(k:KB p h h')(n:be h' p s)(r:R h' a b):Sj p h o a s R
inductive Sk{β:Type}(p:Nat)(h:MH)(o:Out β)(c:Str)(s:d_):Prop
 |mk(h':MH)(e:o=.exc ⟨c,[]⟩ h')(k:KB p h h')(n:be h' p s):Sk p h o c s
def Ok{α β:Type}(p:Nat)(h:MH)(o:Out β)(r:PR α)(R:MH->α->β->Prop):Prop:=match r with
 |.ok a s=>Sj p h o a s R
 |.exc c s=>Sk p h o c s
 |.bad=>True
def Ok.bind{α β γ δ:Type}{p:Nat}{h:MH}{o:Out β}{r:PR α}{R:MH->α->β->Prop}{f:β->MH->Out δ}{g:α->d_->PR γ}{S:MH->γ->δ->Prop}(q:Ok p h o r R)(k:∀a b i s,KB p h i->be i p s->R i a b->Ok p i (f b i) (g a s) S):Ok p h (o.bind f) (r.bind g) S:=by
 cases r with
 |ok a s =>
  obtain⟨b,i,rfl,kb,pn,z⟩:=q
  have:=k a b i s kb pn z
  rw[Out.bind_ok,Pb]
  cases e:g a s with
  |ok c B =>
   rw[e]at this;obtain⟨d,u,e2,l,j,y⟩:=this;exact⟨d,u,e2,kb.trans l,j,y⟩
  |exc c B =>
   rw[e]at this;obtain⟨u,e2,l,j⟩:=this;exact⟨u,e2,kb.trans l,j⟩
  |bad=>trivial
 |exc c s =>
  obtain⟨i,rfl,kb,pn⟩:=q;exact⟨i,rfl,kb,pn⟩
 |bad=>trivial
def Ok.imp{α β:Type}{p:Nat}{h:MH}{o:Out β}{r:PR α}{R S:MH->α->β->Prop}(q:Ok p h o r R)(k:∀f a b,KB p h f->R f a b->S f a b):Ok p h o r S:=by
 cases r with
 |ok a s=>obtain⟨b,i,e,kb,pn,j⟩:=q;exact⟨b,i,e,kb,pn,k _ _ _ kb j⟩
 |exc c s=>exact q
 |bad=>trivial
structure SR(p:Nat)(h:MH)(L:Nat)(O:TR)(ws:TR)(Z:n4)(env:au):Prop where
 len:Z.length=env.length
 fz:∀i d,env[i]?=J (J d)->i∉ws->∃v,Z[i]?=J (J v)/\Rp p h O d v
 ow:∀i d,env[i]?=J (J d)->i∈ws->∃n k xs ds,d=dl k ds/\Z[i]?=J (J (.loc n))/\n∈O/\L<=n/\h[n]?=J (mo k xs)/\Rps p h O ds xs
structure Cx(p:Nat)(h:MH)(L:Nat)(B O:TR)(ws:TR)(Z:n4)(env:au)(s:d_):Prop where
 bd:∀o∈O,o<h.length
 sub:∀o∈B,o∈O
 bb:∀o∈B,o<L
 pb:p∈B
 hL:L<=h.length
 pen:be h p s
 sr:SR p h L O ws Z env
section
variable{p L:Nat}{h h':MH}{B O ws:TR}{Z:n4}{env:au}{s s':d_}
def Cx.pO(c:Cx p h L B O ws Z env s):p∈O:=c.sub p c.pb
def Cx.pL(c:Cx p h L B O ws Z env s):p<L:=c.bb p c.pb
def SR.mv{j:TR}(m:Mv O h j h')(l:∀o∈O,o∈j)(y:∀n:Nat,n<h.length->L<=n->n∈O->h'[n]?=h[n]?)(r:SR p h L O ws Z env):SR p h' L j ws Z env :=
 ⟨r.len,λi d e f=>let⟨v,e1,q⟩:=r.fz i d e f;⟨v,e1,q.mv m⟩,λi d e f=>let⟨n,k,xs,u,e1,e2,a,b,g,q⟩:=r.ow i d e f;⟨n,k,xs,u,e1,e2,l n a,b,(y n (aE g) b a).trans g,q.mv m⟩⟩
def Cx.kb(c:Cx p h L B O ws Z env s)(k:KB p h h')(pn:be h' p s'):Cx p h' L B O ws Z env s' :=
 ⟨λo a=>xj (c.bd o a) k.len,c.sub,c.bb,c.pb,pf c.hL k.len,pn,c.sr.mv (k.mv c.pO) (λ_ h=>h) λn f i _=>k.keep n f (by have:=c.pL;lia)⟩
def Vw.base(w:Vw p h L O d v)(sub:∀o∈B,o∈O)(bb:∀o∈B,o<L):Rp p h B d v:=by
 have m:Mv O h B h:=⟨λ_ _ _=>rfl,λo a=>.inl (sub o a)⟩;rcases w with r|⟨n,k,xs,f,rfl,rfl,_,i,g,r⟩
 .exact r.mv m
 .cases k<;>exact⟨n,xs,rfl,λz=>by have:=bb n z;lia,g,r.mv m⟩
def Frs.rp(f:Frs p L' O h d v)(bd:∀o∈O,o<L')(e:d=dl k ds):Rp p h O d v:=by obtain⟨n,xs,e1,i,g,r⟩:=f k ds e;subst e;cases k<;>exact⟨n,xs,e1,λz=>by have:=bd n z;lia,g,r.mv ⟨λ_ _ _=>rfl,λo a=>.inl (l7 _ a)⟩⟩
def Frs.le(f:Frs p L2 O h d v)(a:L1<=L2):Frs p L1 O h d v:=λk i e =>
 let⟨n,xs,e1,j,g,r⟩:=f k i e;⟨n,xs,e1,pf a j,g,r⟩
end
abbrev Bd(h:MH)(O:TR):Prop:=∀o∈O,o<h.length
inductive Gv(p:Nat)(h:MH)(O:TR)(fr:Bool)(o:TD)(d:D):Prop
 |mk(v:PV)(g:MH)(e:o=.ok v (h++g))(r:Rp p (h++g) O d v)(f:fr=I->Frs p h.length O (h++g) d v):Gv p h O fr o d
structure Ot where
 m:PV->MH->TD
 p:D->Th
 fr:Bool
 ok:∀{q h L O a x d},Bd h O->Vw q h L O a x->p a=J d->Gv q h O fr (m x h) d
structure xD where
 m:PV->PV->MH->TD
 p:D->D->Th
 fr:Bool
 ok:∀{q h L O a x b y d},Bd h O->Vw q h L O a x->Vw q h L O b y->p a b=J d->Gv q h O fr (m x y h) d
structure BW where
 k:TL->MH->TD
 p:TU->Th
 fr:Bool
 ok:∀{q h L O as xs d},Bd h O->Ir q h L O as xs->p as=J d->Gv q h O fr (k xs h) d
structure Fn where
 m:TL->MH->TD
 p:TU->d_->PR D
 fr:Bool
 ok:∀{q h O vs ds s},Bd h O->q∈O->be h q s->Rps q h O ds vs->Ok q h (m vs h) (p ds s) (λh' d v=>Rp q h' O d v/\(fr=I->Frs q h.length O h' d v))
mutual
def flat:D->Bool
 |.lst _ | .dic _ _ _ | .exc _ | .pen=>T
 |.tup a=>f_ a
 |_=>I
def f_:TU->Bool
 |[]=>I
 |d::a=>flat d&&f_ a
end
section
variable{p:Nat}{h h':MH}{O O':TR}
mutual
def Rp.flat:∀{d:D}{v:PV},PU.flat d=I->Rp p h O d v->Rp p h' O' d v
 |.non,_,_,r=>r
 |.bl _,_,_,r=>r
 |.int _,_,_,r=>r
 |.str _,_,_,r=>r
 |.tup a,_,f,⟨xs,e,r⟩=>⟨xs,e,Rps.flat (by simpa [PU.flat]using f) r⟩
 |.lst a,_,f,_=>by simp[PU.flat]at f
 |.dic _ _ _,_,f,_=>by simp[PU.flat]at f
 |.exc _,_,f,_=>by simp[PU.flat]at f
 |.pen,_,f,_=>by simp[PU.flat]at f
def Rps.flat:∀{i:TU}{j:TL},PU.f_ i=I->Rps p h O i j->Rps p h' O' i j
 |[],_,_,r=>r
 |_::_,_,f,⟨x,t,e,a,b⟩=>⟨x,t,e,Rp.flat (by simp[PU.f_]at f;exact f.1) a,Rps.flat (by simp[PU.f_]at f;exact f.2) b⟩
end
end
structure Xe(ws:TR) where
 m:Mx PV
 p:au->d_->PR D
 fz:Bool
 fr:Bool
 ok:∀{q h L B O Z env s},Cx q h L B O ws Z env s->Ok q h (m Z h) (p env s) (λh' d v=>Vw q h' L O d v/\(fz=I->Rp q h' O d v)/\(fr=I->Frs q h.length O h' d v))
structure Xs(ws:TR) where
 m:Mx (TL)
 p:au->d_->PR (TU)
 fz:Bool
 ok:∀{q h L B O Z env s},Cx q h L B O ws Z env s->Ok q h (m Z h) (p env s) (λh' ds vs=>Ir q h' L O ds vs/\(fz=I->Rps q h' O ds vs))
structure Xt(ws:TR) where
 m:Mx Bool
 p:au->d_->PR Bool
 ok:∀{q h L B O Z env s},Cx q h L B O ws Z env s->Ok q h (m Z h) (p env s) (λ_ a b=>a=b)
noncomputable section
variable{ws:TR}
def B_{q L:Nat}{h a:MH}{O:TR}{o:TD}{d:D}{s:d_}{fr:Bool}(le:h.length<=a.length)(pn:be a q s)(g:Gv q a O fr o d):
  Ok q a o (.ok d s) (λi d v=>Vw q i L O d v/\(I=I->Rp q i O d v)/\(fr=I->Frs q h.length O i d v)):=by
 obtain⟨v,g,e,r,f⟩:=g;exact⟨v,a++g,e,KB.app _ _ _,pn.app,.inl r,λ_=>r,λz=>(f z).le le⟩
def aa(i:Nat):Xe ws where
 m:=ah i
 p:=λenv s=>match env[i]? with
  |some (J d)=>.ok d s
  |_=>.bad
 fz:=!ws.contains i
 fr:=T
 ok {q h L B O Z env s} c:=by
  show Ok q h _ (match env[i]? with|some (J d)=>PR.ok d s|_=>.bad) _
  cases e:env[i]? with
  |none=>trivial
  |some o =>
   cases o with
   |none=>trivial
   |some d =>
    by_cases z:i∈ws
    .obtain⟨n,k,xs,j,e1,e2,a,b,g,r⟩:=c.sr.ow i d e z;exact⟨.loc n,h,by simp[ah,e2],KB.refl _ _,c.pen,.inr ⟨n,k,xs,j,e1,rfl,a,b,g,r⟩,λf=>by simp[z]at f,λf=>by simp at f⟩
    .obtain⟨v,e1,r⟩:=c.sr.fz i d e z;exact⟨v,h,by simp[ah,e1],KB.refl _ _,c.pen,.inl r,λ_=>r,λf=>by simp at f⟩
inductive Cn where
 |non | bl (b:Bool) | int (i:Int) | str (x:Str)
def Cn.v:Cn->PV
 |.non=>.non
 |.bl b=>.bl b
 |.int i=>.int i
 |.str x=>.str x
def Cn.d:Cn->D
 |.non=>.non
 |.bl b=>.bl b
 |.int i=>.int i
 |.str x=>.str x
def Cn.rp(c:Cn){q:Nat}{h:MH}{O:TR}:Rp q h O c.d c.v:=by cases c<;>rfl
def xC(k:Cn):Xe ws where
 m:=mC k.v
 p:=λ_ s=>.ok k.d s
 fz:=I
 fr:=I
 ok {q h L B O Z env s} c:=⟨k.v,h,rfl,KB.refl _ _,c.pen,.inl k.rp,λ_=>k.rp,λ_ a f e=>by cases k<;>cases a<;>cases e⟩
def ac(o:xD)(a b:Xe ws):Xe ws where
 m:=az o.m a.m b.m
 p:=λenv s=>(a.p env s).bind λx C=>(b.p env C).bind λy E=>.of (o.p x y) E
 fz:=I
 fr:=o.fr
 ok {q h L B O Z env s} c:=by
  refine(a.ok c).bind λx v M C j z ⟨G,_,_⟩=>?_;refine(b.ok (c.kb j z)).bind λy w P E i l ⟨F,_,_⟩=>?_
  cases e:o.p x y with
  |none=>trivial
  |some d =>
   have H:=(c.kb j z).kb i l;obtain⟨u,g,e1,r,f⟩:=o.ok H.bd (G.kb i c.pO c.pL) F e;exact B_ (pf j.len i.len) l ⟨u,g,by rw[e1];rfl,r,f⟩
def r_(o:Ot)(a:Xe ws):Xe ws where
 m:=Lp o.m a.m
 p:=λenv s=>(a.p env s).bind λx l=>.of (o.p x) l
 fz:=I
 fr:=o.fr
 ok {q h L B O Z env s} c:=by
  refine(a.ok c).bind λx v z l i j ⟨y,_,_⟩=>?_
  cases e:o.p x with
  |none=>trivial
  |some d =>
   obtain⟨u,g,e1,r,f⟩:=o.ok (c.kb i j).bd y e;exact B_ i.len j ⟨u,g,by rw[e1];rfl,r,f⟩
def a_:Xs ws where
 m:=hG
 p:=λ_ s=>.ok [] s
 fz:=I
 ok {q h L B O Z env s} c:=⟨[],h,rfl,KB.refl _ _,c.pen,rfl,λ_=>rfl⟩
def ab(a:Xe ws)(r:Xs ws):Xs ws where
 m:=ag a.m r.m
 p:=λenv s=>(a.p env s).bind λx j=>(r.p env j).bind λy l=>.ok (x::y) l
 fz:=a.fz&&r.fz
 ok {q h L B O Z env s} c:=by refine(a.ok c).bind λx v M j C F ⟨E,z1,_⟩=>?_;refine(r.ok (c.kb C F)).bind λy w G l i u ⟨z,H⟩=>?_;refine⟨v::w,G,rfl,KB.refl _ _,u,⟨v,w,rfl,E.kb i c.pO c.pL,z⟩,λf=>?_⟩;rw[BA]at f;exact⟨v,w,rfl,(z1 f.1).mv (i.mv c.pO),H f.2⟩
def nz(o:BW)(a:Xs ws):Xe ws where
 m:=λZ h=>(a.m Z h).bind o.k
 p:=λenv s=>(a.p env s).bind λx j=>.of (o.p x) j
 fz:=I
 fr:=o.fr
 ok {q h L B O Z env s} c:=by
  refine(a.ok c).bind λx v u j f i ⟨l,_⟩=>?_
  cases e:o.p x with
  |none=>trivial
  |some d=>exact B_ f.len i (o.ok (c.kb f i).bd l e)
def ao(f:Fn)(a:Xs ws)(u:a.fz=I:=by exact ys rfl):Xe ws where
 m:=eX f.m a.m
 p:=λenv s=>(a.p env s).bind f.p
 fz:=I
 fr:=f.fr
 ok {q h L B O Z env s} c:=by refine(a.ok c).bind λx v C E i j ⟨_,z⟩=>?_;have l:=c.kb i j;refine(f.ok l.bd l.pO j (z u)).imp λy d v kb ⟨r,fr⟩=>⟨.inl r,λ_=>r,λz=>(fr z).le i.len⟩
def dL:100000<=sizeLine:=by decide
def mj(bd:Bd h O)(r:Rps q h O ds xs)(u:ds.length<=100000):Gv q h O I (se xs h) (.lst ds):=by
 have l:=r.length;have m:Mv O h O (h++[MO.lst xs]):=⟨λn f _=>qi f,λo a=>.inl a⟩
 have j:Mv O h (h.length::O) (h++[MO.lst xs]):=⟨λn f _=>qi f,λo a=>by
  rcases mx.mp a with z|z
  .exact .inr ⋯
  .exact .inl z⟩
 have g:(h++[MO.lst xs])[h.length]?=J (.lst xs):=by simp
 refine⟨.loc h.length,[.lst xs],?_,⟨_,_,rfl,λz=>by have:=bd _ z;lia,g,r.mv m⟩,λ_ k i e=>?_⟩
 .unfold se;rw[b_];have:=dL;lia
 .obtain⟨rfl,rfl⟩:=gC e;exact⟨_,_,rfl,i_ _,g,r.mv j⟩
def vo(r:Rps q h O ds xs)(i:ds.length<=100000):Gv q h O I (lw xs h) (.tup ds):=by
 have f:=r.length;refine⟨.tup xs,[],?_,?_,λ_ k a e=>by cases k<;>cases e⟩
 .unfold lw;rw[b_ (by have:=dL;lia)];simp
 .simpa using⟨xs,rfl,r⟩
def dH(a:Xs ws)(u:a.fz=I:=by exact ys rfl):Xe ws where
 m:=gK a.m
 p:=λenv s=>(a.p env s).bind λx l=>if x.length<=100000 then .ok (.lst x) l else .bad
 fz:=I
 fr:=I
 ok {q h L B O Z env s} c:=by
  refine(a.ok c).bind λx v y l i j ⟨_,z⟩=>?_;by_cases f:x.length<=100000
  .rw[b_ f];exact B_ i.len j (mj (c.kb i j).bd (z u) f)
  .rw[e_ f];trivial
def aO(a:Xs ws)(u:a.fz=I:=by exact ys rfl):Xe ws where
 m:=dA a.m
 p:=λenv s=>(a.p env s).bind λx i=>if x.length<=100000 then .ok (.tup x) i else .bad
 fz:=I
 fr:=I
 ok {q h L B O Z env s} c:=by
  refine(a.ok c).bind λx v y i j l ⟨_,z⟩=>?_;by_cases f:x.length<=100000
  .rw[b_ f];exact B_ j.len l (vo (z u) f)
  .rw[e_ f];trivial
def D_:Xe ws where
 m:=Hs
 p:=λ_ s=>.ok (.dic T [] []) s
 fz:=I
 fr:=I
 ok {q h L B O Z env s} c:=by
  have g:(h++[MO.dic T [] []])[h.length]?=J (.dic T [] []):=by simp
  have r:Rp q (h++[MO.dic T [] []]) O (.dic T [] []) (.loc h.length):=⟨_,[],rfl,λz=>by have:=c.bd _ z;lia,g,rfl⟩
  exact⟨.loc h.length,h++[.dic T [] []],rfl,KB.app _ _ _,c.pen.app,.inl r,λ_=>r,λ_ k a e=>by
   cases k with
   |none=>cases e
   |some f=>cases e;exact⟨_,[],rfl,i_ _,g,rfl⟩⟩
def Vw.bl(w:Vw q h L O (.bl b) v):v=.bl b:=by
 rcases w with r|⟨n,k,xs,a,e,_⟩
 .exact r
 .cases k<;>cases e
def PR.bl(r:PR D):PR Bool:=r.bind λd s=>match d with
 |.bl b=>.ok b s
 |_=>.bad
@[simp]theorem Pl:(PR.ok (D.bl b) s).bl=.ok b s:=rfl
def xB(a:Xe ws):Xt ws where
 m:=mB a.m
 p:=λenv s=>(a.p env s).bl
 ok {q h L B O Z env s} c:=by
  refine(a.ok c).bind λx v f l j i ⟨w,_,_⟩=>?_
  cases x with
  |bl b=>rw[w.bl];exact⟨b,f,rfl,KB.refl _ _,i,rfl⟩
  |_=>trivial
def bn(a:Xt ws):Xt ws where
 m:=G4 a.m
 p:=λenv s=>(a.p env s).bind λb s=>.ok (!b) s
 ok {q h L B O Z env s} c:=(a.ok c).bind λx v f l j i e=>⟨!v,f,rfl,KB.refl _ _,i,by rw[e]⟩
def s_(a b:Xt ws):Xt ws where
 m:=P4 a.m b.m
 p:=λenv s=>(a.p env s).bind λx s=>if x=I then .ok I s else b.p env s
 ok {q h L B O Z env s} c:=(a.ok c).bind λx v i l j f e=>by
  subst e
  cases x with
  |false=>simpa using b.ok (c.kb j f)
  |true=>exact⟨I,i,rfl,KB.refl _ _,f,rfl⟩
def n3:Xt ws where
 m:=n_
 p:=λ_ s=>.ok I s
 ok {q h L B O Z env s} c:=⟨I,h,rfl,KB.refl _ _,c.pen,rfl⟩
def Ok.after{α β:Type}{p:Nat}{h l:MH}{o:Out β}{r:PR α}{R:MH->α->β->Prop}(k:KB p h l)(q:Ok p l o r R):Ok p h o r R:=by
 cases r with
 |bad=>trivial
 |exc C z=>obtain⟨i,f,j,a⟩:=q;exact⟨i,f,k.trans j,a⟩
 |ok B z=>obtain⟨y,i,f,j,a,u⟩:=q;exact⟨y,i,f,k.trans j,a,u⟩
def FE(pn:be h q s):Ok q h (.ok (.bl b) h) (.ok (.bl b) s) (λa d v=>Vw q a L O d v/\(I=I->Rp q a O d v)/\(I=I->Frs q l O a d v)) :=
 ⟨.bl b,h,rfl,KB.refl _ _,pn,.inl rfl,λ_=>rfl,λ_ k f e=>by cases k<;>cases e⟩
def Iu(k:Ok q h o r (λa d v=>Vw q a L O d v/\(fz=I->Rp q a O d v)/\(fr=I->Frs q l' O a d v))):
  Ok q h o (r.bl.bind λb s=>.ok (.bl b) s) (λa d v=>Vw q a L O d v/\(I=I->Rp q a O d v)/\(I=I->Frs q l O a d v)):=by
 cases r with
 |bad=>trivial
 |exc c s=>exact k
 |ok d s =>
  obtain⟨v,a,e,kb,pn,w,_,_⟩:=k
  cases d with
  |bl b=>exact⟨v,a,e,kb,pn,w,λ_=>by rw[w.bl];rfl,λ_ k f e=>by cases k<;>cases e⟩
  |_=>trivial
def eU(a b:Xe ws):Xe ws where
 m:=wR a.m b.m
 p:=λenv s=>(a.p env s).bl.bind λx s=>if x=I then(b.p env s).bl.bind λy s=>.ok (.bl y) s else .ok (.bl T) s
 fz:=I
 fr:=I
 ok {q h L B O Z env s} c:=by
  have k:=a.ok c;show Ok q h ((a.m Z h).bind _) _ _
  cases e:a.p env s with
  |bad=>trivial
  |exc x G =>
   rw[e]at k;obtain⟨j,e1,f,i⟩:=k;rw[e1];exact⟨j,rfl,f,i⟩
  |ok d G =>
   rw[e]at k;obtain⟨v,j,e1,f,i,w,_,_⟩:=k
   cases d with
   |bl x =>
    rw[w.bl]at e1;rw[e1]
    cases x with
    |true =>
     exact Ok.after f (Iu (l:=h.length) (b.ok (c.kb f i)))
    |false =>
     obtain⟨F,C,z,H,u,E⟩:=FE (L:=L) (l:=h.length) (O:=O) (b:=T) i;exact⟨F,C,z,f.trans H,u,E⟩
   |_=>trivial
def mH(a:Xe ws):Xe ws where
 m:=wY a.m
 p:=λenv s=>(a.p env s).bl.bind λx s=>.ok (.bl (!x)) s
 fz:=I
 fr:=I
 ok {q h L B O Z env s} c:=by
  have k:=a.ok c;show Ok q h ((a.m Z h).bind _) _ _
  cases e:a.p env s with
  |bad=>trivial
  |exc x F =>
   rw[e]at k;obtain⟨j,e1,f,i⟩:=k;rw[e1];exact⟨j,rfl,f,i⟩
  |ok d F =>
   rw[e]at k;obtain⟨v,j,e1,f,i,w,_,_⟩:=k
   cases d with
   |bl x =>
    rw[w.bl]at e1;rw[e1];obtain⟨E,z,y,G,u,C⟩:=FE (L:=L) (l:=h.length) (O:=O) (b:=!x) i;exact⟨E,z,y,f.trans G,u,C⟩
   |_=>trivial
def Iv(t:Xt ws)(a b:Xe ws)(fz:Bool)(hf:fz=(a.fz&&b.fz):=by exact ys rfl):Xe ws where
 m:=G_ t.m a.m b.m
 p:=λenv s=>(t.p env s).bind λx s=>if x=I then a.p env s else b.p env s
 fz:=fz
 fr:=T
 ok {q h L B O Z env s} c:=(t.ok c).bind λx v u y i j e=>by
  subst e
  cases x with
  |true=>exact(a.ok (c.kb i j)).imp λl d v kb r=>⟨r.1,λf=>r.2.1 (by rw[hf,BA]at f;exact f.1),λf=>by simp at f⟩
  |false=>exact(b.ok (c.kb i j)).imp λl d v kb r=>⟨r.1,λf=>r.2.1 (by rw[hf,BA]at f;exact f.2),λf=>by simp at f⟩
def ot(f g:xD)(a b e:Xe ws):Xe ws where
 m:=oz f.m g.m a.m b.m e.m
 p:=λenv s=>(a.p env s).bind λx X=>(b.p env X).bind λy E=>match f.p x y with
  |some (.bl t)=>if t=I then(e.p env E).bind λz W=>.of (g.p y z) W else .ok (.bl T) E
  |_=>.bad
 fz:=I
 fr:=T
 ok {q h L B O Z env s} c:=by
  refine(a.ok c).bind λx v h1 X P Q ⟨w1,_,_⟩=>?_;refine(b.ok (c.kb P Q)).bind λy w i E H C ⟨F,_,_⟩=>?_;have U:=(c.kb P Q).kb H C
  cases e1:f.p x y with
  |none=>trivial
  |some d =>
   cases d with
   |bl t =>
    obtain⟨u,j,e2,r,_⟩:=f.ok U.bd (w1.kb H c.pO c.pL) F e1;have hu:u=.bl t:=r;subst hu;rw[e2];have l:=KB.app q i j;have R:=U.kb l C.app
    cases t with
    |true =>
     refine Ok.after l ?_;show Ok q (i++j) ((e.m Z (i++j)).bind _) _ _;refine(e.ok R).bind λz u h3 W G M ⟨w3,_,_⟩=>?_
     cases e4:g.p y z with
     |none=>trivial
     |some d =>
      obtain⟨u2,g2,e5,S,_⟩:=g.ok (R.kb G M).bd ((F.kb l c.pO c.pL).kb G c.pO c.pL) w3 e4;refine⟨u2,h3++g2,by rw[e5];rfl,KB.app _ _ _,M.app,.inl S,λ_=>S,λf=>by simp at f⟩
    |false=>exact⟨.bl T,i++j,rfl,l,C.app,.inl rfl,λ_=>rfl,λf=>by simp at f⟩
   |_=>trivial
end
structure Xi(ws:TR) where
 m:Mx MIt
 p:au->d_->PR (TU)
 fz:Bool
 ok:∀{q h L B O Z env s},Cx q h L B O ws Z env s->Ok q h (m Z h) (p env s) (λh' ds it=>Rps q h' O ds it.xs/\(∀g∈it.gd,h'[g.1]?=J (.lst g.2)/\g.1≠q)/\(fz=I->∀g∈it.gd,g.1∉O))
inductive GI(q:Nat)(h:MH)(O:TR)(ds as:TU)(xs:TL)(o:Out MIt):Prop
 |mk(it:MIt)(e:o=.ok it h)(r:Rps q h O ds it.xs)(g:∀g∈it.gd,h[g.1]?=J (.lst g.2)/\g.1≠q)(z:Rps q h O as xs->∀g∈it.gd,g.1∉O):GI q h O ds as xs o
structure J8 where
 k:TL->MH->Out MIt
 p:TU->Option (TU)
 ok:∀{q h L O as xs ds},q<L->q∈O->Bd h O->Ir q h L O as xs->p as=J ds->GI q h O ds as xs (k xs h)
def D.items:D->Option (TU)
 |.lst a=>J a
 |.tup a=>J a
 |_=>Y
@[simp]theorem qS:(D.lst ds).items=J ds:=rfl
@[simp]theorem rB:(D.tup ds).items=J ds:=rfl
noncomputable section
variable{ws:TR}
def bU(o:J8)(a:Xs ws):Xi ws where
 m:=λZ h=>(a.m Z h).bind o.k
 p:=λenv s=>(a.p env s).bind λx j=>.of (o.p x) j
 fz:=a.fz
 ok {q h L B O Z env s} c:=by
  refine(a.ok c).bind λx v y j C i ⟨w,z⟩=>?_
  cases e:o.p x with
  |none=>trivial
  |some F =>
   obtain⟨E,e1,r,l,u⟩:=o.ok c.pL c.pO (c.kb C i).bd w e;exact⟨E,y,e1,KB.refl _ _,i,r,l,λf=>u (z f)⟩
def Vw.seq(E:q<L)(u:q∈O)(w:Vw q h L O d v)(e:d.items=J ds):∃xs gd,qx v h=.ok ⟨xs,gd⟩ h/\Rps q h O ds xs/\(∀g∈gd,h[g.1]?=J (.lst g.2)/\g.1≠q)/\(Rp q h O d v->∀g∈gd,g.1∉O):=by
 have one:∀n xs,h[n]?=J (MO.lst xs)->n≠q->(∀g∈[(n,xs)],h[g.1]?=J (MO.lst g.2)/\g.1≠q):=λn xs g l y a=>by
  have:y=(n,xs):=by simpa using a
  subst this;exact⟨g,l⟩
 cases d with
 |lst i =>
  have:i=ds:=by simpa [D.items]using e
  subst this;rcases w with⟨n,xs,e1,no,g,r⟩|⟨n,j,xs,f,e0,e1,_,l,g,r⟩
  .subst e1;refine⟨xs,[(n,xs)],by simp only[qx,g],r,one n xs g (λz=>no (z▸u)),λ_ y a=>?_⟩
   have:y=(n,xs):=by simpa using a
   subst this;exact no
  .obtain⟨rfl,rfl⟩:=gC e0;subst e1;replace g:h[n]?=J (.lst xs):=g;refine⟨xs,[(n,xs)],by simp only[qx,g],r,one n xs g ⋯,λ⟨C,B,e1,no,_,_⟩ y a=>?_⟩
   have:y=(n,xs):=by simpa using a
   subst this;cases e1;exact no
 |tup i =>
  have:i=ds:=by simpa [D.items]using e
  subst this;rcases w with⟨xs,e1,r⟩|⟨n,j,xs,f,e0,_⟩
  .subst e1;exact⟨xs,[],rfl,r,(λ_ a=>nomatch a),λ_ _ a=>nomatch a⟩
  .cases j<;>cases e0
 |_=>simp[D.items]at e
def bo(a:Xe ws):Xi ws where
 m:=dY a.m
 p:=λenv s=>(a.p env s).bind λx i=>.of x.items i
 fz:=a.fz
 ok {q h L B O Z env s} c:=by
  refine(a.ok c).bind λx v u i C y ⟨w,z,_⟩=>?_
  cases e:x.items with
  |none=>trivial
  |some E =>
   obtain⟨xs,gd,e1,r,j,l⟩:=w.seq c.pL c.pO e;exact⟨⟨xs,gd⟩,u,e1,KB.refl _ _,y,r,j,λf=>l (z f)⟩
structure Xg(ws:TR) where
 m:Mg
 p:D->au->Option au
 ok:∀{q h L O Z env d v env'},SR q h L O ws Z env->Rp q h O d v->p d env=J env'->∃Z',m v Z h=.nx Z' h/\SR q h L O ws Z' env'/\∀i∈ws,Z'[i]?=Z[i]?/\env'[i]?=env[i]?
structure FF(ws:TR) where
 m:Dq
 p:TU->au->Option au
 ok:∀{q h L O Z env ds vs env'},SR q h L O ws Z env->Rps q h O ds vs->p ds env=J env'->∃Z',m vs Z h=.nx Z' h/\SR q h L O ws Z' env'/\∀i∈ws,Z'[i]?=Z[i]?/\env'[i]?=env[i]?
def SR.set(r:SR q h L O ws Z env)(B:i∉ws)(w:Rp q h O d v):SR q h L O ws (Z.set i (J v)) (env.set i (J d))/\∀j∈ws,(Z.set i (J v))[j]?=Z[j]?/\(env.set i (J d))[j]?=env[j]?:=by
 have ne:∀j∈ws,i≠j:=λj a z=>B (z▸a);refine⟨⟨by simp[r.len],λj e a l=>?_,λj e a l=>?_⟩,λj a=>⟨pu (ne j a),pu (ne j a)⟩⟩
 .by_cases z:i=j
  .subst z;have y:i<env.length:=by
    have:=(o_.mp a).1;simpa using this
   rw[x6 y]at a;cases a;exact⟨v,x6 (by rw[r.len];exact y),w⟩
  .rw[pu z]at a;obtain⟨u,e1,F⟩:=r.fz j e a l;exact⟨u,by rw[pu z];exact e1,F⟩
 .rw[pu (ne j l)]at a;obtain⟨n,C,xs,E,e1,e2,f⟩:=r.ow j e a l;exact⟨n,C,xs,E,e1,by rw[pu (ne j l)];exact e2,f⟩
def ki(i:Nat)(j:ws.contains i=T:=by exact ys rfl):Xg ws where
 m:=mh i
 p:=λd env=>J (env.set i (J d))
 ok {q h L O Z env d v env'} r w e:=by
  cases e;have f:i∉ws:=λz=>by simp[z]at j
  obtain⟨a,b⟩:=r.set f w;exact⟨_,rfl,a,b⟩
def z_:FF ws where
 m:=zN
 p:=λa env=>match a with
  |[]=>J env
  |_=>Y
 ok {q h L O Z env a vs env'} r w e:=by
  cases a with
  |nil =>
   cases e
   have:vs=[]:=w
   subst this;exact⟨Z,rfl,r,λ_ _=>⟨rfl,rfl⟩⟩
  |cons _ _=>cases e
def qa(a:Xg ws)(t:FF ws):FF ws where
 m:=p4 a.m t.m
 p:=λj env=>match j with
  |d::j=>(a.p d env).bind λf=>t.p j f
  |[]=>Y
 ok {q h L O Z env j vs env'} r w e:=by
  cases j with
  |nil=>cases e
  |cons d j =>
   obtain⟨x,y,rfl,B,E⟩:=w;dsimp only at e
   cases e1:a.p d env with
   |none=>rw[e1]at e;cases e
   |some f =>
    rw[e1]at e;obtain⟨P,F,G,z⟩:=a.ok r B e1;obtain⟨M,C,H,u⟩:=t.ok G E e;exact⟨M,by show(a.m x Z h).then (t.m y)=_;rw[F];exact C,H,λi l=>⟨(u i l).1.trans (z i l).1,(u i l).2.trans (z i l).2⟩⟩
def Aa(t:FF ws)(n:Nat):Xg ws where
 m:=zQ t.m n
 p:=λd env=>match d with
  |.tup f=>if f.length=n then t.p f env else Y
  |_=>Y
 ok {q h L O Z env d v env'} r w e:=by
  cases d with
  |tup f =>
   obtain⟨xs,rfl,w⟩:=w;dsimp only at e;by_cases z:f.length=n
   .rw[b_ z]at e;obtain⟨i,a,b⟩:=t.ok r w e;exact⟨i,by show(if xs.length=n then t.m xs Z h else .bad)=_;rw[b_ (by rw[w.length];exact z)];exact a,b⟩
   .rw[e_ z]at e;cases e
  |_=>cases e
def B1(a:Nat)(fm ws:TR):TR:=((List.range fm.length).filter λj=>ws.contains (fm.getD j 0)).map (a+·)
def wm(a:Nat)(fm:TR)(env:au):au:=List.replicate a Y++fm.map λi=>(env[i]?).getD Y
def PR.ne{α:Type}(r:PR α):PR α:=match r with
 |.exc _ _=>.bad
 |r=>r
@[simp]theorem PR.ne_ok(a:α)(s:d_):(PR.ok a s).ne=.ok a s:=rfl
def dB(g:D->au->Option au)(t:au->d_->PR Bool)(e:au->d_->PR D):TU->au->d_->PR (TU)
 |[],_,s=>.ok [] s
 |d::f,env,s=>match g d env with
  |none=>.bad
  |some a=>(t a s).bind λb i=>if b=I then(e a i).bind λx l=>(dB g t e f a l).bind λr j=>.ok (x::r) j else dB g t e f a i
def Mb{a:Nat}{fm:TR}{α:Type}{env:List (Option α)}{i:Nat}{d:α}(e:(List.replicate a Y++fm.map λi=>(env[i]?).getD Y)[i]?=J (J d)):∃j k,i=a+j/\fm[j]?=J k/\env[k]?=J (J d):=by
 by_cases z:i<a
 .rw[qi (by simpa using z)]at e;simp[z]at e
 .rw[Br (by simp;lia)]at e;simp only[Km,qo]at e
  cases f:fm[i-a]? with
  |none=>rw[f]at e;cases e
  |some k =>
   rw[f]at e;simp only[Fh,Option.some.injEq]at e;refine⟨i-a,k,⋯,f,?_⟩
   cases l:env[k]? with
   |none=>rw[l]at e;cases e
   |some o=>rw[l]at e;simp at e;rw[e]
def Mc{a:Nat}{fm:TR}{α:Type}{Z:List (Option α)}{j k:Nat}{v:α}(e1:fm[j]?=J k)(e2:Z[k]?=J (J v)):(List.replicate a Y++fm.map λi=>(Z[i]?).getD Y)[a+j]?=J (J v):=by rw[Br (by simp)];simp[e1,e2]
def vb(e:fm[j]?=J k):nv+j∈B1 nv fm ws↔k∈ws:=by
 have l:=(o_.mp e).1;have i:fm.getD j 0=k:=by simp[List.getD,e]
 unfold B1;rw[mm];constructor
 .rintro⟨a,f,y⟩
  have:a=j:=by lia
  subst this;rw[y_]at f
  have:=f.2
  rw[i]at this;simpa using this
 .intro u;exact⟨j,y_.mpr ⟨BQ.mpr l,by rw[i];simpa using u⟩,rfl⟩
def SR.comp{q:Nat}{h:MH}{L:Nat}{O:TR}{Z:n4}{env:au}(f:Nat)(fm:TR)(r:SR q h L O ws Z env):SR q h L O (B1 f fm ws) (CA f fm Z) (wm f fm env):=by
 refine⟨by simp[CA,wm],λi d e a=>?_,λi d e a=>?_⟩
 .obtain⟨j,k,rfl,e1,e2⟩:=Mb e;obtain⟨v,e3,w⟩:=r.fz k d e2 λz=>a ((vb e1).mpr z);exact⟨v,Mc e1 e3,w⟩
 .obtain⟨j,k,rfl,e1,e2⟩:=Mb e;obtain⟨n,l,xs,u,e0,e3,w⟩:=r.ow k d e2 ((vb e1).mp a);exact⟨n,l,xs,u,e0,Mc e1 e3,w⟩
def Iw(gt:Xg u)(t:Xt u)(e:Xe u)(hz:e.fz=I)(hq:q<h1.length)(gd:∀g∈it.gd,h1[g.1]?=J (.lst g.2)/\g.1≠q):
  ∀(Q:TU)(xs:TL)(env:au)(Z:n4)(h:MH)(j:TU)(f:TL)(s:d_)(r:TU)(s':d_),(∀i∈u,∀d,env[i]?=J (J d)->∀n,Z[i]?=J (J (.loc n))->n<h1.length)->KB q h1 h->Cx q h L B (h1.length::O) u Z env s->Rps q h (h1.length::O) Q xs->h[h1.length]?=J (.lst f)->Rps q h (h1.length::O) j f->j.length+Q.length<=100000 ->
  dB gt.p t.p e.p Q env s=.ok r s'->∃E U,z6 it h1.length gt.m t.m e.m xs Z h=.ok () E/\KB q h1 E/\be E q s'/\E[h1.length]?=J (.lst U)/\Rps q E (h1.length::O) (j++r) U:=by
 intro Q
 induction Q with
 |nil =>
  intro xs env Z h j f s r s' on kb c rx ga ra hl a
  have:xs=[]:=rx
  subst this;cases a;have ok:it.ok h:=λg R=>(kb.keep _ (aE (gd g R).1) (gd g R).2).trans (gd g R).1;exact⟨h,f,by rw[z6,b_ ok],kb,c.pen,ga,by simpa using ra⟩
 |cons d Q ih =>
  intro xs env Z h j f s r s' on kb c rx ga ra hl a;obtain⟨x,xr,rfl,r1,r2⟩:=rx;have ok:it.ok h:=λg R=>(kb.keep _ (aE (gd g R).1) (gd g R).2).trans (gd g R).1;rw[dB]at a
  cases eg:gt.p d env with
  |none=>rw[eg]at a;cases a
  |some l =>
   rw[eg]at a;dsimp only at a;obtain⟨Z1,f1,an,k1⟩:=gt.ok c.sr r1 eg;have P:∀i∈u,∀d,l[i]?=J (J d)->∀n,Z1[i]?=J (J (.loc n))->n<h1.length:=λi M d e n z=>on i M d ((k1 i M).2▸e) n ((k1 i M).1▸z);have c1:Cx q h L B (h1.length::O) u Z1 l s:=⟨c.bd,c.sub,c.bb,c.pb,c.hL,c.pen,an⟩;have kt:=t.ok c1
   cases et:t.p l s with
   |bad=>rw[et]at a;cases a
   |exc _ _=>rw[et]at a;cases a
   |ok b s1 =>
    rw[et]at a kt;obtain⟨b',h2,f2,W,p2,eb⟩:=kt;subst eb;have c2:=c1.kb W p2;have F:Mv (h1.length::O) h (h1.length::O) h2:=W.mv c.pO;have hn:h1.length<h.length:=aE ga;have S:h2[h1.length]?=J (.lst f):=(W.keep _ hn ⋯).trans ga;rw[Pb]at a
    cases b with
    |false =>
     rw[e_ (by simp)]at a;obtain⟨E,U,a1,a2⟩:=ih xr l Z1 h2 j f s1 r s' P (kb.trans W) c2 (r2.mv F) S (ra.mv F) (by simp at hl;lia) a;refine⟨E,U,?_,a2⟩;rw[z6,b_ ok,f1];simp only[f2,Out.ne_ok,Out.bind_ok,n7,if_false];exact a1
    |true =>
     rw[b_ rfl]at a;have ke:=e.ok c2
     cases ee:e.p l s1 with
     |bad=>rw[ee]at a;cases a
     |exc _ _=>rw[ee]at a;cases a
     |ok y s2 =>
      rw[ee]at a ke;obtain⟨v,G,f3,k3,p3,_,rv,_⟩:=ke;have rv:=rv hz;have H:=c2.kb k3 p3;have al:Mv (h1.length::O) h2 (h1.length::O) G:=k3.mv c.pO;have ai:G[h1.length]?=J (.lst f):=(k3.keep _ (aE S) ⋯).trans S;have C:Mv (h1.length::O) G (h1.length::O) (G.set h1.length (.lst (f++[v]))) :=
       ⟨λn hn no=>pu (λz=>no (by simp[z])),λo ho=>.inl ho⟩
      have ap:Rps q G (h1.length::O) (j++[y]) (f++[v]):=((ra.mv F).mv al).app ⟨v,[],rfl,rv,rfl⟩;rw[Pb]at a
      cases er:dB gt.p t.p e.p Q l s2 with
      |bad=>rw[er]at a;cases a
      |exc _ _=>rw[er]at a;cases a
      |ok r' s3 =>
       rw[er]at a;cases a;have X:KB q h1 G:=(kb.trans W).trans k3;have c4:Cx q (G.set h1.length (.lst (f++[v]))) L B (h1.length::O) u Z1 l s2:=by
        refine⟨λo ho=>by simpa using H.bd o ho,H.sub,H.bb,H.pb,by simpa using H.hL,?_,?_⟩
        .unfold be;rw[pu ⋯];exact p3
        .refine⟨H.sr.len,λi d e M=>let⟨v,e1,q1⟩:=H.sr.fz i d e M;⟨v,e1,q1.mv C⟩,λi d e M=>?_⟩;obtain⟨n,kd,ys,es,b1,b2,b3,b4,b5,b6⟩:=H.sr.ow i d e M;have z:=P i M d e n b2;exact⟨n,kd,ys,es,b1,b2,b3,b4,by rw[pu ⋯];exact b5,b6.mv C⟩
       obtain⟨E,U,a1,a2,a3,a4,a5⟩:=ih xr l Z1 (G.set h1.length (.lst (f++[v]))) (j++[y]) (f++[v]) s2 r' _ P ⟨by simpa using X.len,λn hn hp=>by rw[pu ⋯];exact X.keep n hn hp⟩ c4 (((r2.mv F).mv al).mv C) (x6 (aE ai)) (ap.mv C) (by simp at hl ⊢;lia) er;refine⟨E,U,?_,a2,a3,a4,by simpa using a5⟩;rw[z6,b_ ok,f1];simp only[f2,Out.ne_ok,Out.bind_ok,if_true,f3,ai];rw[b_ (by have:=dL;have:=ra.length;simp at hl;lia)];exact a1
def aU(a:Nat)(fm:TR)(i:Xi ws){ws':TR}(g:Xg ws')(t:Xt ws')(e:Xe ws')(hw:B1 a fm ws=ws':=by exact ys rfl)(hz:e.fz=I:=by exact ys rfl):Xe ws where
 m:=bV a fm i.m g.m t.m e.m
 p:=λenv s=>(i.p env s).bind λl y=>if l.length<=100000 then (match dB g.p t.p e.p l (wm a fm env) y with
  |.ok r G=>.ok (.lst r) G
  |_=>.bad)else .bad
 fz:=I
 fr:=I
 ok {q h L B O Z env s} c:=by
  subst hw;refine(i.ok c).bind λl it j y P E ⟨X,gd,_⟩=>?_;have C:=c.kb P E;by_cases F:l.length<=100000
  .rw[b_ F]
   cases U:dB g.p t.p e.p l (wm a fm env) y with
   |bad=>trivial
   |exc _ _=>trivial
   |ok r G =>
    have mv:Mv O j (j.length::O) (j++[MO.lst []]):=⟨λn H _=>qi H,λo u=>by
     rcases mx.mp u with z|z
     .exact .inr ⋯
     .exact .inl z⟩
    have sr:=(C.sr.comp a fm).mv mv (λo u=>l7 _ u) λn H _ _=>qi H;have c2:Cx q (j++[MO.lst []]) L B (j.length::O) (B1 a fm ws) (CA a fm Z) (wm a fm env) y:=by
     refine⟨λo u=>?_,λo u=>l7 _ (c.sub o u),c.bb,c.pb,by have:=C.hL;simp;lia,E.app,sr⟩;rcases mx.mp u with z|z
     .subst z;simp
     .have:=C.bd o z;simp;lia
    have hq:q<j.length:=aE E
    obtain⟨M,zs,a1,a2,S,a4,a5⟩:=Iw g t e hz (L:=L) (B:=B) (O:=O) hq gd l it.xs (wm a fm env) (CA a fm Z) (j++[MO.lst []]) [] [] y r G (λi W d ed n R=>by
     obtain⟨n',_,_,_,_,b2,_,_,b5,_⟩:=(C.sr.comp a fm).ow i d ed W;rw[b2]at R;cases R
     exact aE b5) (KB.app _ _ _) c2 (X.mv mv) (by simp) rfl (by simpa using F) U
    have f:Frs q h.length O M (.lst r) (.loc j.length):=λk l e=>by
     obtain⟨rfl,rfl⟩:=gC e;exact⟨_,zs,rfl,P.len,a4,by simpa using a5⟩
    have Q:=f.rp (k:=Y) c.bd rfl;exact⟨.loc j.length,M,by show(z6 _ _ _ _ _ _ _ _).bind _=_;rw[a1];rfl,a2,S,.inl Q,λ_=>Q,λ_=>f⟩
  .rw[e_ F];trivial
end
inductive PS where
 |nx(e:au)(s:d_)
 |rt(d:D)(s:d_)
 |bk(e:au)(s:d_)
 |ct(e:au)(s:d_)
 |exc(c:Str)(e:au)(s:d_)
 |rse(c:Str)(e:au)(s:d_)
 |bad
structure Stp(q L:Nat)(h:MH)(O:TR)(h':MH)(O':TR):Prop where
 len:h.length<=h'.length
 mv:Mv O h O' h'
 sub:∀o∈O,o∈O'
 base:∀n:Nat,n<L->n≠q->h'[n]?=h[n]?
def Stp.refl(q L:Nat)(h:MH)(O:TR):Stp q L h O h O:=⟨i_ _,⟨λ_ _ _=>rfl,λ_ h=>.inl h⟩,λ_ h=>h,λ_ _ _=>rfl⟩
def Stp.trans(a:Stp q L h O h1 O1)(b:Stp q L h1 O1 h2 O2):Stp q L h O h2 O2:=by
 refine⟨pf a.len b.len,⟨λn f no=>?_,λo i=>?_⟩,λo i=>b.sub o (a.sub o i),λn f j=>(b.base n f j).trans (a.base n f j)⟩
 .have l:n∉O1:=λz=>by
   rcases a.mv.new n z with q|q
   .exact no q
   .lia
  exact(b.mv.keep n (xj f a.len) l).trans (a.mv.keep n f no)
 .rcases b.mv.new o i with z|z
  .exact a.mv.new o z
  .exact .inr (pf a.len z)
def Dis(a:TR)(Z:n4)(env:au):Prop:=∀i j,i∈a->j∈a->i≠j->∀d f n,env[i]?=J (J d)->env[j]?=J (J f)->Z[i]?=J (J (.loc n))->Z[j]?≠J (J (.loc n))
inductive Nxt(q L:Nat)(h:MH)(B O ws:TR)(Z':n4)(h':MH)(env:au)(s:d_):Prop
 |mk(O':TR)(a:Stp q L h O h' O')(c:Cx q h' L B O' ws Z' env s)(d:Dis ws Z' env):Nxt q L h B O ws Z' h' env s
inductive J9(q L:Nat)(h:MH)(B O ws:TR)(f:n4->MH->SOut)(o:SOut)(env:au)(s:d_):Prop
 |mk(Z':n4)(h':MH)(e:o=f Z' h')(n:Nxt q L h B O ws Z' h' env s):J9 q L h B O ws f o env s
inductive Sl(q L:Nat)(h:MH)(B:TR)(fr:Bool)(o:SOut)(d:D)(s:d_):Prop
 |mk(v:PV)(h':MH)(e:o=.rt v h')(l:h.length<=h'.length)(b:∀n:Nat,n<L->n≠q->h'[n]?=h[n]?)(p:be h' q s)(r:Rp q h' B d v)(f:fr=I->Frs q L B h' d v):Sl q L h B fr o d s
def SOk(q L:Nat)(h:MH)(B O a:TR)(fr:Bool)(o:SOut)(r:PS):Prop:=match r with
 |.nx env s=>J9 q L h B O a .nx o env s
 |.bk env s=>J9 q L h B O a .bk o env s
 |.ct env s=>J9 q L h B O a .ct o env s
 |.exc c env s=>J9 q L h B O a (.exc ⟨c,[]⟩) o env s
 |.rse c env s=>J9 q L h B O a (.rse ⟨c,[]⟩) o env s
 |.rt d s=>Sl q L h B fr o d s
 |.bad=>True
structure Xd(ws:TR) where
 m:nw
 p:au->d_->PS
 fr:Bool
 ok:∀{q h L B O Z env s},Cx q h L B O ws Z env s->Dis ws Z env->SOk q L h B O ws fr (m Z h) (p env s)
def Nxt.after(a:Stp q L h O h1 O1)(n:Nxt q L h1 B O1 ws Z' h' env s):Nxt q L h B O ws Z' h' env s :=
 let⟨f,b,c,d⟩:=n;⟨f,a.trans b,c,d⟩
def SOk.after(a:Stp q L h O h1 O1)(k:SOk q L h1 B O1 ws fr o r):SOk q L h B O ws fr o r:=by
 cases r with
 |nx env s=>obtain⟨i,f,e,n⟩:=k;exact⟨i,f,e,n.after a⟩
 |bk env s=>obtain⟨i,f,e,n⟩:=k;exact⟨i,f,e,n.after a⟩
 |ct env s=>obtain⟨i,f,e,n⟩:=k;exact⟨i,f,e,n.after a⟩
 |exc c env s=>obtain⟨i,f,e,n⟩:=k;exact⟨i,f,e,n.after a⟩
 |rse c env s=>obtain⟨i,f,e,n⟩:=k;exact⟨i,f,e,n.after a⟩
 |rt d s=>obtain⟨v,f,e,l,b,y,C,z⟩:=k;exact⟨v,f,e,pf a.len l,λn u j=>(b n u j).trans (a.base n u j),y,C,z⟩
 |bad=>trivial
def SOk.fr(hf:f'=I->f=I)(k:SOk q L h B O ws f o r):SOk q L h B O ws f' o r:=by
 cases r with
 |rt d s=>obtain⟨v,a,e,l,b,p,r,z⟩:=k;exact⟨v,a,e,l,b,p,r,λy=>z (hf y)⟩
 |nx env s=>exact k
 |bk env s=>exact k
 |ct env s=>exact k
 |exc c env s=>exact k
 |rse c env s=>exact k
 |bad=>trivial
def KB.stp(c:Cx q h L B O ws Z env s)(k:KB q h h'):Stp q L h O h' O :=
 ⟨k.len,k.mv c.pO,λ_ h=>h,λn f a=>k.keep n (xj f c.hL) a⟩
def PR.go{α:Type}(r:PR α)(env:au)(k:α->au->d_->PS):PS:=match r with
 |.ok a s=>k a env s
 |.exc c s=>.exc c env s
 |.bad=>.bad
@[simp]theorem Pg(a:α)(s:d_)(env:au)(k:α->au->d_->PS):(PR.ok a s).go env k=k a env s:=rfl
@[simp]theorem PR.go_exc(c:Str)(s:d_)(env:au)(k:α->au->d_->PS):(PR.exc c s:PR α).go env k=.exc c env s:=rfl
@[simp]theorem PR.go_bad(env:au)(k:α->au->d_->PS):(PR.bad:PR α).go env k=.bad:=rfl
theorem SOk.ex{α β:Type}{q L:Nat}{h:MH}{B O j:TR}{fr:Bool}{Z:n4}{env:au}{s:d_}{o:Out β}{r:PR α}{R:MH->α->β->Prop}{f:β->nw}{g:α->au->d_->PS}(c:Cx q h L B O j Z env s)(d:Dis j Z env)(k:Ok q h o r R)(n:∀a b i l,KB q h i->Cx q i L B O j Z env l->R i a b->SOk q L i B O j fr (f b Z i) (g a env l)):
  SOk q L h B O j fr (o.go Z f) (r.go env g):=by
 cases r with
 |ok a l =>
  obtain⟨b,i,rfl,kb,pn,u⟩:=k;exact(n a b i l kb (c.kb kb pn) u).after (kb.stp c)
 |exc x l =>
  obtain⟨i,rfl,kb,pn⟩:=k;exact⟨Z,i,rfl,O,kb.stp c,c.kb kb pn,d⟩
 |bad=>trivial
noncomputable section
variable{ws:TR}
def PS.then(r:PS)(k:au->d_->PS):PS:=match r with
 |.nx env s=>k env s
 |r=>r
@[simp]theorem aw:(PS.nx env s).then k=k env s:=rfl
@[simp]theorem then_rt:(PS.rt d s).then k=.rt d s:=rfl
@[simp]theorem then_bk:(PS.bk env s).then k=.bk env s:=rfl
@[simp]theorem then_ct:(PS.ct env s).then k=.ct env s:=rfl
@[simp]theorem AC:(PS.exc c env s).then k=.exc c env s:=rfl
@[simp]theorem Al:(PS.rse c env s).then k=.rse c env s:=rfl
@[simp]theorem Bm:PS.bad.then k=.bad:=rfl
def aH(a b:Xd ws):Xd ws where
 m:=cw a.m b.m
 p:=λenv s=>(a.p env s).then b.p
 fr:=a.fr&&b.fr
 ok {q h L B O Z env s} c d:=by
  have k:=a.ok c d;show SOk q L h B O ws _ ((a.m Z h).then b.m) _
  cases e:a.p env s with
  |nx i u =>
   rw[e]at k;obtain⟨M,P,e1,Q,st,H,F⟩:=k;rw[e1];exact((b.ok H F).fr (by simp)).after st
  |rt x u=>rw[e]at k;obtain⟨v,j,e1,z,E,C,y,G⟩:=k;rw[e1];exact SOk.fr (f:=a.fr) (by simp;exact λh _=>h) (show SOk q L h B O ws a.fr (.rt v j) (.rt x u) from⟨v,j,rfl,z,E,C,y,G⟩)
  |bk i u=>rw[e]at k;obtain⟨l,j,e1,r⟩:=k;rw[e1];exact⟨l,j,rfl,r⟩
  |ct i u=>rw[e]at k;obtain⟨l,j,e1,r⟩:=k;rw[e1];exact⟨l,j,rfl,r⟩
  |exc x i u=>rw[e]at k;obtain⟨l,j,e1,r⟩:=k;rw[e1];exact⟨l,j,rfl,r⟩
  |rse x i u=>rw[e]at k;obtain⟨l,j,e1,r⟩:=k;rw[e1];exact⟨l,j,rfl,r⟩
  |bad=>trivial
def iw:Xd ws where
 m:=pj
 p:=.nx
 fr:=I
 ok {q h L B O Z env s} c d:=⟨Z,h,rfl,O,Stp.refl _ _ _ _,c,d⟩
def Ix{m:Mx PV}{Z:n4}{h:MH}:cR m Z h=(m Z h).go Z λv _ a=>.rt v a:=by unfold cR;cases m Z h<;>rfl
def aK(e:Xe ws):Xd ws where
 m:=cR e.m
 p:=λenv s=>(e.p env s).go env λd _ s=>.rt d s
 fr:=e.fr
 ok {q h L B O Z env s} c d:=by
  rw[Ix];refine SOk.ex (f:=λv _ j=>.rt v j) (g:=λd _ s=>.rt d s) c d (e.ok c) λx v l H kb a ⟨w,z,f⟩=>?_;refine⟨v,l,rfl,i_ _,λ_ _ _=>rfl,a.pen,w.base a.sub a.bb,λy=>?_⟩;intro k C E;obtain⟨n,xs,u,M,i,G⟩:=f y k C E
  have:=c.hL
  exact⟨n,xs,u,⋯,i,G.mv ⟨λ_ _ _=>rfl,λo F=>.inl (by
   rcases mx.mp F with z|z
   .subst z;simp
   .exact l7 _ (c.sub o z))⟩⟩
def rT(i:Nat)(C:ws.contains i=I:=by exact ys rfl):Xd ws where
 m:=cR (ah i)
 p:=λenv s=>match env[i]? with
  |some (J d)=>.rt d s
  |_=>.bad
 fr:=I
 ok {q h L B O Z env s} c d:=by
  show SOk q L h B O ws _ _ (match env[i]? with|some (J d)=>PS.rt d s|_=>.bad)
  cases e:env[i]? with
  |none=>trivial
  |some o =>
   cases o with
   |none=>trivial
   |some x =>
    obtain⟨n,j,xs,y,e1,e2,a,b,g,r⟩:=c.sr.ow i x e (by simpa using C);subst e1
    have F:Mv O h (n::B) h:=⟨λ_ _ _=>rfl,λo E=>.inl (by
     rcases mx.mp E with z|z
     .subst z;exact a
     .exact c.sub o z)⟩
    have f:Frs q L B h (dl j y) (.loc n):=λu l e=>by
     have:u=j/\l=y:=by cases j<;>cases u<;>cases e<;>exact⟨rfl,rfl⟩
     obtain⟨rfl,rfl⟩:=this;exact⟨n,xs,rfl,b,g,r.mv F⟩
    refine⟨.loc n,h,by simp[cR,ah,e2],i_ _,λ_ _ _=>rfl,c.pen,f.rp c.bb rfl,λ_=>f⟩
def oI(e:Xe ws):Xd ws where
 m:=kE e.m
 p:=λenv s=>(e.p env s).go env λ_=>.nx
 fr:=I
 ok {q h L B O Z env s} c d:=SOk.ex (f:=λ_=>pj) (g:=λ_=>.nx) c d (e.ok c) λx v a j kb i _=>⟨Z,a,rfl,O,Stp.refl _ _ _ _,i,d⟩
def ti(t:Xt ws)(a b:Xd ws):Xd ws where
 m:=Cj t.m a.m b.m
 p:=λenv s=>(t.p env s).go env λx env s=>if x=I then a.p env s else b.p env s
 fr:=a.fr&&b.fr
 ok {q h L B O Z env s} c d:=SOk.ex (f:=λx=>if x=I then a.m else b.m) (g:=λx env s=>if x=I then a.p env s else b.p env s) c d (t.ok c) λx v j l kb i e=>by
  subst e
  cases x with
  |true=>exact(a.ok i d).fr (by simp;exact λh _=>h)
  |false=>exact(b.ok i d).fr (by simp)
def Dis.keep(d:Dis ws Z env)(k:∀i∈ws,Z'[i]?=Z[i]?/\env'[i]?=env[i]?):Dis ws Z' env':=λi j f l ne x y n a b e=>by
 rw[(k i f).1]at e;rw[(k i f).2]at a;rw[(k j l).2]at b;rw[(k j l).1];exact d i j f l ne x y n a b e
def bc(i:Nat)(e:Xe ws)(l:ws.contains i=T:=by exact ys rfl)(y:e.fz=I:=by exact ys rfl):Xd ws where
 m:=bS i e.m
 p:=λenv s=>(e.p env s).go env λd env s=>.nx (env.set i (J d)) s
 fr:=I
 ok {q h L B O Z env s} c d:=by refine SOk.ex (f:=λv Z h=>.nx (Z.set i (J v)) h) (g:=λd env s=>.nx (env.set i (J d)) s) c d (e.ok c) λx v u C kb j ⟨_,z,_⟩=>?_;obtain⟨a,b⟩:=j.sr.set (i:=i) (λz=>by simp[z]at l) (z y);exact⟨_,u,rfl,O,Stp.refl _ _ _ _,⟨j.bd,j.sub,j.bb,j.pb,j.hL,j.pen,a⟩,d.keep b⟩
def D.mine:D->Bool
 |.lst _=>I
 |.dic fz _ _=>!fz
 |_=>T
def gZ(i:Nat)(e:Xe ws)(hi:ws.contains i=I:=by exact ys rfl)(hz:e.fr=I:=by exact ys rfl):Xd ws where
 m:=bS i e.m
 p:=λenv s=>(e.p env s).go env λd env s=>if d.mine=I then .nx (env.set i (J d)) s else .bad
 fr:=I
 ok {q h L B O Z env s} c d:=by
  show SOk q L h B O ws _ _ _;have k:=e.ok c;show SOk q L h B O ws _ ((e.m Z h).go Z λv Z h=>.nx (Z.set i (J v)) h) _
  cases W:e.p env s with
  |bad=>trivial
  |exc x s1 =>
   rw[W]at k;obtain⟨P,e1,kb,pn⟩:=k;rw[e1];exact⟨Z,P,rfl,O,kb.stp c,c.kb kb pn,d⟩
  |ok x s1 =>
   rw[W]at k;obtain⟨v,P,e1,kb,pn,_,_,f⟩:=k;rw[e1];by_cases u:x.mine=I
   .obtain⟨H,C,rfl⟩:∃H C,x=dl H C:=by
     cases x with
     |lst C=>exact⟨Y,C,rfl⟩
     |dic fz ks C =>
      cases fz with
      |false=>exact⟨J ks,C,rfl⟩
      |true=>cases u
     |_=>cases u
    obtain⟨n,xs,rfl,hn,g,r⟩:=f hz H C rfl;show SOk q L h B O ws _ _ (if(dl H C).mine=I then _ else _);rw[b_ u];have c1:=c.kb kb pn;have S:i∈ws:=by simpa using hi
    have mv:Mv O h (n::O) P:=⟨λm u no=>kb.keep m u λz=>no (z▸c.pO),λo E=>by
     rcases mx.mp E with z|z
     .exact .inr ⋯
     .exact .inl z⟩
    have R:n∉O:=λz=>by have:=c.bd n z;lia
    refine⟨Z.set i (J (.loc n)),P,rfl,n::O,⟨kb.len,mv,λo E=>l7 _ E,λm u hq=>kb.keep m (xj u c.hL) hq⟩,⟨λo E=>?_,λo E=>l7 _ (c.sub o E),c.bb,c.pb,c1.hL,pn,?_⟩,?_⟩
    .rcases mx.mp E with z|z
     .subst z;exact aE g
     .exact c1.bd o z
    .have sr:=c.sr.mv mv (λo E=>l7 _ E) λm u F _=>kb.keep m u (by have:=c.pL;lia);refine⟨by simp[sr.len],λj x l G=>?_,λj x l G=>?_⟩
     .have ne:i≠j:=λz=>G (z▸S);rw[pu ne]at l;rw[pu ne];exact sr.fz j x l G
     .by_cases z:i=j
      .subst z;have F:i<env.length:=by have:=(o_.mp l).1;simpa using this
       rw[x6 F]at l;cases l;exact⟨n,H,xs,C,rfl,x6 (by rw[sr.len];exact F),by simp,by have:=c.hL;lia,g,r⟩
      .rw[pu z]at l;rw[pu z];exact sr.ow j x l G
    .have old:∀j d,j∈ws->i≠j->(env.set i (J (dl H C)))[j]?=J (J d)->(Z.set i (J (.loc n)))[j]?≠J (J (.loc n)):=λj d G ne l z=>by
      rw[pu ne]at l z;obtain⟨n',_,_,_,_,b2,b3,_⟩:=c.sr.ow j d l G;rw[z]at b2;cases b2;exact R b3
     intro a b ha X ne x y m Q U M;by_cases z1:i=a
     .subst z1;have F:i<Z.length:=by have:=(o_.mp M).1;simpa using this
      rw[x6 F]at M;cases M;exact old b y X ne U
     .by_cases z2:i=b
      .subst z2;intro z;have F:i<Z.length:=by have:=(o_.mp z).1;simpa using this
       rw[x6 F]at z;cases z;exact old a x ha z1 Q M
      .rw[pu z1]at Q M;rw[pu z2]at U ⊢;exact d a b ha X ne x y m Q U M
   .show SOk q L h B O ws _ _ (if x.mine=I then _ else _);rw[e_ u];trivial
end
end PU
namespace PU
open MM
open L2 (wC)
noncomputable section
variable{ws:TR}
def PS.turn(r:PS)(k:au->d_->PS):PS:=match r with
 |.nx e s=>k e s
 |.ct e s=>k e s
 |.bk e s=>.nx e s
 |r=>r
@[simp]theorem turn_nx:(PS.nx e s).turn k=k e s:=rfl
@[simp]theorem turn_ct:(PS.ct e s).turn k=k e s:=rfl
@[simp]theorem turn_bk:(PS.bk e s).turn k=.nx e s:=rfl
@[simp]theorem turn_rt:(PS.rt d s).turn k=.rt d s:=rfl
@[simp]theorem Bv:(PS.exc c e s).turn k=.exc c e s:=rfl
@[simp]theorem Bp:(PS.rse c e s).turn k=.rse c e s:=rfl
@[simp]theorem Md:PS.bad.turn k=.bad:=rfl
def Ca(g:D->au->Option au)(b:au->d_->PS):TU->au->d_->PS
 |[],env,s=>.nx env s
 |d::f,env,s=>match g d env with
  |none=>.bad
  |some a=>(b a s).turn (Ca g b f)
def Iy(g:Xg ws)(b:Xd ws):∀(F:TU)(xs:TL)(env:au)(Z:n4)(h:MH)(O:TR)(s:d_),Cx q h L B O ws Z env s->Dis ws Z env->Rps q h O F xs->(∀y∈it.gd,h[y.1]?=J (.lst y.2)/\y.1∉O) ->
  SOk q L h B O ws b.fr (wI it g.m b.m xs Z h) (Ca g.p b.p F env s):=by
 intro F
 induction F with
 |nil =>
  intro xs env Z h O s c d r gd
  have:xs=[]:=r
  subst this;have ok:it.ok h:=λy C=>(gd y C).1;refine⟨Z,h,by rw[wI];dsimp only;rw[b_ ok],O,Stp.refl _ _ _ _,c,d⟩
 |cons x F S =>
  intro xs env Z h O s c d r gd;obtain⟨v,G,rfl,M,H⟩:=r;have ok:it.ok h:=λy C=>(gd y C).1;rw[Ca]
  cases X:g.p x env with
  |none=>trivial
  |some j =>
   obtain⟨R,f1,sr,k⟩:=g.ok c.sr M X;have c1:Cx q h L B O ws R j s:=⟨c.bd,c.sub,c.bb,c.pb,c.hL,c.pen,sr⟩;have kb:=b.ok c1 (d.keep k)
   have em:wI it g.m b.m (v::G) Z h=(match b.m R h with
    |.nx i f=>wI it g.m b.m G i f
    |.ct i f=>wI it g.m b.m G i f
    |.bk i f=>.nx i f
    |.rt v f=>.rt v f
    |.exc e i f=>.exc e i f
    |.rse e i f=>.rse e i f
    |.bad=>.bad):=by rw[wI];dsimp only;(rw[b_ ok,f1])<;>rfl
   rw[em];have E:∀{f:MH}{u:TR},Stp q L h O f u->∀y∈it.gd,f[y.1]?=J (.lst y.2)/\y.1∉u:=λst y C=>by
    obtain⟨a,b⟩:=st.mv.get (gd y C).1 (gd y C).2;exact⟨b,a⟩
   dsimp only
   cases z:b.p j s with
   |bad=>trivial
   |nx e2 l =>
    rw[z]at kb;obtain⟨i,f,e1,u,st,Q,P⟩:=kb;rw[e1];exact(S G e2 i f u l Q P (H.mv st.mv) (E st)).after st
   |ct e2 l =>
    rw[z]at kb;obtain⟨i,f,e1,u,st,Q,P⟩:=kb;rw[e1];exact(S G e2 i f u l Q P (H.mv st.mv) (E st)).after st
   |bk e2 l=>rw[z]at kb;obtain⟨i,f,e1,r⟩:=kb;rw[e1];exact⟨i,f,rfl,r⟩
   |exc x e2 l=>rw[z]at kb;obtain⟨i,f,e1,r⟩:=kb;rw[e1];exact⟨i,f,rfl,r⟩
   |rse x e2 l=>rw[z]at kb;obtain⟨i,f,e1,r⟩:=kb;rw[e1];exact⟨i,f,rfl,r⟩
   |rt x l=>rw[z]at kb;obtain⟨v,f,e1,M,H,W,U,r5⟩:=kb;rw[e1];exact⟨v,f,rfl,M,H,W,U,r5⟩
def iH(i:Xi ws)(g:Xg ws)(b:Xd ws)(z:i.fz=I:=by exact ys rfl):Xd ws where
 m:=ja i.m g.m b.m
 p:=λenv s=>(i.p env s).go env λa env s=>Ca g.p b.p a env s
 fr:=b.fr
 ok {q h L B O Z env s} c d:=SOk.ex (f:=λj=>wI j g.m b.m j.xs) (g:=λa env s=>Ca g.p b.p a env s) c d (i.ok c) λa j u E kb C r =>
  Iy g b a j.xs env Z u O E C d r.1 λy l=>⟨(r.2.1 y l).1,r.2.2 z y l⟩
def cA(t:au->d_->PR Bool)(b:au->d_->PS):Nat->au->d_->PS
 |0,_,_=>.bad
 |n+1,env,s=>(t env s).go env λx env s=>if x=I then(b env s).turn (cA t b n)else .nx env s
def qv(t:Xt ws)(b:Xd ws):∀(n:Nat)(env:au)(Z:n4)(h:MH)(O:TR)(s:d_),Cx q h L B O ws Z env s->Dis ws Z env->SOk q L h B O ws b.fr (bP t.m b.m n Z h) (cA t.p b.p n env s)
 |0,env,Z,h,O,s,c,d=>trivial
 |n+1,env,Z,h,O,s,c,d=>by
  refine SOk.ex (f:=λx=>if x=I then (λZ h=>match b.m Z h with
   |.nx i a=>bP t.m b.m n i a
   |.ct i a=>bP t.m b.m n i a
   |.bk i a=>.nx i a
   |.rt v a=>.rt v a
   |.exc e i a=>.exc e i a
   |.rse e i a=>.rse e i a
   |.bad=>.bad)else pj) (g:=λx env s=>if x=I then(b.p env s).turn (cA t.p b.p n)else .nx env s) c d (t.ok c) λx v H Q kb C e=>?_
  subst e
  cases x with
  |false=>exact⟨Z,H,rfl,O,Stp.refl _ _ _ _,C,d⟩
  |true =>
   have k:=b.ok C d;rw[b_ rfl,b_ rfl]
   cases l:b.p env Q with
   |bad=>trivial
   |nx e2 j =>
    rw[l]at k;obtain⟨i,a,e1,u,st,z,y⟩:=k;rw[e1];exact(qv t b n e2 i a u j z y).after st
   |ct e2 j =>
    rw[l]at k;obtain⟨i,a,e1,u,st,z,y⟩:=k;rw[e1];exact(qv t b n e2 i a u j z y).after st
   |bk e2 j=>rw[l]at k;obtain⟨i,a,e1,r⟩:=k;rw[e1];exact⟨i,a,rfl,r⟩
   |exc x e2 j=>rw[l]at k;obtain⟨i,a,e1,r⟩:=k;rw[e1];exact⟨i,a,rfl,r⟩
   |rse x e2 j=>rw[l]at k;obtain⟨i,a,e1,r⟩:=k;rw[e1];exact⟨i,a,rfl,r⟩
   |rt x j=>rw[l]at k;obtain⟨v,a,e1,F,M,G,E,P⟩:=k;rw[e1];exact⟨v,a,rfl,F,M,G,E,P⟩
def J_(N:Nat)(t:Xt ws)(b:Xd ws)(f:∀{Z h n},bP t.m b.m n Z h≠.bad->Hj t.m b.m Z h=bP t.m b.m n Z h):Xd ws where
 m:=Hj t.m b.m
 p:=cA t.p b.p N
 fr:=b.fr
 ok {q h L B O Z env s} c d:=by
  have k:=qv t b N env Z h O s c d;by_cases z:bP t.m b.m N Z h=.bad
  .rw[z]at k
   cases e:cA t.p b.p N env s with
   |bad=>trivial
   |nx e2 a=>rw[e]at k;obtain⟨_,_,e1,_⟩:=k;cases e1
   |ct e2 a=>rw[e]at k;obtain⟨_,_,e1,_⟩:=k;cases e1
   |bk e2 a=>rw[e]at k;obtain⟨_,_,e1,_⟩:=k;cases e1
   |exc x e2 a=>rw[e]at k;obtain⟨_,_,e1,_⟩:=k;cases e1
   |rse x e2 a=>rw[e]at k;obtain⟨_,_,e1,_⟩:=k;cases e1
   |rt x a=>rw[e]at k;obtain⟨_,_,e1,_⟩:=k;cases e1
  .rw[f z];exact k
structure Ea where
 m:Nat->TL->MH->TD
 p:TU->TU->Option (D×TU)
 ok:∀{q:Nat}{h:MH}{O:TR}{n:Nat}{xs:TL}{ds as:TU}{vs:TL}{d:D}{ds':TU},h[n]?=J (.lst xs)->Rps q h O ds xs->Rps q h O as vs->p ds as=J (d,ds')->∃v xs',m n vs h=.ok v (h.set n (.lst xs'))/\Rps q h O ds' xs'/\Rp q h O d v
def ub{q h L B O Z env s n xs' ds' i d0 kd}(c:Cx q h L B O ws Z env s)(d:Dis ws Z env)(u:i∈ws)(e:env[i]?=J (J d0))(G:Z[i]?=J (J (.loc n)))(r:Rps q h O ds' xs'):
  Nxt q L h B O ws Z (h.set n (mo kd xs')) (env.set i (J (dl kd ds'))) s:=by
 obtain⟨n',k0,xs,ai,e0,e2,a,b,g,r0⟩:=c.sr.ow i _ e u;rw[G]at e2;cases e2;have mv:Mv O h O (h.set n (mo kd xs')):=⟨λm R no=>pu (λ(z:n=m)=>no (z▸a)),λo F=>.inl F⟩;have hp:=c.pL;have il:i<env.length:=(o_.mp e).1;refine⟨O,⟨by simp,mv,λ_ h=>h,λm R _=>pu ⋯⟩,⟨λo F=>by simpa using c.bd o F,c.sub,c.bb,c.pb,by simpa using c.hL,?_,⟨by simp[c.sr.len],λj x f l=>?_,λj x f l=>?_⟩⟩,?_⟩
 .unfold be;rw[pu ⋯];exact c.pen
 .have ne:i≠j:=λz=>l (z▸u);rw[pu ne]at f;obtain⟨v,e1,w⟩:=c.sr.fz j x f l;exact⟨v,e1,w.mv mv⟩
 .by_cases z:i=j
  .subst z;rw[x6 il]at f;cases f;exact⟨n,kd,xs',ds',rfl,G,a,b,x6 (aE g),r.mv mv⟩
  .rw[pu z]at f;obtain⟨m,X,ys,E,e1,e3,b3,Q,U,S⟩:=c.sr.ow j x f l
   have:n≠m:=λy=>d i j u l z _ _ n e f G (y▸e3)
   exact⟨m,X,ys,E,e1,e3,b3,Q,by rw[pu this];exact U,S.mv mv⟩
 .intro j k l hk ne x y m f P e1;have up:∀j x,(env.set i (J (dl kd ds')))[j]?=J (J x)->∃C,env[j]?=J (J C):=λj x f=>by
   by_cases z:i=j
   .subst z;exact⟨_,e⟩
   .rw[pu z]at f;exact⟨x,f⟩
  obtain⟨C,H⟩:=up j x f;obtain⟨W,M⟩:=up k y P;exact d j k l hk ne C W m H M e1
def Eb{q h L B O Z env s n xs' ds' i ds}(c:Cx q h L B O ws Z env s)(d:Dis ws Z env)(a:i∈ws)(e:env[i]?=J (J (D.lst ds)))(f:Z[i]?=J (J (.loc n)))(r:Rps q h O ds' xs'):
  Nxt q L h B O ws Z (h.set n (.lst xs')) (env.set i (J (.lst ds'))) s:=ub (kd:=Y) c d a e f r
def Me(o:Ea)(i:Nat)(a:Xs ws)(u:i∈ws)(H:a.fz=I){q h L B O Z env s}(c:Cx q h L B O ws Z env s)(d:Dis ws Z env)(y:a.p env s=.ok as s1)(R:env[i]?=J (J (.lst ds)))(C:o.p ds as=J (r,ds')):∃v j n f,KB q h j/\Cx q j L B O ws Z env s1/\Z[i]?=J (J (.loc n))/\Fy o.m (ah i) a.m Z h=.ok v (j.set n (.lst f))/\Rps q j O ds' f/\Rp q j O r v:=by
 obtain⟨n,U,xs,M,e0,e2,S,X,g,G⟩:=c.sr.ow i _ R u;obtain⟨rfl,rfl⟩:=gC e0;replace g:h[n]?=J (.lst xs):=g;have l:=a.ok c;rw[y]at l;obtain⟨W,j,e3,kb,pn,_,F⟩:=l;have Q:=c.kb kb pn;have E:j[n]?=J (.lst xs):=(kb.keep n (aE g) (by have:=c.pL;lia)).trans g;obtain⟨v,f,e4,z,P⟩:=o.ok E (G.mv (kb.mv c.pO)) (F H) C;refine⟨v,j,n,f,kb,Q,e2,?_,z,P⟩;have em:ah i Z h=.ok (.loc n) h:=by simp[ah,e2]
 show(ah i Z h).bind _=_;rw[em];simp only[Out.bind_ok,g,e3,e4,Out.ne_ok]
def Ck(o:Ea)(i:Nat)(a:au->d_->PR (TU))(env:au)(s:d_)(k:D->au->d_->PS):PS:=match a env s with
 |.ok u l=>(match env[i]? with
  |some (J (.lst j))=>(match o.p j u with
   |some (r,f)=>k r (env.set i (J (.lst f))) l
   |none=>.bad)
  |_=>.bad)
 |_=>.bad
def zq(e1:a env s=.ok as s1)(e2:env[i]?=J (J (.lst ds)))(e3:o.p ds as=J (r,ds')):Ck o i a env s k=k r (env.set i (J (.lst ds'))) s1:=by simp only[Ck,e1,e2,e3]
def Ec:Ck o i a env s k=.bad\/∃l u j r f,a env s=.ok l u/\env[i]?=J (J (.lst j))/\o.p j l=J (r,f)/\Ck o i a env s k=k r (env.set i (J (.lst f))) u:=by
 cases e1:a env s with
 |bad=>left;simp only[Ck,e1]
 |exc _ _=>left;simp only[Ck,e1]
 |ok l u =>
  cases e2:env[i]? with
  |none=>left;simp only[Ck,e1,e2]
  |some x =>
   cases x with
   |none=>left;simp only[Ck,e1,e2]
   |some d =>
    cases d with
    |lst j =>
     cases e3:o.p j l with
     |none=>left;simp only[Ck,e1,e2,e3]
     |some y=>exact .inr ⟨l,u,j,y.1,y.2,rfl,rfl,e3,zq e1 e2 e3⟩
    |_=>left;simp only[Ck,e1,e2]
def B2(o:Ea)(i:Nat)(a:Xs ws)(l:ws.contains i=I:=by exact ys rfl)(C:a.fz=I:=by exact ys rfl):Xd ws where
 m:=kE (Fy o.m (ah i) a.m)
 p:=λenv s=>Ck o i a.p env s λ_=>.nx
 fr:=I
 ok {q h L B O Z env s} c d:=by
  rcases Ec (o:=o) (i:=i) (a:=a.p) (env:=env) (s:=s) (k:=λ_=>.nx)with z|⟨H,Q,P,r,F,e1,e2,e3,z⟩
  .rw[z];trivial
  .rw[z];have f:i∈ws:=by simpa using l
   obtain⟨v,y,n,j,kb,G,E,em,u,M⟩:=Me o i a f C c d e1 e2 e3;refine⟨Z,y.set n (.lst j),?_,(Eb G d f e2 E u).after (kb.stp c)⟩;unfold kE xx;rw[em];rfl
def Vw.int(w:Vw q h L O (.int b) v):v=.int b:=by
 rcases w with r|⟨n,a,xs,f,e,_⟩
 .exact r
 .cases a<;>cases e
def PS.fin(r:PS):PR D:=match r with
 |.nx _ s=>.ok .non s
 |.rt d s=>.ok d s
 |.exc c _ s=>.exc c s
 |.rse c _ s=>.exc c s
 |_=>.bad
@[simp]theorem sZ:(PS.nx e s).fin=.ok .non s:=rfl
@[simp]theorem bB:(PS.rt d s).fin=.ok d s:=rfl
@[simp]theorem fin_exc:(PS.exc c e s).fin=.exc c s:=rfl
@[simp]theorem fin_rse:(PS.rse c e s).fin=.exc c s:=rfl
@[simp]theorem Ou:PS.bad.fin=.bad:=rfl
def jn(n:Nat)(a:TU):au:=a.map J++List.replicate (n-a.length) Y
def bp(n np:Nat)(b:Xd ws)(M:ws.all (λi=>decide (np<=i))=I:=by exact ys rfl):Fn where
 m:=cB n np b.m
 p:=λu s=>if u.length=np then(b.p (jn n u) s).fin else .bad
 fr:=b.fr
 ok {q h O vs u s} bd G pn r:=by
  by_cases H:u.length=np
  .rw[b_ H];have hv:vs.length=np:=by rw[r.length];exact H
   have low:∀i d,(jn n u)[i]?=J (J d)->i<np/\u[i]?=J d:=λi d e=>by
    by_cases z:i<u.length
    .refine⟨⋯,?_⟩;unfold jn at e;rw[qi (by simpa using z)]at e;simp at e;simpa using e
    .unfold jn at e;rw[Br (by simpa using z)]at e;by_cases y:i-(u.map J).length<n-u.length
     .simp[F2,y]at e
     .simp at y e;exact absurd e (by simp[F2])
   have Q:∀i d,(jn n u)[i]?=J (J d)->i∉ws:=λi d e B=>by
    have:=(low i d e).1
    rw[List.all_eq_true]at M
    have:=M i B
    simp at this;lia
   have c:Cx q h h.length O O ws (bq n vs) (jn n u) s:=by refine⟨bd,λ_ h=>h,bd,G,i_ _,pn,⟨by simp[bq,jn,r.length],λi d e _=>?_,λi d e B=>absurd B (Q i d e)⟩⟩;obtain⟨v,L,S⟩:=r.get (low i d e).2;refine⟨v,?_,S⟩;unfold bq;rw[qi (by simpa using(o_.mp L).1)];simp[L]
   have k:=b.ok c λi j B _ _ d _ _ e=>absurd B (Q i d e)
   have em:cB n np b.m vs h=(match b.m (bq n vs) h with
    |.nx _ a=>.ok .non a
    |.rt v a=>.ok v a
    |.exc x _ a=>.exc x a
    |.rse x _ a=>.exc x a
    |_=>.bad):=by unfold cB;(rw[b_ hv])<;>(cases b.m (bq n vs) h<;>rfl)
   rw[em];have kb:∀{a F},Stp q h.length h O a F->KB q h a:=λst=>⟨st.len,λm R G=>st.base m R G⟩
   cases e:b.p (jn n u) s with
   |nx e1 E=>rw[e]at k;obtain⟨P,a,f,F,st,C,_⟩:=k;rw[f];exact⟨.non,a,rfl,kb st,C.pen,rfl,λ_ k u e=>by cases k<;>cases e⟩
   |exc x e1 E=>rw[e]at k;obtain⟨P,a,f,F,st,C,_⟩:=k;rw[f];exact⟨a,rfl,kb st,C.pen⟩
   |rse x e1 E=>rw[e]at k;obtain⟨P,a,f,F,st,C,_⟩:=k;rw[f];exact⟨a,rfl,kb st,C.pen⟩
   |rt x E=>rw[e]at k;obtain⟨v,a,f,l,b,p,U,rs⟩:=k;rw[f];exact⟨v,a,rfl,⟨l,b⟩,p,U,rs⟩
   |bk e1 E=>trivial
   |ct e1 E=>trivial
   |bad=>trivial
  .rw[e_ H];trivial
def FG(m:TL->MH->TD):Fn where
 m:=m
 p:=λ_ _=>.bad
 fr:=I
 ok _ _ _ _:=trivial
end
end PU
namespace PU
open MM SetT SortT
open L2 (wC ng iG)
noncomputable section
section
variable{q:Nat}{h:MH}{L:Nat}{O:TR}{v:PV}
def Vw.non(w:Vw q h L O .non v):v=.non:=by
 rcases w with r|⟨n,a,xs,f,e,_⟩
 .exact r
 .cases a<;>cases e
def Vw.str(w:Vw q h L O (.str x) v):v=.str x:=by
 rcases w with r|⟨n,a,xs,f,e,_⟩
 .exact r
 .cases a<;>cases e
inductive Sm(h:MH)(P:TL->Prop)(v:PV):Prop
 |mk(n:Nat)(xs:TL)(e:v=.loc n)(g:h[n]?=J (.lst xs))(r:P xs):Sm h P v
def Vw.lst(w:Vw q h L O (.lst ds) v):Sm h (Rps q h O ds) v:=by
 rcases w with⟨n,xs,e,_,g,r⟩|⟨n,f,xs,a,e,e1,_,_,g,r⟩
 .exact⟨n,xs,e,g,r⟩
 .obtain⟨rfl,rfl⟩:=gC e;exact⟨n,xs,e1,g,r⟩
def Vw.tup(w:Vw q h L O (.tup ds) v):Qu (Rps q h O ds) v:=by
 rcases w with r|⟨n,f,xs,a,e,_⟩
 .exact r
 .cases f<;>cases e
def Iz(r:Rp q h O d v)(hf:fr=I->∀k a,d≠dl k a):Gv q h O fr (.ok v h) d :=
 ⟨v,[],by simp,by simpa using r,λz k a e=>absurd e (hf z k a)⟩
def Cb:Gv q h O fr (.ok (.int i) h) (.int i):=Iz rfl λ_ k _ e=>by cases k<;>cases e
def Ac:Gv q h O fr (.ok (.bl i) h) (.bl i):=Iz rfl λ_ k _ e=>by cases k<;>cases e
def eL(w:Ir q h L O [d] vs):∃x,vs=[x]/\Vw q h L O d x:=by
 obtain⟨x,r,e,a,b⟩:=w
 have:r=[]:=b
 subst this;exact⟨x,e,a⟩
def Ed(w:Ir q h L O [d,d'] vs):∃x y,vs=[x,y]/\Vw q h L O d x/\Vw q h L O d' y:=by obtain⟨x,r,e,a,b⟩:=w;obtain⟨y,rfl,c⟩:=eL b;exact⟨x,y,e,a,c⟩
end
def Ee(m:PV->PV->MH->TD)(f:Int->Int->D)(g:Int->Int->PV)(u:∀i j h,m (.int i) (.int j) h=.ok (g i j) h)(l:∀i j q h O fr,Gv q h O fr (.ok (g i j) h) (f i j)):xD where
 m:=m
 p:=λa b=>match a,b with
  |.int i,.int j=>J (f i j)
  |_,_=>Y
 fr:=I
 ok {q h L O a x b y d} bd wa wb e:=by
  cases a with
  |int i =>
   cases b with
   |int j=>cases e;rw[wa.int,wb.int,u];exact l i j q h O I
   |_=>cases e
  |_=>cases e
def IA:xD:=Ee Cw (λi j=>.int (i-j)) (λi j=>.int (i-j)) (λ_ _ _=>rfl) λ_ _ _ _ _ _=>Cb
def IB:xD:=Ee Ct (λi j=>.bl (decide (i<j))) (λi j=>.bl (decide (i<j))) (λ_ _ _=>rfl) λ_ _ _ _ _ _=>Ac
def Ka:xD:=Ee Hk (λi j=>.bl (decide (i<=j))) (λi j=>.bl (decide (i<=j))) (λ_ _ _=>rfl) λ_ _ _ _ _ _=>Ac
def Kb:xD:=Ee Cu (λi j=>.bl (decide (j<i))) (λi j=>.bl (decide (j<i))) (λ_ _ _=>rfl) λ_ _ _ _ _ _=>Ac
def bX:xD where
 m:=jj
 p:=λa b=>match a,b with
  |.int i,.int j=>J (.int (i+j))
  |.lst x,.lst y=>if x.length+y.length<=100000 then J (.lst (x++y))else Y
  |.tup (a::x),.tup y=>if x.length+1+y.length<=100000 then J (.tup (a::x++y))else Y
  |_,_=>Y
 fr:=I
 ok {q h L O a x b y d} bd wa wb e:=by
  cases a with
  |int i =>
   cases b with
   |int j=>cases e;rw[wa.int,wb.int];exact Cb
   |_=>cases e
  |lst x =>
   cases b with
   |lst y =>
    dsimp only at e;by_cases z:x.length+y.length<=100000
    .rw[b_ z]at e;cases e;obtain⟨n,xs,rfl,g,r⟩:=wa.lst;obtain⟨u,ys,rfl,l,f⟩:=wb.lst;show Gv q h O I (match h[n]?,h[u]? with|some (.lst xs),J (.lst ys)=>se (xs++ys) h|_,_=>.bad) _;rw[g,l];exact mj bd (r.app f) (by simpa using z)
    .rw[e_ z]at e;cases e
   |_=>cases e
  |tup x =>
   cases x with
   |nil=>cases b<;>cases e
   |cons a x =>
    cases b with
    |tup y =>
     dsimp only at e;by_cases z:x.length+1+y.length<=100000
     .rw[b_ z]at e;cases e;obtain⟨xs,rfl,r⟩:=wa.tup;obtain⟨ys,rfl,f⟩:=wb.tup;have ne:xs≠[]:=λz=>by have:=r.length;simp[z]at this
      show Gv q h O I (if xs≠[]then lw (xs++ys) h else .bad) _;rw[b_ ne];exact vo (r.app f) (by simp;lia)
     .rw[e_ z]at e;cases e
    |_=>cases e
  |_=>cases e
def Rps.rep(r:Rps q h O ds xs):∀n,Rps q h O (List.replicate n ds).flatten (List.replicate n xs).flatten
 |0=>rfl
 |n+1=>by
  rw[B7,B7,Fe,Fe];exact r.app (Rps.rep r n)
def bE:xD where
 m:=j3
 p:=λa b=>match a,b with
  |.int i,.int j=>if IntMulOk i j then J (.int (i*j))else Y
  |.lst x,.int j=>if(0<=j/\j<=1000)/\((List.replicate j.toNat x).flatten).length<=100000 then J (.lst (List.replicate j.toNat x).flatten)else Y
  |_,_=>Y
 fr:=I
 ok {q h L O a x b y d} bd wa wb e:=by
  cases a with
  |int i =>
   cases b with
   |int j =>
    dsimp only at e;by_cases z:IntMulOk i j
    .rw[b_ z]at e;cases e;rw[wa.int,wb.int];show Gv q h O I (if IntMulOk i j then .ok (.int (i*j)) h else .bad) _;rw[b_ z];exact Cb
    .rw[e_ z]at e;cases e
   |_=>cases e
  |lst x =>
   cases b with
   |int j =>
    dsimp only at e;by_cases z:(0<=j/\j<=1000)/\((List.replicate j.toNat x).flatten).length<=100000
    .rw[b_ z]at e;cases e;obtain⟨n,xs,rfl,g,r⟩:=wa.lst;rw[wb.int];show Gv q h O I (match h[n]? with|some (.lst xs)=>if -(2^63)<=j/\j<2^63 then se (List.flatten (List.replicate j.toNat xs)) h else .bad|_=>.bad) _;rw[g];dsimp only;rw[b_ ⋯];exact mj bd (r.rep _) z.2
    .rw[e_ z]at e;cases e
   |_=>cases e
  |_=>cases e
def Ef:xD where
 m:=BU
 p:=λa b=>match a,b with
  |.int i,.int j=>if j≠0 then J (.int (i.fdiv j))else Y
  |_,_=>Y
 fr:=I
 ok {q h L O a x b y d} bd wa wb e:=by
  cases a with
  |int i =>
   cases b with
   |int j =>
    dsimp only at e;by_cases z:j≠0
    .rw[b_ z]at e;cases e;rw[wa.int,wb.int];show Gv q h O I (if j≠0 then .ok (.int (i.fdiv j)) h else .bad) _;rw[b_ z];exact Cb
    .rw[e_ z]at e;cases e
   |_=>cases e
  |_=>cases e
def nM:xD where
 m:=mn
 p:=λa b=>match a,b with
  |.int i,.int j=>if j≠0 then J (.int (i.fmod j))else Y
  |_,_=>Y
 fr:=I
 ok {q h L O a x b y d} bd wa wb e:=by
  cases a with
  |int i =>
   cases b with
   |int j =>
    dsimp only at e;by_cases z:j≠0
    .rw[b_ z]at e;cases e;rw[wa.int,wb.int];show Gv q h O I (if j≠0 then .ok (.int (i.fmod j)) h else .bad) _;rw[b_ z];exact Cb
    .rw[e_ z]at e;cases e
   |_=>cases e
  |_=>cases e
def h_:xD where
 m:=ba
 p:=λa b=>match a,b with
  |.lst x,.int j=>ng x j
  |.tup x,.int j=>ng x j
  |_,_=>Y
 fr:=T
 ok {q h L O a x b y d} bd wa wb e:=by
  have at':∀{f:TU}{xs:TL}{j:Int},Rps q h O f xs->ng f j=J d->∃v,ng xs j=J v/\Rp q h O d v:=λ{f xs j} r e=>by
   unfold ng at e ⊢;rw[r.length]
   cases e1:wC f.length j with
   |none=>rw[e1]at e;cases e
   |some k=>rw[e1]at e;exact r.get e
  cases b with
  |int j =>
   rw[wb.int]
   cases a with
   |lst f =>
    obtain⟨n,xs,rfl,g,r⟩:=wa.lst;obtain⟨v,e1,i⟩:=at' r e;show Gv q h O T (match h[n]? with|some (.lst xs)=>(match ng xs j with|some v=>.ok v h|none=>.bad)|_=>.bad) _;rw[g];dsimp only;rw[e1];exact Iz i λz=>by cases z
   |tup f =>
    obtain⟨xs,rfl,r⟩:=wa.tup;obtain⟨v,e1,i⟩:=at' r e;show Gv q h O T (match ng xs j with|some v=>.ok v h|none=>.bad) _;rw[e1];exact Iz i λz=>by cases z
   |_=>cases e
  |_=>cases a<;>cases e
def Mf(f:Bool):xD where
 m:=LA f
 p:=λa b=>match b with
  |.non=>(match a with
   |.non=>J (.bl (!f))
   |_=>J (.bl f))
  |.bl b=>(match a with
   |.bl c=>J (.bl (if f then !(c==b)else c==b))
   |.non=>J (.bl f)
   |.int _=>J (.bl f)
   |.str _=>J (.bl f)
   |.tup _=>J (.bl f)
   |_=>Y)
  |_=>Y
 fr:=I
 ok {q h L O a x b y d} bd wa wb e:=by
  have loc:∀{a:D}{x:PV},Vw q h L O a x->(∃i,a=.lst i)\/(∃fz j i,a=.dic fz j i)\/(∃c,a=.exc c)\/a=.pen->∃n,x=.loc n:=λ{a x} w z=>by
   rcases w with r|⟨n,l,xs,i,e,e1,_⟩
   .rcases z with⟨i,rfl⟩|⟨_,_,_,rfl⟩|⟨c,rfl⟩|rfl
    .obtain⟨n,_,e,_⟩:=r;exact⟨n,e⟩
    .obtain⟨n,_,e,_⟩:=r;exact⟨n,e⟩
    .obtain⟨n,e,_⟩:=r;exact⟨n,e⟩
    .exact⟨q,r⟩
   .exact⟨n,e1⟩
  cases b with
  |non =>
   rw[wb.non]
   cases a with
   |non=>cases e;rw[wa.non];exact Ac
   |bl c=>cases e;rw[wa.bl];exact Ac
   |int c=>cases e;rw[wa.int];exact Ac
   |str c=>cases e;rw[wa.str];exact Ac
   |tup c=>cases e;obtain⟨xs,rfl,_⟩:=wa.tup;exact Ac
   |lst c=>cases e;obtain⟨n,rfl⟩:=loc wa (.inl ⟨_,rfl⟩);exact Ac
   |dic a b c=>cases e;obtain⟨n,rfl⟩:=loc wa (.inr (.inl ⟨_,_,_,rfl⟩));exact Ac
   |exc c=>cases e;obtain⟨n,rfl⟩:=loc wa (.inr (.inr (.inl ⟨_,rfl⟩)));exact Ac
   |pen=>cases e;obtain⟨n,rfl⟩:=loc wa (.inr (.inr (.inr rfl)));exact Ac
  |bl b =>
   rw[wb.bl]
   cases a with
   |non=>cases e;rw[wa.non];exact Ac
   |bl c=>cases e;rw[wa.bl];exact Ac
   |int c=>cases e;rw[wa.int];exact Ac
   |str c=>cases e;rw[wa.str];exact Ac
   |tup c=>cases e;obtain⟨xs,rfl,_⟩:=wa.tup;exact Ac
   |_=>cases e
  |_=>cases e
mutual
def py:D->Option PyData
 |.non=>J .none
 |.bl b=>J (.bool b)
 |.int i=>J (.int i)
 |.str x=>J (.str x)
 |.tup a=>(BX a).map .tuple
 |.lst a=>(BX a).map .list
 |_=>Y
def BX:TU->Option (List PyData)
 |[]=>J []
 |d::a=>match py d,BX a with
  |some x,J xs=>J (x::xs)
  |_,_=>Y
end
mutual
def w6:D->Nat
 |.tup a=>1+vv a
 |.lst a=>1+vv a
 |_=>0
def vv:TU->Nat
 |[]=>0
 |d::a=>max (w6 d) (vv a)
end
def u8(d:D):(∀(v:PV)(e:PyData)(n:Nat),Rp q h O d v->py d=J e->w6 d<=n->rd n h v=J e):=by
 refine D.rec (motive_1:=λd=>∀(v:PV)(e:PyData)(n:Nat),Rp q h O d v->py d=J e->w6 d<=n->rd n h v=J e)
  (motive_2:=λf=>∀(j:TL)(i:List PyData)(n:Nat),Rps q h O f j->BX f=J i->vv f<=n->cg (rd n h) j=J i)
  (λv _ n r e _=>?_) (λb v _ n r e _=>?_) (λb v _ n r e _=>?_) (λb v _ n r e _=>?_) (λf u v e n r l hd=>?_) (λf u v e n r l hd=>?_) (λ_ _ _ _ _ _ _ _ e _=>?_) (λ_ _ _ _ _ e _=>?_) (λ_ _ _ _ e _=>?_)
  (λj i n r e _=>?_) (λd f z B j i n r e hd=>?_) d
 .rw[show v=PV.non from r];cases e;cases n<;>rfl
 .rw[show v=PV.bl b from r];cases e;cases n<;>rfl
 .rw[show v=PV.int b from r];cases e;cases n<;>rfl
 .rw[show v=PV.str b from r];cases e;cases n<;>rfl
 .obtain⟨xs,ex,r⟩:=r;subst ex;rw[py,As]at l;obtain⟨i,e1,rfl⟩:=l;rw[w6]at hd
  cases n with
  |zero=>lia
  |succ n=>simp only[rd];rw[u _ _ n r e1 ⋯];rfl
 .obtain⟨m,xs,ex,_,g,r⟩:=r;subst ex;rw[py,As]at l;obtain⟨i,e1,rfl⟩:=l;rw[w6]at hd
  cases n with
  |zero=>lia
  |succ n=>simp only[rd,g];rw[u _ _ n r e1 ⋯];rfl
 .simp[py]at e
 .simp[py]at e
 .simp[py]at e
 .rw[show j=[]from r];rw[BX]at e;cases e;rfl
 .obtain⟨x,t,ex,a,b⟩:=r;subst ex;rw[vv]at hd;rw[BX]at e
  cases e1:py d with
  |none=>rw[e1]at e;cases e
  |some y =>
   cases e2:BX f with
   |none=>rw[e1,e2]at e;cases e
   |some ys =>
    rw[e1,e2]at e;cases e;have E:=z _ _ n a e1 ⋯;have C:=B _ _ n b e2 ⋯;simp only[cg,E,C]
def Mh(r:Rp q h O d v)(a:py d=J e)(hd:w6 d<=n):rd n h v=J e:=u8 d v e n r a hd
def ze(r:Rps q h O ds vs)(a:BX ds=J es)(hd:vv ds<=n):cg (rd n h) vs=J es:=by
 have:=u8 (.tup ds) (.tup vs) (.tuple es) (n+1) (show Rp q h O (.tup ds) (.tup vs) from⟨vs,rfl,r⟩) (by rw[py,a];rfl) (by rw[w6];lia)
 simp only[rd]at this
 cases z:cg (rd n h) vs with
 |none=>rw[z]at this;cases this
 |some y=>rw[z]at this;cases this;rfl
def oR(w:Vw q h L O d v)(a:py d=J e)(hd:w6 d<=60):rd 60 h v=J e:=by
 rcases w with r|⟨n,i,xs,j,rfl,rfl,_,_,g,r⟩
 .exact Mh r a hd
 .cases i with
  |some _=>simp[dl,py]at a
  |none =>
   replace g:h[n]?=J (.lst xs):=g;unfold dl at a hd;rw[py,As]at a;obtain⟨l,e1,rfl⟩:=a;rw[w6]at hd;have f:=ze (n:=59) r e1 ⋯;show(match h[n]? with|some (.lst xs)=>(cg (rd 59 h) xs).map PyData.list|_=>Y)=_;rw[g];dsimp only;rw[f];rfl
def Av(f:Bool)(a b:D):Th:=match py a,py b with
 |some x,J y=>if(w6 a<=60/\w6 b<=60)/\SeqAt.shaped x=I/\SeqAt.shaped y=I then J (.bl (if f then !PyData.eqv x y else PyData.eqv x y))else Y
 |_,_=>Y
def u0(e:Av neg a b=J d):∃x y,py a=J x/\py b=J y/\(w6 a<=60/\w6 b<=60)/\(SeqAt.shaped x=I/\SeqAt.shaped y=I)/\d=.bl (if neg then !PyData.eqv x y else PyData.eqv x y):=by
 unfold Av at e
 cases e1:py a with
 |none=>rw[e1]at e;cases e
 |some x =>
  cases e2:py b with
  |none=>rw[e1,e2]at e;cases e
  |some y =>
   rw[e1,e2]at e;dsimp only at e;by_cases z:(w6 a<=60/\w6 b<=60)/\SeqAt.shaped x=I/\SeqAt.shaped y=I
   .rw[b_ z]at e;cases e;exact⟨x,y,rfl,rfl,z.1,z.2,rfl⟩
   .rw[e_ z]at e;cases e
def tu:xD where
 m:=AW
 p:=Av T
 fr:=I
 ok {q h L O a x b y d} bd wa wb e:=by obtain⟨u,w,e1,e2,hd,f,rfl⟩:=u0 e;unfold AW;rw[oR wa e1 hd.1,oR wb e2 hd.2];dsimp only;rw[b_ f];exact Ac
def wo:xD where
 m:=BC
 p:=Av I
 fr:=I
 ok {q h L O a x b y d} bd wa wb e:=by obtain⟨u,w,e1,e2,hd,f,rfl⟩:=u0 e;unfold BC;rw[oR wa e1 hd.1,oR wb e2 hd.2];dsimp only;rw[b_ f];exact Ac
def Vw.seqOf(w:Vw q h L O d v)(e:d.items=J ds):∃xs,MM.bJ h v=J xs/\Rps q h O ds xs:=by
 cases d with
 |lst a=>cases e;obtain⟨n,xs,rfl,g,r⟩:=w.lst;exact⟨xs,by simp[MM.bJ,g],r⟩
 |tup a=>cases e;obtain⟨xs,rfl,r⟩:=w.tup;exact⟨xs,rfl,r⟩
 |_=>cases e
def Kc(f:Bool)(a b:D):Th:=match b.items with
 |some i=>(match py a,BX i with
  |some x,J ys=>if(w6 a<=60/\vv i<=60)/\x.canLay0=I/\PyData.canLayAll0 ys=I then J (.bl (if f then !ys.any (λe=>PyData.eqv e x)else ys.any (λe=>PyData.eqv e x)))else Y
  |_,_=>Y)
 |none=>Y
def BM(f:Bool):xD where
 m:=DB f
 p:=Kc f
 fr:=I
 ok {q h L O a x b y d} bd wa wb e:=by
  unfold Kc at e
  cases e0:b.items with
  |none=>rw[e0]at e;cases e
  |some i =>
   rw[e0]at e;dsimp only at e
   cases e1:py a with
   |none=>rw[e1]at e;cases e
   |some u =>
    cases e2:BX i with
    |none=>rw[e1,e2]at e;cases e
    |some j =>
     rw[e1,e2]at e;dsimp only at e;by_cases z:(w6 a<=60/\vv i<=60)/\u.canLay0=I/\PyData.canLayAll0 j=I
     .rw[b_ z]at e;cases e;obtain⟨xs,l,r⟩:=wb.seqOf e0;unfold DB;rw[l,oR wa e1 z.1.1];dsimp only;rw[ze r e2 z.1.2];dsimp only;rw[b_ z.2];exact Ac
     .rw[e_ z]at e;cases e
end
noncomputable section
def eM:Ot where
 m:=Cy
 p:=λa=>match a with
  |.int i=>J (.int (-i))
  |_=>Y
 fr:=I
 ok {q h L O a x d} bd w e:=by
  cases a with
  |int i=>cases e;rw[w.int];exact Cb
  |_=>cases e
def CM:D->Option String
 |.non=>J "NoneType"
 |.bl _=>J "bool"
 |.int _=>J "int"
 |.str _=>J "str"
 |.tup _=>J "tuple"
 |.lst _=>J "list"
 |.dic _ _ _=>J "dict"
 |_=>Y
def Mi(w:Vw q h L O d v)(e:CM d=J t):Dt h v=J t:=by
 cases d with
 |non=>cases e;rw[w.non];rfl
 |bl b=>cases e;rw[w.bl];rfl
 |int b=>cases e;rw[w.int];rfl
 |str b=>cases e;rw[w.str];rfl
 |tup b=>cases e;obtain⟨xs,rfl,_⟩:=w.tup;rfl
 |lst b=>cases e;obtain⟨n,xs,rfl,g,_⟩:=w.lst;simp[Dt,g]
 |dic fz i j =>
  cases e;rcases w with⟨n,xs,rfl,_,g,_⟩|⟨n,a,xs,f,e,rfl,_,_,g,_⟩
  .simp[Dt,g]
  .cases a with
   |none=>cases e
   |some _=>simp[Dt,g,mo]
 |_=>cases e
def bh(f:List String):Ot where
 m:=k6 f
 p:=λa=>(CM a).map λt=>.bl (f.any (cW t))
 fr:=I
 ok {q h L O a x d} bd w e:=by rw[As]at e;obtain⟨t,e1,rfl⟩:=e;unfold k6;rw[Mi w e1];exact Ac
def S5(f:TL->MH->TD)(g:Int->Int->Int)(hf:∀i j h,f [.int i,.int j] h=.ok (.int (g i j)) h):BW where
 k:=λxs h=>(f xs h).ne
 p:=λl=>match l with
  |[.int i,.int j]=>J (.int (g i j))
  |_=>Y
 fr:=I
 ok {q h L O l xs d} bd w e:=by
  match l,e with
  |[.int i,.int j],e =>
   cases e;obtain⟨x,y,rfl,a,b⟩:=Ed w;rw[a.int,b.int,hf];exact Cb
def qw:BW:=S5 BD (λi j=>if j>i then j else i) λ_ _ _=>rfl
def qu:BW where
 k:=λxs h=>(A4 xs h).ne
 p:=λf=>match f with
  |[.int i]=>J (.int (if i<0 then -i else i))
  |_=>Y
 fr:=I
 ok {q h L O f xs d} bd w e:=by
  match f,e with
  |[.int i],e=>cases e;obtain⟨x,rfl,a⟩:=eL w;rw[a.int];exact Cb
def lC:BW where
 k:=λxs h=>(Ds xs h).ne
 p:=λf=>match f with
  |[.int i]=>J (.int i)
  |[.bl b]=>J (.int (if b then 1 else 0))
  |_=>Y
 fr:=I
 ok {q h L O f xs d} bd w e:=by
  match f,e with
  |[.int i],e=>cases e;obtain⟨x,rfl,a⟩:=eL w;rw[a.int];exact Cb
  |[.bl i],e=>cases e;obtain⟨x,rfl,a⟩:=eL w;rw[a.bl];exact Cb
def cM:BW where
 k:=λxs h=>(qp xs h).ne
 p:=λi=>match i with
  |[.lst f]=>J (.int f.length)
  |[.tup f]=>J (.int f.length)
  |[.str x]=>if x.length<=sizeLine then J (.int x.length)else Y
  |_=>Y
 fr:=I
 ok {q h L O i xs d} bd w e:=by
  match i,e with
  |[.lst f],e =>
   cases e;obtain⟨x,rfl,a⟩:=eL w;obtain⟨n,ys,rfl,g,r⟩:=a.lst;simp only[qp,g];rw[r.length];exact Cb
  |[.tup f],e =>
   cases e;obtain⟨x,rfl,a⟩:=eL w;obtain⟨ys,rfl,r⟩:=a.tup;simp only[qp];rw[r.length];exact Cb
  |[.str x],e =>
   dsimp only at e;by_cases z:x.length<=sizeLine
   .rw[b_ z]at e;cases e;obtain⟨x,rfl,a⟩:=eL w;rw[a.str];simp only[qp];rw[b_ z];exact Cb
   .rw[e_ z]at e;cases e
def xn:BW where
 k:=λxs h=>(BZ xs h).ne
 p:=λi=>match i with
  |[d]=>d.items.bind λf=>if f.length<=100000 then J (.lst f)else Y
  |_=>Y
 fr:=I
 ok {q h L O i xs d} bd w e:=by
  match i,e with
  |[a],e =>
   obtain⟨x,rfl,wx⟩:=eL w;rw[JV]at e;obtain⟨f,e1,e2⟩:=e;obtain⟨xs,e3,r⟩:=wx.seqOf e1;by_cases z:f.length<=100000
   .rw[b_ z]at e2;cases e2;obtain⟨v,g,e4,j,l⟩:=mj bd r z;exact⟨v,g,by simp only[BZ,e3];rw[e4];rfl,j,l⟩
   .rw[e_ z]at e2;cases e2
def cc:BW where
 k:=λxs h=>(A7 xs h).ne
 p:=λf=>match f with
  |[d]=>d.items.map .tup
  |_=>Y
 fr:=I
 ok {q h L O f xs d} bd w e:=by
  match f,e with
  |[a],e =>
   obtain⟨x,rfl,wx⟩:=eL w;rw[As]at e;obtain⟨i,e1,rfl⟩:=e;obtain⟨xs,e3,r⟩:=wx.seqOf e1;simp only[A7,e3];exact Iz ⟨xs,rfl,r⟩ λ_ k _ e=>by cases k<;>cases e
def jd:TU->Option (List Bool)
 |[]=>J []
 |.bl b::r=>(jd r).map (b::·)
 |_=>Y
def zf:∀{f:TU}{xs:TL}{bs:List Bool},Rps q h O f xs->jd f=J bs->kH xs=J bs
 |[],_,_,r,e=>by rw[show _=[]from r];cases e;rfl
 |d::f,_,bs,⟨x,t,ex,a,b⟩,e=>by
  subst ex
  cases d with
  |bl c =>
   rw[show x=PV.bl c from a];rw[jd,As]at e;obtain⟨i,e1,rfl⟩:=e;rw[kH,zf b e1];rfl
  |_=>cases e
def pH:BW where
 k:=λxs h=>(BV xs h).ne
 p:=λf=>match f with
  |[d]=>(d.items.bind jd).map λbs=>.bl (bs.all id)
  |_=>Y
 fr:=I
 ok {q h L O f xs d} bd w e:=by
  match f,e with
  |[a],e =>
   obtain⟨x,rfl,wx⟩:=eL w;rw[As]at e;obtain⟨bs,e1,rfl⟩:=e;rw[JV]at e1;obtain⟨i,e1,e2⟩:=e1;obtain⟨xs,e3,r⟩:=wx.seqOf e1;simp only[BV,e3,JY,zf r e2];exact Ac
def i9:TU->Option (TN)
 |[]=>J []
 |.int b::r=>(i9 r).map (b::·)
 |_=>Y
def nL:∀{f:TU}{xs:TL}{bs:TN},Rps q h O f xs->i9 f=J bs->xs=bs.map .int
 |[],_,_,r,e=>by rw[show _=[]from r];cases e;rfl
 |d::f,_,bs,⟨x,t,ex,a,b⟩,e=>by
  subst ex
  cases d with
  |int c =>
   rw[show x=PV.int c from a];rw[i9,As]at e;obtain⟨i,e1,rfl⟩:=e;rw[nL b e1];rfl
  |_=>cases e
def qF:∀(bs:TN),i7 (bs.map .int)=J bs
 |[]=>rfl
 |b::bs=>by rw[nc,i7,qF bs];rfl
def qE:∀(bs:TN),kR (bs.map .int)=J bs
 |[]=>rfl
 |b::bs=>by rw[nc,kR,qE bs];rfl
def kD(k:TN):D:=.tup (k.map .int)
def IC:D->Option (TN)
 |.tup a=>i9 a
 |_=>Y
def mT:TU->Option (TQ)
 |[]=>J []
 |d::a=>match IC d,mT a with
  |some k,J f=>J (k::f)
  |_,_=>Y
def ID(r:Rp q h O d v)(e:IC d=J k):v=kP k:=by
 cases d with
 |tup a=>obtain⟨xs,rfl,r⟩:=r;rw[nL r e];rfl
 |_=>cases e
def tH:∀{f:TU}{xs:TL}{i:TQ},Rps q h O f xs->mT f=J i->xs=i.map kP
 |[],_,_,r,e=>by rw[show _=[]from r];cases e;rfl
 |d::f,_,i,⟨x,t,ex,a,b⟩,e=>by
  subst ex;rw[mT]at e
  cases e1:IC d with
  |none=>rw[e1]at e;cases e
  |some k =>
   cases e2:mT f with
   |none=>rw[e1,e2]at e;cases e
   |some j =>
    rw[e1,e2]at e;cases e;rw[ID a e1,tH b e2];rfl
def IE(k:TN):Oq (kP k)=J k:=qF k
def rc:∀(a:TQ),lO (a.map kP)=J a
 |[]=>rfl
 |k::a=>by rw[nc,lO,IE,rc a]
def j8:∀(bs:TN),Rps q h O (bs.map .int) (bs.map .int)
 |[]=>rfl
 |b::bs=>⟨_,_,rfl,rfl,j8 bs⟩
def ur:∀(a:TQ),Rps q h O (a.map kD) (a.map kP)
 |[]=>rfl
 |b::bs=>⟨_,_,rfl,⟨_,rfl,j8 b⟩,ur bs⟩
def Vw.lstOf(w:Vw q h L O (.lst ds) v):∃xs,MM.i5 h v=J xs/\Rps q h O ds xs:=by obtain⟨n,xs,rfl,g,r⟩:=w.lst;exact⟨xs,by simp[MM.i5,g],r⟩
def Qx(bd:Bd h O)(r:∀h O,Rps q h O ds xs):Gv q h O I (.ok (.loc h.length) (h++[.lst xs])) (.lst ds):=by
 have g:(h++[MO.lst xs])[h.length]?=J (.lst xs):=by simp
 exact⟨_,_,rfl,⟨_,_,rfl,λz=>by have:=bd _ z;ext,g,r _ _⟩,λ_ k a e=>by obtain⟨rfl,rfl⟩:=gC e;exact⟨_,_,rfl,i_ _,g,r _ _⟩⟩
def sA(f:TU):Option (TU):=match i9 f with
 |some ns=>if ns.length<64 then J ((gJ ns).map .int)else Y
 |none=>(match mT f with
  |some a=>if(∀k∈a,k≠[])/\a.length<=66 then J ((kS a).map kD)else Y
  |none=>Y)
def dU:BW where
 k:=λxs h=>(oe xs h).ne
 p:=λi=>match i with
  |[.lst f]=>(sA f).map .lst
  |_=>Y
 fr:=I
 ok {q h L O i xs d} bd w e:=by
  match i,e with
  |[.lst f],e =>
   obtain⟨x,rfl,wx⟩:=eL w;obtain⟨ys,e0,r⟩:=wx.lstOf;rw[As]at e;obtain⟨u,e1,rfl⟩:=e;unfold sA at e1
   cases e2:i9 f with
   |some ns =>
    rw[e2]at e1;dsimp only at e1;by_cases z:ns.length<64
    .rw[b_ z]at e1;cases e1
     have:oe [x] h=.ok (.loc h.length) (h++[.lst ((gJ ns).map .int)]):=by simp only[oe,e0,nL r e2,qE];rw[b_ z]
     show Gv q h O I (oe [x] h).ne _;rw[this];exact Qx bd λ_ _=>j8 _
    .rw[e_ z]at e1;cases e1
   |none =>
    rw[e2]at e1;dsimp only at e1
    cases e3:mT f with
    |none=>rw[e3]at e1;cases e1
    |some a =>
     rw[e3]at e1;dsimp only at e1;by_cases z:(∀k∈a,k≠[])/\a.length<=66
     .rw[b_ z]at e1;cases e1;have j:=tH r e3
      cases a with
      |nil =>
       have:f=[]:=by have:=r.length;rw[j]at this;simpa using this.symm
       subst this;cases e2
      |cons k a =>
       have:oe [x] h=.ok (.loc h.length) (h++[.lst ((kS (k::a)).map kP)]):=by have l:kR ((k::a).map kP)=Y:=rfl;simp only[oe,e0,j,l,rc];rw[b_ z]
       show Gv q h O I (oe [x] h).ne _;rw[this];exact Qx bd λ_ _=>ur _
     .rw[e_ z]at e1;cases e1
def cP(lo:Int)(n:Nat):TU:=(List.range n).map λ(i:Nat)=>D.int (lo+(i:Int))
def pM:Rps q h O (cP lo n) (aW lo n):=by
 have:=j8 (q:=q) (h:=h) (O:=O) ((List.range n).map λ(i:Nat)=>lo+(i:Int))
 rw[q7,q7]at this;exact this
def Ow:BW where
 k:=λi f=>match i with
  |[.int j]=>if -(2^62)<=j/\j<2^62/\j.toNat<=sizeLine then .ok (.loc f.length) (f++[.lst (aW 0 j.toNat)])else .bad
  |_=>.bad
 p:=λa=>match a with
  |[.int j]=>if -100000<=j/\j<=100000 then J (.lst (cP 0 j.toNat))else Y
  |_=>Y
 fr:=I
 ok {q h L O a xs d} bd w e:=by
  match a,e with
  |[.int j],e =>
   obtain⟨x,rfl,wx⟩:=eL w;rw[wx.int];dsimp only at e;by_cases z:-100000<=j/\j<=100000
   .rw[b_ z]at e;cases e;dsimp only
    have:=dL
    rw[b_ ⟨by ext,by ext,by ext⟩];exact Qx bd λ_ _=>pM
   .rw[e_ z]at e;cases e
def CN:J8 where
 k:=λl i=>match l with
  |[.int j]=>if -(2^62)<=j/\j<2^62 then .ok ⟨aW 0 j.toNat,[]⟩ i else .bad
  |_=>.bad
 p:=λf=>match f with
  |[.int j]=>if -100000<=j/\j<=100000 then J (cP 0 j.toNat)else Y
  |_=>Y
 ok {q h L O f xs d} hq hO bd w e:=by
  match f,e with
  |[.int j],e =>
   obtain⟨x,rfl,wx⟩:=eL w;rw[wx.int];dsimp only at e;by_cases z:-100000<=j/\j<=100000
   .rw[b_ z]at e;cases e;dsimp only;rw[b_ ⟨by ext,by ext⟩];exact⟨_,rfl,pM,(λ_ a=>nomatch a),λ_ _ a=>nomatch a⟩
   .rw[e_ z]at e;cases e
def Mj:J8 where
 k:=λu l=>match u with
  |[.int i,.int j]=>if -(2^62)<=i/\i<2^62 /\ -(2^62)<=j/\j<2^62 then .ok ⟨aW i (j-i).toNat,[]⟩ l else .bad
  |_=>.bad
 p:=λf=>match f with
  |[.int i,.int j]=>if(-100000<=i/\i<=100000) /\ -100000<=j/\j<=100000 then J (cP i (j-i).toNat)else Y
  |_=>Y
 ok {q h L O f xs d} hq hO bd w e:=by
  match f,e with
  |[.int i,.int j],e =>
   obtain⟨x,y,rfl,wx,wy⟩:=Ed w;rw[wx.int,wy.int];dsimp only at e;by_cases z:(-100000<=i/\i<=100000) /\ -100000<=j/\j<=100000
   .rw[b_ z]at e;cases e;dsimp only;rw[b_ ⟨by ext,by ext,by ext,by ext⟩];exact⟨_,rfl,pM,(λ_ a=>nomatch a),λ_ _ a=>nomatch a⟩
   .rw[e_ z]at e;cases e
def Vw.sqAny(j:q<L)(l:q∈O)(w:Vw q h L O d v)(e:d.items=J ds):∃t xs gd,MM.bQ v h=J (t,xs,gd)/\Rps q h O ds xs/\(∀g∈gd,h[g.1]?=J (.lst g.2)/\g.1≠q)/\(Rp q h O d v->∀g∈gd,g.1∉O):=by
 obtain⟨xs,gd,e1,r,f,i⟩:=w.seq j l e
 cases d with
 |lst u =>
  cases e;obtain⟨n,ys,rfl,g,a⟩:=w.lst;simp only[qx,g]at e1;cases e1;exact⟨T,xs,[(n,xs)],by simp[MM.bQ,g],a,f,i⟩
 |tup u =>
  cases e;obtain⟨ys,rfl,a⟩:=w.tup;simp only[qx]at e1;cases e1;exact⟨I,_,[],rfl,a,f,i⟩
 |_=>cases e
def bK(a:TU):TU:=a.zipIdx.map λp=>.tup [.int (p.2:Int),p.1]
def iQ(xs ys:TU):TU:=(xs.zip ys).map λp=>.tup [p.1,p.2]
def ug:∀{f:TU}{xs:TL}(n:Nat),Rps q h O f xs->Rps q h O ((f.zipIdx n).map λp=>.tup [.int (p.2:Int),p.1]) ((xs.zipIdx n).map λp=>.tup [.int (p.2:Int),p.1])
 |[],_,_,r=>by rw[show _=[]from r];rfl
 |d::f,_,n,⟨x,t,e,a,b⟩=>by
  subst e;exact⟨_,_,rfl,⟨_,rfl,⟨_,_,rfl,rfl,⟨_,_,rfl,a,rfl⟩⟩⟩,ug (n+1) b⟩
def vL:∀{f j:TU}{xs ys:TL},Rps q h O f xs->Rps q h O j ys->Rps q h O (iQ f j) (iL xs ys)
 |[],_,_,_,r,_=>by rw[show _=[]from r];simp[iQ,iL];rfl
 |_::_,[],_,_,r,l=>by rw[show _=[]from l];simp[iQ,iL];rfl
 |d::f,e::j,_,_,⟨x,t,e1,a,b⟩,⟨z,B,i,u,y⟩=>by
  subst e1 i;exact⟨_,_,rfl,⟨_,rfl,⟨_,_,rfl,a,⟨_,_,rfl,u,rfl⟩⟩⟩,vL b y⟩
def iE:J8 where
 k:=λu i=>match u with
  |[x]=>(match bQ x i with
   |some (_,xs,gd)=>.ok ⟨dC xs,gd⟩ i
   |none=>.bad)
  |_=>.bad
 p:=λf=>match f with
  |[d]=>d.items.map bK
  |_=>Y
 ok {q h L O f xs d} hq hO bd w e:=by
  match f,e with
  |[a],e =>
   obtain⟨x,rfl,wx⟩:=eL w;rw[As]at e;obtain⟨B,e1,rfl⟩:=e;obtain⟨t,ys,gd,e2,r,j,l⟩:=wx.sqAny hq hO e1;refine⟨⟨dC ys,gd⟩,by simp only[e2],ug 0 r,j,λz=>l ?_⟩;obtain⟨y,C,e3,a,_⟩:=z;cases e3;exact a
def iZ:J8 where
 k:=λP B=>match P with
  |[x,y]=>(match bQ x B,bQ y B with
   |some (_,xs,j),J (_,ys,l)=>.ok ⟨iL xs ys,j++l⟩ B
   |_,_=>.bad)
  |_=>.bad
 p:=λu=>match u with
  |[d,e]=>d.items.bind λxs=>e.items.map λys=>iQ xs ys
  |_=>Y
 ok {q h L O u xs d} hq hO bd w e:=by
  match u,e with
  |[a,b],e =>
   obtain⟨x,y,rfl,wx,wy⟩:=Ed w;rw[JV]at e;obtain⟨W,e1,e⟩:=e;rw[As]at e;obtain⟨X,e2,rfl⟩:=e;obtain⟨t,ys,gd,M,r,j,l⟩:=wx.sqAny hq hO e1;obtain⟨t',C,i,G,H,F,E⟩:=wy.sqAny hq hO e2;refine⟨⟨iL ys C,gd++i⟩,by simp only[M,G],vL r H,λg f=>?_,λz g f=>?_⟩
   .rcases wj.mp f with z|z
    .exact j g z
    .exact F g z
   .obtain⟨S,H,e3,Q,Z,U,e4,R,_⟩:=z;cases e3;cases e4;rcases wj.mp f with z|z
    .exact l Q g z
    .exact E R g z
def fC(xs:TU)(lo a:TB):TU:=(xs.drop (HT.lp xs.length 0 lo)).take (HT.lp xs.length xs.length a-HT.lp xs.length 0 lo)
def vi(lo a:TB)(r:Rps q h O ds xs):Rps q h O (fC ds lo a) (fI xs lo a):=by unfold fC fI;rw[r.length];exact(r.drop _).take _
structure Xo(ws:TR) where
 m:Mx (TB)
 p:au->d_->PR (TB)
 ok:∀{q h L B O Z env s},Cx q h L B O ws Z env s->Ok q h (m Z h) (p env s) (λ_ a b=>a=b)
section
variable{ws:TR}
def Cm:Xo ws where
 m:=RZ
 p:=λ_ s=>.ok Y s
 ok {q h L B O Z env s} c:=⟨Y,h,rfl,KB.refl _ _,c.pen,rfl⟩
def Co(e:Xe ws):Xo ws where
 m:=R0 e.m
 p:=λenv s=>(e.p env s).bind λd s=>match d with
  |.int i=>.ok (J i) s
  |_=>.bad
 ok {q h L B O Z env s} c:=by
  refine(e.ok c).bind λx v a l j f ⟨w,_,_⟩=>?_
  cases x with
  |int i=>rw[w.int];exact⟨J i,a,rfl,KB.refl _ _,f,rfl⟩
  |_=>trivial
def Kd(d:D)(lo f:TB):Th:=match d with
 |.lst a=>J (.lst (fC a lo f))
 |.tup a=>if HT.lp a.length 0 lo=0/\HT.lp a.length a.length f=a.length then Y else J (.tup (fC a lo f))
 |_=>Y
def Mk(bd:Bd h O)(w:Vw q h L O a x)(e:Kd a lo hi=J d):Gv q h O I (HA x lo hi h) d:=by
 cases a with
 |lst f =>
  cases e;obtain⟨n,xs,rfl,g,r⟩:=w.lst;simp only[HA,g];have r:=vi lo hi r;have m:Mv O h O (h++[MO.lst (fI xs lo hi)]):=⟨λn j _=>qi j,λo i=>.inl i⟩
  have l:Mv O h (h.length::O) (h++[MO.lst (fI xs lo hi)]):=⟨λn j _=>qi j,λo i=>by
   rcases mx.mp i with z|z
   .exact .inr (by ext)
   .exact .inl z⟩
  have g:(h++[MO.lst (fI xs lo hi)])[h.length]?=J (.lst (fI xs lo hi)):=by simp
  exact⟨_,_,rfl,⟨_,_,rfl,λz=>by have:=bd _ z;ext,g,r.mv m⟩,λ_ k u e=>by obtain⟨rfl,rfl⟩:=gC e;exact⟨_,_,rfl,i_ _,g,r.mv l⟩⟩
 |tup f =>
  unfold Kd at e;dsimp only at e;by_cases z:HT.lp f.length 0 lo=0/\HT.lp f.length f.length hi=f.length
  .rw[b_ z]at e;cases e
  .rw[e_ z]at e;cases e;obtain⟨xs,rfl,r⟩:=w.tup;simp only[HA];rw[r.length,e_ z];exact Iz ⟨_,rfl,vi lo hi r⟩ λ_ k _ e=>by cases k<;>cases e
 |_=>cases e
def Cp(a:Xe ws)(lo f:Xo ws):Xe ws where
 m:=R1 a.m lo.m f.m
 p:=λenv s=>(a.p env s).bind λx s=>(lo.p env s).bind λl s=>(f.p env s).bind λu s=>.of (Kd x l u) s
 fz:=I
 fr:=I
 ok {q h L B O Z env s} c:=by
  refine(a.ok c).bind λx v Q X z H ⟨w,_,_⟩=>?_;have F:=c.kb z H;refine(lo.ok F).bind λl U R s2 i G e=>?_;subst e;have C:=F.kb i G;refine(f.ok C).bind λu S h3 W j E e=>?_;subst e;have M:=C.kb j E
  cases e:Kd x l u with
  |none=>trivial
  |some d =>
   obtain⟨y,g,e1,r,P⟩:=Mk M.bd ((w.kb i c.pO c.pL).kb j c.pO c.pL) e;exact B_ (pf (pf z.len i.len) j.len) E ⟨y,g,by rw[e1];rfl,r,P⟩
end
def tx:Ea where
 m:=fR
 p:=λf i=>match i with
  |[a]=>if f.length<100000 then J (.non,f++[a])else Y
  |_=>Y
 ok {q h O n xs f i vs d ds'} g r ra e:=by
  match i,e with
  |[a],e =>
   obtain⟨x,t,rfl,a,b⟩:=ra
   have:t=[]:=b
   subst this;dsimp only at e;by_cases z:f.length<100000
   .rw[b_ z]at e;cases e;refine⟨.non,xs++[x],?_,r.app ⟨x,[],rfl,a,rfl⟩,rfl⟩;simp only[fR,g];rw[b_ (by have:=dL;rw[r.length];ext)]
   .rw[e_ z]at e;cases e
def t_:Ea where
 m:=jx
 p:=λi l=>match l with
  |[a]=>a.items.bind λj=>if i.length+j.length<=100000 then J (.non,i++j)else Y
  |_=>Y
 ok {q h O n xs i l vs d ds'} g r ra e:=by
  match l,e with
  |[a],e =>
   obtain⟨x,t,rfl,w,b⟩:=ra
   have:t=[]:=b
   subst this;rw[JV]at e;obtain⟨j,e1,e2⟩:=e;by_cases z:i.length+j.length<=100000
   .rw[b_ z]at e2;cases e2;have B:=dL
    cases a with
    |lst u =>
     cases e1;obtain⟨m,ys,rfl,_,y,f⟩:=w;refine⟨.non,xs++ys,?_,r.app f,rfl⟩;simp only[jx,g,y];rw[b_ (by rw[r.length,f.length];ext)]
    |tup u =>
     cases e1;obtain⟨ys,rfl,f⟩:=w;refine⟨.non,xs++ys,?_,r.app f,rfl⟩;simp only[jx,g];rw[b_ (by rw[r.length,f.length];ext)]
    |_=>cases e1
   .rw[e_ z]at e2;cases e2
def xE:Ea where
 m:=mG
 p:=λf j=>match j with
  |[.int i,a]=>if(0<=i/\i<=100000)/\f.length<100000 then J (.non,f.take (min i.toNat f.length)++a::f.drop (min i.toNat f.length))else Y
  |_=>Y
 ok {q h O n xs f j vs d ds'} g r ra e:=by
  match j,e with
  |[.int i,a],e =>
   obtain⟨x,t,rfl,l,y,u,rfl,w,b⟩:=ra
   have:u=[]:=b
   subst this;rw[show x=PV.int i from l];dsimp only at e;by_cases z:(0<=i/\i<=100000)/\f.length<100000
   .rw[b_ z]at e;cases e;refine⟨.non,lq xs i y,?_,?_,rfl⟩
    .simp only[mG,g];rw[b_ ⟨by ext,by have:=dL;rw[r.length];ext⟩]
    .unfold lq;rw[e_ (by ext),r.length];exact(r.take _).app ⟨y,_,rfl,w,r.drop _⟩
   .rw[e_ z]at e;cases e
end
section
variable{ws:TR}{env:au}{s:d_}
@[simp]theorem aj{d:D}{r:au}:(aa 0:Xe ws).p (J d::r) s=.ok d s:=rfl
@[simp]theorem am{i:Nat}{o:Th}{r:au}:(aa (i+1):Xe ws).p (o::r) s=(aa i:Xe ws).p r s:=by simp[aa]
theorem vQ(e:env[i]?=J (J d)):(aa i:Xe ws).p env s=.ok d s:=by show(match env[i]? with|some (J d)=>PR.ok d s|_=>.bad)=_;rw[e]
@[simp]theorem bf:(xC k:Xe ws).p env s=.ok k.d s:=rfl
@[simp]theorem Qy:Cn.non.d=.non:=rfl
@[simp]theorem Sn:(Cn.bl b).d=.bl b:=rfl
@[simp]theorem aL:(Cn.int b).d=.int b:=rfl
@[simp]theorem Qz:(Cn.str b).d=.str b:=rfl
@[simp]theorem aB:(ac o a b).p env s=(a.p env s).bind λx s1=>(b.p env s1).bind λy s2=>.of (o.p x y) s2:=rfl
@[simp]theorem eD:(r_ o a).p env s=(a.p env s).bind λx s1=>.of (o.p x) s1:=rfl
@[simp]theorem ak:(a_:Xs ws).p env s=.ok [] s:=rfl
@[simp]theorem af:(ab a r).p env s=(a.p env s).bind λx s1=>(r.p env s1).bind λy s2=>.ok (x::y) s2:=rfl
@[simp]theorem bz:(nz o a).p env s=(a.p env s).bind λx s1=>.of (o.p x) s1:=rfl
@[simp]theorem aI:(ao f a h).p env s=(a.p env s).bind f.p:=rfl
@[simp]theorem gu:(dH a h).p env s=(a.p env s).bind λx s1=>if x.length<=100000 then .ok (.lst x) s1 else .bad:=rfl
@[simp]theorem cx:(aO a h).p env s=(a.p env s).bind λx s1=>if x.length<=100000 then .ok (.tup x) s1 else .bad:=rfl
@[simp]theorem IF:(D_:Xe ws).p env s=.ok (.dic T [] []) s:=rfl
@[simp]theorem bY:(xB a).p env s=(a.p env s).bl:=rfl
@[simp]theorem cq:(bn a).p env s=(a.p env s).bind λb s=>.ok (!b) s:=rfl
@[simp]theorem fu:(s_ a b).p env s=(a.p env s).bind λx s=>if x=I then .ok I s else b.p env s:=rfl
@[simp]theorem Ox:(n3:Xt ws).p env s=.ok I s:=rfl
@[simp]theorem mF:(eU a b).p env s=(a.p env s).bl.bind λx s=>if x=I then(b.p env s).bl.bind λy s=>.ok (.bl y) s else .ok (.bl T) s:=rfl
@[simp]theorem v7:(mH a).p env s=(a.p env s).bl.bind λx s=>.ok (.bl (!x)) s:=rfl
@[simp]theorem IG:(Iv t a b z h).p env s=(t.p env s).bind λx s=>if x=I then a.p env s else b.p env s:=rfl
@[simp]theorem Ml:(ot f g a b e).p env s=(a.p env s).bind λx s1=>(b.p env s1).bind λy s2=>match f.p x y with
  |some (.bl t)=>if t=I then(e.p env s2).bind λz s3=>.of (g.p y z) s3 else .ok (.bl T) s2
  |_=>.bad:=rfl
@[simp]theorem eZ:(bU o a).p env s=(a.p env s).bind λx s1=>.of (o.p x) s1:=rfl
@[simp]theorem eT:(bo a).p env s=(a.p env s).bind λx s1=>.of x.items s1:=rfl
@[simp]theorem So{i:Nat}{h:ws.contains i=T}{d:D}:(ki i h).p d env=J (env.set i (J d)):=rfl
@[simp]theorem Sq:(z_:FF ws).p [] env=J env:=rfl
@[simp]theorem Sr:(qa a t).p (d::ds) env=(a.p d env).bind λenv1=>t.p ds env1:=rfl
@[simp]theorem Ss:(Aa t n).p (.tup ds) env=if ds.length=n then t.p ds env else Y:=rfl
@[simp]theorem nj{nv:Nat}{fm:TR}{i:Xi ws}{ws':TR}{g:Xg ws'}{t:Xt ws'}{e:Xe ws'}{hw:B1 nv fm ws=ws'}{hz:e.fz=I}:(aU nv fm i g t e hw hz).p env s=(i.p env s).bind λds s1=>if ds.length<=100000 then (match dB g.p t.p e.p ds (wm nv fm env) s1 with
  |.ok r s2=>.ok (.lst r) s2
  |_=>.bad)else .bad:=rfl
@[simp]theorem su:(Cm:Xo ws).p env s=.ok Y s:=rfl
@[simp]theorem sv:(Co e).p env s=(e.p env s).bind λd s=>match d with
  |.int i=>.ok (J i) s
  |_=>.bad:=rfl
@[simp]theorem sj:(Cp a lo hi).p env s=(a.p env s).bind λx s=>(lo.p env s).bind λl s=>(hi.p env s).bind λu s=>.of (Kd x l u) s:=rfl
@[simp]theorem aD:(aH a b).p env s=(a.p env s).then b.p:=rfl
@[simp]theorem aX:(iw:Xd ws).p env s=.nx env s:=rfl
@[simp]theorem bt:(aK e).p env s=(e.p env s).go env λd _ s=>.rt d s:=rfl
theorem Eg{i:Nat}{h:ws.contains i=I}{d:D}(e:env[i]?=J (J d)):(rT i h).p env s=.rt d s:=by show(match env[i]? with|some (J d)=>PS.rt d s|_=>.bad)=_;rw[e]
@[simp]theorem v3:(oI e).p env s=(e.p env s).go env λ_=>.nx:=rfl
@[simp]theorem bF:(ti t a b).p env s=(t.p env s).go env λx env s=>if x=I then a.p env s else b.p env s:=rfl
@[simp]theorem bM:(bc i e hi hz).p env s=(e.p env s).go env λd env s=>.nx (env.set i (J d)) s:=rfl
@[simp]theorem lI:(D.lst ds).mine=I:=rfl
@[simp]theorem QA:(D.dic T ks ds).mine=I:=rfl
@[simp]theorem lZ{hi hz}:(gZ i e hi hz:Xd ws).p env s=(e.p env s).go env λd env s=>if d.mine=I then .nx (env.set i (J d)) s else .bad:=rfl
@[simp]theorem gf:(iH i g b hz).p env s=(i.p env s).go env λds env s=>Ca g.p b.p ds env s:=rfl
@[simp]theorem Mm:(B2 o i a hi hz).p env s=Ck o i a.p env s λ_=>.nx:=rfl
theorem aR{hw}(a:ds.length=np):(bp n np b hw).p ds s=(b.p (jn n ds) s).fin:=by show(if ds.length=np then _ else _)=_;rw[b_ a]
variable{i j:Int}{b:Bool}{x y:TU}
@[simp]theorem fK:bX.p (.int i) (.int j)=J (.int (i+j)):=rfl
theorem pY(h:x.length+y.length<=100000):bX.p (.lst x) (.lst y)=J (.lst (x++y)):=by show(if x.length+y.length<=100000 then _ else _)=_;rw[b_ h]
@[simp]theorem Eh:IA.p (.int i) (.int j)=J (.int (i-j)):=rfl
@[simp]theorem IH:IB.p (.int i) (.int j)=J (.bl (decide (i<j))):=rfl
@[simp]theorem QB:Ka.p (.int i) (.int j)=J (.bl (decide (i<=j))):=rfl
@[simp]theorem QC:Kb.p (.int i) (.int j)=J (.bl (decide (j<i))):=rfl
@[simp]theorem jW:h_.p (.lst x) (.int j)=ng x j:=rfl
@[simp]theorem mw:h_.p (.tup x) (.int j)=ng x j:=rfl
theorem Ei(h:j≠0):nM.p (.int i) (.int j)=J (.int (i.fmod j)):=by show(if j≠0 then _ else _)=_;rw[b_ h]
@[simp]theorem QD:(bh Ts).p d=(CM d).map λt=>.bl (Ts.any (cW t)):=rfl
@[simp]theorem QE:CM .non=J "NoneType":=rfl
@[simp]theorem Su:CM (.bl b)=J "bool":=rfl
@[simp]theorem QF:CM (.int i)=J "int":=rfl
@[simp]theorem QG:CM (.str z)=J "str":=rfl
@[simp]theorem QH:CM (.tup x)=J "tuple":=rfl
@[simp]theorem QI:CM (.lst x)=J "list":=rfl
@[simp]theorem QJ:CM (.dic fz ks es)=J "dict":=rfl
@[simp]theorem uX:qw.p [.int i,.int j]=J (.int (if j>i then j else i)):=rfl
@[simp]theorem ut:lC.p [.bl b]=J (.int (if b then 1 else 0)):=rfl
@[simp]theorem QK:lC.p [.int i]=J (.int i):=rfl
@[simp]theorem QL:cM.p [.lst x]=J (.int x.length):=rfl
@[simp]theorem QM:cM.p [.tup x]=J (.int x.length):=rfl
theorem Ej(h:x.length<=100000):xn.p [.lst x]=J (.lst x):=by show(if x.length<=100000 then _ else _)=_;rw[b_ h]
@[simp]theorem cU:cc.p [.lst x]=J (.tup x):=rfl
@[simp]theorem Mn:cc.p [.tup x]=J (.tup x):=rfl
theorem Mo(h:-100000<=i/\i<=100000):Ow.p [.int i]=J (.lst (cP 0 i.toNat)):=by show(if _ then _ else _)=_;rw[b_ h]
def m8(h:-100000<=i/\i<=100000):CN.p [.int i]=J (cP 0 i.toNat):=by show(if _ then _ else _)=_;rw[b_ h]
def Mp(h:(-100000<=i/\i<=100000) /\ -100000<=j/\j<=100000):Mj.p [.int i,.int j]=J (cP i (j-i).toNat):=by show(if _ then _ else _)=_;rw[b_ h]
@[simp]theorem Mq:iE.p [.lst x]=J (bK x):=rfl
@[simp]theorem Sv:iZ.p [.lst x,.lst y]=J (iQ x y):=rfl
@[simp]theorem Sw:iZ.p [.tup x,.tup y]=J (iQ x y):=rfl
@[simp]theorem sn:Kd (.lst x) lo hi=J (.lst (fC x lo hi)):=rfl
theorem qR(h:x.length<100000):tx.p x [a]=J (.non,x++[a]):=by show(if _ then _ else _)=_;rw[b_ h]
def qN(h:x.length+y.length<=100000):t_.p x [.lst y]=J (.non,x++y):=by show(if _ then _ else _)=_;rw[b_ h]
def zH{a:D}{i:Nat}(h:i<=x.length)(f:x.length<100000):xE.p x [.int i,a]=J (.non,x.take i++a::x.drop i):=by show(if _ then _ else _)=_;rw[b_ ⟨by ext,f⟩,BK,Kz h]
end
section
variable{i j:Int}{b c:Bool}
def iY(a:x.canLay0=I)(f:x.depth<=64):SeqAt.shaped x=I:=by simp[SeqAt.shaped,a,f]
@[simp]theorem dg:Av neg (.int i) (.int j)=J (.bl (if neg then !decide (i=j)else decide (i=j))):=by simp[Av,py,w6,SeqAt.shaped,PyData.canLay0,PyData.depth,PyData.eqv,Kn]
@[simp]theorem QN:Av neg (.bl b) (.bl c)=J (.bl (if neg then !(b==c)else b==c)):=by simp[Av,py,w6,SeqAt.shaped,PyData.canLay0,PyData.depth,PyData.eqv]
@[simp]theorem eQ:tu.p a d=Av T a d:=rfl
@[simp]theorem eV:wo.p a d=Av I a d:=rfl
@[simp]theorem wq:(BM neg).p a d=Kc neg a d:=rfl
theorem kJ:∀(k:TN),BX (k.map .int)=J (k.map .int)/\vv (k.map .int)=0
 |[]=>⟨rfl,rfl⟩
 |i::k=>by
  obtain⟨a,b⟩:=kJ k;simp[BX,py,a,vv,w6,b]
def rC:∀(xs:TN),(xs.map PyData.int).any (λe=>PyData.eqv e (.int x))=decide (x∈xs)
 |[]=>by simp
 |y::ys=>by
  rw[nc,Pm,rC ys]
  have:PyData.eqv (.int y) (.int x)=decide (x=y):=by simp[PyData.eqv,Kn,eq_comm]
  rw[this];by_cases z:x=y<;>simp[z]
def jc:∀(k f:TN),PyData.eqvAll (k.map .int) (f.map .int)=decide (k=f)
 |[],[]=>by simp[PyData.eqvAll]
 |[],_::_=>by simp[PyData.eqvAll]
 |_::_,[]=>by simp[PyData.eqvAll]
 |a::k,b::f=>by
  simp only[nc,PyData.eqvAll,PyData.eqv,jc k f,Kn];by_cases z:a=b<;>simp[z]
def k9{neg:Bool}{x:Int}{d:D}{xs:TN}(e:d.items=J (xs.map .int)):Kc neg (.int x) d=J (.bl (if neg then !decide (x∈xs)else decide (x∈xs))):=by obtain⟨a,b⟩:=kJ xs;simp only[Kc,e,py,a];rw[b_ ⟨⟨by simp[w6],⋯⟩,rfl,(jV xs).1⟩,rC]
def nT{f:Bool}{xs ys:TN}:Av f (.lst (xs.map .int)) (.lst (ys.map .int))=J (.bl (if f then !decide (xs=ys)else decide (xs=ys))):=by obtain⟨a,b⟩:=kJ xs;obtain⟨c,d⟩:=kJ ys;obtain⟨l,y⟩:=jV xs;obtain⟨u,z⟩:=jV ys;simp only[Av,py,a,c,Fh];rw[b_ ⟨⟨by simp[w6,b],by simp[w6,d]⟩,iY (by simpa [PyData.canLay0]using l) (by simp only[PyData.depth];lia),iY (by simpa [PyData.canLay0]using u) (by simp only[PyData.depth];lia)⟩];simp only[PyData.eqv,jc]
end
@[simp]theorem Oy:Ca g b [] env s=.nx env s:=rfl
theorem nQ(e:g d env=J env1):Ca g b (d::ds) env s=(b env1 s).turn (Ca g b ds):=by rw[Ca,e]
def fS(f:Nat->au->d_->Prop):∀(l:TU)(j:Nat)(env:au)(s:d_),f j env s ->
  (∀m env s d,f (j+m) env s->l[m]?=J d->∃i a u,g d env=J i/\b i s=.nx a u/\f (j+m+1) a u)->∃a u,Ca g b l env s=.nx a u/\f (j+l.length) a u
 |[],j,env,s,C,_=>⟨env,s,rfl,C⟩
 |d::l,j,env,s,C,st=>by
  obtain⟨i,y,H,e1,e2,F⟩:=st 0 env s d C rfl;obtain⟨B,G,e3,E⟩:=fS f l (j+1) y H F λm a u x q z=>by
   have:=st (m+1) a u x (by rw[show j+(m+1)=j+1+m by lia];exact q) (by simpa using z)
   rw[show j+(m+1)+1=j+1+m+1 by lia]at this;exact this
  refine⟨B,G,?_,by rw[B8,show j+(l.length+1)=j+1+l.length by lia];exact E⟩;rw[nQ e1,e2];exact e3
def oC(p:D->Bool)(f:D->D):∀(l:TU)(j:au),j.length=nv ->
  (∀x∈l,∀j:au,j.length=nv->∃a:au,a.length=nv/\g x (j++fr)=J (a++fr)/\t (a++fr) s=.ok (p x) s/\(p x=I->e (a++fr) s=.ok (f x) s))->dB g t e l (j++fr) s=.ok ((l.filter p).map f) s
 |[],j,hv,i=>rfl
 |x::l,j,hv,i=>by
  obtain⟨a,z,e1,e2,e3⟩:=i x (by simp) j hv;have B:=oC p f l a z λy C=>i y (l7 _ C);rw[dB,e1];dsimp only;rw[e2]
  cases u:p x with
  |true=>simp only[Pb,if_true,e3 u,B,OS u,nc]
  |false=>simp only[Pb,n7,if_false,B,OT (show ¬p x=I by simp[u])]
def pr{z a:TR}{env:au}{s:d_}{y:Nat}{fm:TR}{i:Xi z}{g:Xg a}{t:Xt a}{e:Xe a}{C:B1 y fm z=a}{E:e.fz=I}{l:TU}(p:D->Bool)(f:D->D)(G:i.p env s=.ok l s)(F:l.length<=100000)(u:∀x∈l,∀B:au,B.length=y->∃j:au,j.length=y/\g.p x (B++fm.map λi=>(env[i]?).getD Y)=J (j++fm.map λi=>(env[i]?).getD Y)/\t.p (j++fm.map λi=>(env[i]?).getD Y) s=.ok (p x) s/\(p x=I->e.p (j++fm.map λi=>(env[i]?).getD Y) s=.ok (f x) s)):
  (aU y fm i g t e C E).p env s=.ok (.lst ((l.filter p).map f)) s:=by
 rw[nj,G,Pb,b_ F];unfold wm;rw[oC p f l _ (by simp) u]
def wH{ws ws':TR}{env:au}{s:d_}{fm:TR}{i:Xi ws}{t:Xt ws'}{e:Xe ws'}{ds:TU}(p:D->Bool)(f:D->D)(C:i.p env s=.ok ds s)(B:ds.length<=100000)(a:∀x∈ds,t.p (J x::fm.map λi=>(env[i]?).getD Y) s=.ok (p x) s/\(p x=I->e.p (J x::fm.map λi=>(env[i]?).getD Y) s=.ok (f x) s))(l:ws'.contains 0=T:=by exact ys rfl)(j:B1 1 fm ws=ws':=by exact ys rfl)(y:e.fz=I:=by exact ys rfl):
  (aU 1 fm i (ki 0 l) t e j y).p env s=.ok (.lst ((ds.filter p).map f)) s :=
 pr p f C B λx u z hv=>match z,hv with
  |[_],_=>⟨[J x],rfl,rfl,a x u⟩
def pe{ws ws':TR}{env:au}{s:d_}{fm:TR}{i:Xi ws}{t:Xt ws'}{e:Xe ws'}{ds:TU}(p:D->Bool)(f:D->D)(F:i.p env s=.ok ds s)(E:ds.length<=100000)(j:∀x∈ds,∃a b,x=.tup [a,b]/\t.p (J a::J b::fm.map λi=>(env[i]?).getD Y) s=.ok (p x) s/\(p x=I->e.p (J a::J b::fm.map λi=>(env[i]?).getD Y) s=.ok (f x) s))(u:ws'.contains 0=T:=by exact ys rfl)(z:ws'.contains 1=T:=by exact ys rfl)(l:B1 2 fm ws=ws':=by exact ys rfl)(B:e.fz=I:=by exact ys rfl):
  (aU 2 fm i (Aa (qa (ki 0 u) (qa (ki 1 z) z_)) 2) t e l B).p env s=.ok (.lst ((ds.filter p).map f)) s :=
 pr p f F E λx y C hv=>match C,hv with
  |[_,_],_=>let⟨a,b,e,q⟩:=j x y;⟨[J a,J b],rfl,by subst e;rfl,q⟩
def yJ{α:Type}(l:List α):(l.filter λ_=>I)=l:=NO.mpr (by simp)
structure pk(n:Int)(ks:TQ):Prop where
 n0:0<=n
 n12:n<=12
 tie:∀k∈ks,∃a b:Int,k=[a,b]/\0<=a/\a<b/\b<n
 ris:SortT.DN ks
 nd:ks.Nodup
def II:TQ:=(List.range 12).flatMap λb=>(List.range b).map λ(a:Nat)=>[(a:Int),(b:Int)]
def zO:II.length=66:=by decide
def Bo(i:n<=12)(f:0<=a)(l:a<b)(j:b<n):[a,b]∈II:=by
 unfold II;rw[List.mem_flatMap];refine⟨b.toNat,by simp;lia,?_⟩;rw[mm];refine⟨a.toNat,by simp;lia,?_⟩;congr 1
 .lia
 .lia
def FH{n:Int}{i:TQ}(z:n<=12)(j:∀k∈i,∃a b:Int,k=[a,b]/\0<=a/\a<b/\b<n)(nd:i.Nodup):i.length<=66:=by rw[<-zO];refine List.Nodup.length_le_of_subset nd λk f=>?_;obtain⟨a,b,rfl,l,u,y⟩:=j k f;exact Bo z l u y
def below(v:Int)(f:TQ):TN:=f.filterMap λk=>match k with|[a,b]=>if b=v then J a else Y|_=>Y
def above(v:Int)(f:TQ):TN:=f.filterMap λk=>match k with|[a,b]=>if a=v then J b else Y|_=>Y
def Cc(n:Nat):TN:=(List.range n).map λ(i:Nat)=>(i:Int)
def ui:i∈Cc n↔0<=i/\i<n:=by
 unfold Cc;rw[mm];constructor
 .rintro⟨k,f,rfl⟩;rw[BQ]at f;lia
 .intro ⟨a,b⟩;exact⟨i.toNat,by rw[BQ];lia,⋯⟩
def ju(h:0<=i):∃n:Nat,i=(n:Int):=⟨i.toNat,⋯⟩
def Mr(h:SortT.bD [c,d] [a,b]=T):a<c\/(a=c/\b<=d):=by
 simp only[SortT.bD]at h;by_cases z:c=a
 .rw[b_ z]at h
  grind
 .rw[e_ z]at h;simp at h;lia
def Ek(w:pk n f):(below v f++above v f).Pairwise (·<=·):=by
 have tie:=w.tie;have ris:=w.ris;clear w;rw[NM];have F:∀(f:TQ)(x:Int),x∈below v f->(∀k∈f,∃a b:Int,k=[a,b]/\0<=a/\a<b/\b<n)->[x,v]∈f/\x<v:=λf x u tie=>by
  obtain⟨k,B,e⟩:=CY.mp u;obtain⟨a,b,rfl,_,lt,_⟩:=tie k B;by_cases z:b=v
  .simp[z]at e;subst e;subst z;exact⟨B,lt⟩
  .simp[z]at e
 have E:∀(f:TQ)(x:Int),x∈above v f->(∀k∈f,∃a b:Int,k=[a,b]/\0<=a/\a<b/\b<n)->[v,x]∈f/\v<x:=λf x u tie=>by
  obtain⟨k,B,e⟩:=CY.mp u;obtain⟨a,b,rfl,_,lt,_⟩:=tie k B;by_cases z:a=v
  .simp[z]at e;subst e;subst z;exact⟨B,lt⟩
  .simp[z]at e
 refine⟨?_,?_,λx u y G=>?_⟩
 .induction f with
  |nil=>exact .nil
  |cons k f C =>
   obtain⟨a,b,rfl,_⟩:=tie k (by simp);have l:=λk B=>tie k (l7 _ B);have i:=(Cf.mp ris);have j:=C l i.2;have e1:below v ([a,b]::f)=(if b=v then [a]else [])++below v f:=by unfold below;by_cases z:b=v<;>simp[z]
   rw[e1];by_cases z:b=v
   .rw[b_ z];refine Cf.mpr ⟨λx u=>?_,j⟩
    have:=Mr (i.1 _ (F f x u l).1)
    lia
   .rw[e_ z];exact j
 .induction f with
  |nil=>exact .nil
  |cons k f C =>
   obtain⟨a,b,rfl,_⟩:=tie k (by simp);have l:=λk B=>tie k (l7 _ B);have i:=(Cf.mp ris);have j:=C l i.2;have e1:above v ([a,b]::f)=(if a=v then [b]else [])++above v f:=by unfold above;by_cases z:a=v<;>simp[z]
   rw[e1];by_cases z:a=v
   .rw[b_ z];refine Cf.mpr ⟨λx u=>?_,j⟩
    have:=Mr (i.1 _ (E f x u l).1)
    lia
   .rw[e_ z];exact j
 .have:=(F f x u tie).2
  have:=(E f y G tie).2
  lia
def tW(w:pk n C):(below v C++above v C).Nodup/\∀x∈below v C++above v C,0<=x/\x<n:=by
 have G:∀x,x∈below v C->0<=x/\x<v/\x<n:=λx f=>by
  obtain⟨k,l,e⟩:=CY.mp f;obtain⟨a,b,rfl,_,lt,_⟩:=w.tie k l;by_cases z:b=v
  .simp[z]at e;subst e;lia
  .simp[z]at e
 have F:∀x,x∈above v C->0<=x/\v<x/\x<n:=λx f=>by
  obtain⟨k,l,e⟩:=CY.mp f;obtain⟨a,b,rfl,_,lt,_⟩:=w.tie k l;by_cases z:a=v
  .simp[z]at e;subst e;lia
  .simp[z]at e
 refine⟨?_,λx f=>?_⟩
 .rw[Kv];refine⟨?_,?_,λx f y i=>?_⟩
  .unfold below List.Nodup;rw[RB];refine List.Pairwise.imp_of_mem (λ{k E} l j u x f y i=>?_) w.nd;obtain⟨a,b,rfl,_⟩:=w.tie k l;obtain⟨c,d,rfl,_⟩:=w.tie E j;by_cases z1:b=v
   .by_cases B:d=v
    .simp[z1]at f;simp[B]at i;subst f i;rintro rfl;exact u (by rw[z1,B])
    .simp[B]at i
   .simp[z1]at f
  .unfold above List.Nodup;rw[RB];refine List.Pairwise.imp_of_mem (λ{k E} l j u x f y i=>?_) w.nd;obtain⟨a,b,rfl,_⟩:=w.tie k l;obtain⟨c,d,rfl,_⟩:=w.tie E j;by_cases z1:a=v
   .by_cases B:c=v
    .simp[z1]at f;simp[B]at i;subst f i;rintro rfl;exact u (by rw[z1,B])
    .simp[B]at i
   .simp[z1]at f
  .have:=G x f
   have:=F y i
   lia
 .rcases wj.mp f with q|q
  .have:=G x q;lia
  .have:=F x q;lia
noncomputable section
section
variable{ws:TR}
structure OpR where
 m:Nat->TL->MH->TD
 p:TU->TU->Th
 ok:∀{q:Nat}{h:MH}{L:Nat}{O:TR}{n:Nat}{xs:TL}{ds as:TU}{vs:TL}{d:D},h[n]?=J (.lst xs)->Rps q h O ds xs->Ir q h L O as vs->p ds as=J d->∃v,m n vs h=.ok v h/\Rp q h O d v/\∀k es,d≠dl k es
end
section
variable{ws:TR}{env:au}{s:d_}
end
end
noncomputable section
section
variable{ws:TR}
def qj(i j:Nat)(a:Xs ws)(E:ws.contains i=T:=by exact ys rfl)(F:ws.contains j=T:=by exact ys rfl)(P:a.fz=I:=by exact ys rfl):Xd ws where
 m:=Hf i j a.m
 p:=λenv s=>(a.p env s).go env λu env s=>match u with
  |[x,y]=>.nx ((env.set i (J x)).set j (J y)) s
  |_=>.bad
 fr:=I
 ok {q h L B O Z env s} c d:=by
  refine SOk.ex (f:=λC Z h=>match C with|[v,w]=>.nx ((Z.set i (J v)).set j (J w)) h|_=>.bad) (g:=λu env s=>match u with|[x,y]=>.nx ((env.set i (J x)).set j (J y)) s|_=>.bad) c d (a.ok c) λxs C G X kb l ⟨_,z⟩=>?_;have z:=z P
  match xs,z with
  |[],_=>trivial
  |[_],_=>trivial
  |[x,y],z =>
   obtain⟨v,t,rfl,H,U⟩:=z;obtain⟨w,W,rfl,rw',rfl⟩:=U;obtain⟨Q,M⟩:=l.sr.set (i:=i) (λz=>by simp[z]at E) H;obtain⟨S,R⟩:=Q.set (i:=j) (λz=>by simp[z]at F) rw';exact⟨_,G,rfl,O,Stp.refl _ _ _ _,⟨l.bd,l.sub,l.bb,l.pb,l.hL,l.pen,S⟩,(d.keep M).keep R⟩
  |_::_::_::_,_=>trivial
variable{env:au}{s:d_}
@[simp]theorem IJ:(qj i j a hi hj hz).p env s=(a.p env s).go env λds env s=>match ds with
  |[x,y]=>.nx ((env.set i (J x)).set j (J y)) s
  |_=>.bad:=rfl
end
end
noncomputable section
def jz:TU->Option (List (Int×D))
 |[]=>J []
 |.tup [.int k,v]::r=>(jz r).map ((k,v)::·)
 |_=>Y
def Ms(x:D):Option (List (Int×D)):=match x with
 |.tup f=>(match jz f with
  |some a=>if(a.map (·.1)).Nodup then J a else Y
  |none=>Y)
 |_=>Y
def Rkv(q:Nat)(h:MH)(O:TR):List (Int×D)->List (Int×PV)->Prop
 |[],r=>r=[]
 |a::t,r=>∃b u,r=b::u/\a.1=b.1/\Rp q h O a.2 b.2/\Rkv q h O t u
def yg:∀{i:TU}{xs:TL}{f:List (Int×D)},Rps q h O i xs->jz i=J f->∃j,hZ xs=J j/\Rkv q h O f j:=by
 intro i
 induction i with
 |nil=>intro xs f r e;rw[show xs=[]from r];cases e;exact⟨[],rfl,rfl⟩
 |cons d i E =>
  intro xs f r e;obtain⟨x,t,rfl,B,F⟩:=r;unfold jz at e
  split at e
  .rename_i z;cases z
  .rename_i u L M z
   injection z with z1 z2
   subst z1 z2;rw[As]at e;obtain⟨l,e1,rfl⟩:=e;obtain⟨j,e2,e3⟩:=E F e1;obtain⟨P,rfl,a,y,rfl,C,b,G,rfl,H,rfl⟩:=B;rw[show a=PV.int u from C];exact⟨(u,b)::j,by unfold hZ;rw[e2];rfl,_,_,rfl,rfl,H,e3⟩
  .cases e
def Rkv.keys:∀{f:List (Int×D)}{i:List (Int×PV)},Rkv q h O f i->i.map (·.1)=f.map (·.1)
 |[],_,r=>by rw[show _=[]from r];rfl
 |a::t,_,⟨b,u,e,e1,_,r⟩=>by rw[e,nc,nc,e1,Rkv.keys r]
def IK(r:Rp q h O x v)(e:Ms x=J kvs):∃a,L9 v=J a/\Rkv q h O kvs a:=by
 unfold Ms at e
 split at e
 .rename_i j
  split at e
  .rename_i f i
   split at e
   .rename_i nd
    cases e;obtain⟨xs,rfl,r⟩:=r;obtain⟨a,e1,e2⟩:=yg r i;refine⟨a,?_,e2⟩;simp only[L9,e1];rw[b_ (by rw[e2.keys];exact nd)]
   .cases e
  .cases e
 .cases e
section
variable{ws:TR}
def Aj(i j:Int):Xe ws where
 m:=mC (.tup [.int i,.int j])
 p:=λ_ s=>.ok (.tup [.int i,.int j]) s
 fz:=I
 fr:=I
 ok {q h L B O Z env s} c:=by have r:Rp q h O (.tup [.int i,.int j]) (.tup [.int i,.int j]):=⟨_,rfl,_,_,rfl,rfl,_,_,rfl,rfl,rfl⟩;exact⟨_,h,rfl,KB.refl _ _,c.pen,.inl r,λ_=>r,λ_ k a e=>by cases k<;>cases e⟩
end
end
noncomputable section
variable{ws:TR}
end
end PU
namespace MM
open PySem.Spec PyProof.Rows L2
def Mt:nw:=λ_ _=>.bad
def IL{X:Cx}{st:Stmt}:MS X st Mt:=λi s Z H D a ⟨U,f,h,rs,j,q⟩=>q.elim
end MM
namespace PU
open MM
def nY{ws:TR}:Xd ws where
 m:=Mt
 p:=λ_ _=>.bad
 fr:=I
 ok _ _:=trivial
end PU
namespace MM
open PySem.Spec PyProof.Rows L2
abbrev Ke(scope sc:Scope)(vars frees:TM):Prop:=(∀y∈scope.names,y.2=.cell->scope.names.lookup y.1=J .cell)/\(∀y∈scope.names,y.2=.local->scope.names.lookup y.1=J .local)/\(∀x∈vars,scope.names.lookup x=J .local\/scope.names.lookup x=J .cell)/\(∀x∈frees,scope.names.lookup x=J .free)/\(∀y∈scope.names,y.2=.free->y.1∈frees)/\(∀x∈frees,sc.names.lookup x=J .cell)
def IM(a f:Scope):Scope:={ a with names:=a.names.map λ(n,k)=>if(k == .free&&f.kind == .function&&f.names.lookup n==J .cell)then(n,.cell)else(n,k)}
def pz{a f:Scope}{env:Env}(h:env.scope=f):relabel a env=IM a f:=by subst h;rfl
def g8{X:Cx}{N:TM}{a l:Scope}{f frees:TM}{fm:TR}(j:X.env.scope=l)(y:a.kind=.function)(u:fm.map (λi=>N[i]?)=frees.map J)(h:Ke a l f frees):z5 X N a f frees fm :=
 Hy j y h.1 h.2.1 h.2.2.1 h.2.2.2.1 h.2.2.2.2.1 u h.2.2.2.2.2
def Mu{Q:TW->Prop}(h:∀f,Q [f]):∀a,a.length=1->Q a
 |[_],_=>h _
def Oz{Q:TW->Prop}(h:∀f i,Q [f,i]):∀a,a.length=2->Q a
 |[_,_],_=>h _ _
def OA{Q:TW->Prop}(h:∀i j f,Q [i,j,f]):∀a,a.length=3->Q a
 |[_,_,_],_=>h _ _ _
abbrev Zn(K:hH)(x:Str):Prop:=PySem.W.nsIn K mainGlobals x=J Y
abbrev Nn(X:Cx)(x:Str):Prop:=X.mg x=Y
abbrev Sc(X:Cx)(s:Stmt):Prop:=X.env.scope=ae s
abbrev Gd(X:Cx)(N G:TM)(k:Nat):Prop:=Good X N N G k
structure Ba(P:Program)(w:World)(K:hH)(mg:TH)(base:Heap):Prop where
 kin:K.In base
 ns:base.Ns mainGlobals mg
structure EE(X:Cx)(P:Program)(w:World)(K:hH)(mg:TH)(base:Heap):Prop where
 e1:X.prog=P
 e2:X.w=w
 e3:X.K=K
 e4:X.mg=mg
 e5:X.base=base
 b:Ba P w K mg base
section
variable{P:Program}{w:World}{K:hH}{mg:TH}{base:Heap}{X:Cx}
def EE.n(e:EE X P w K mg base){x:Str}(z:Zn K x):Nn X x:=by show X.mg x=Y;rw[e.e4];exact PySem.W.mg_none_of e.b.kin e.b.ns z
def FnAt.c{x:Str}{f:TM}{F:TL->MH->TD}{i j:Nat}(a:FnAt P w K mg base x f F i)(e:EE X P w K mg base)(h:i<=j:=by decide):Cal X x f F j :=
 (a.mono h).cal e.e1 e.e2 e.e3 e.e4 e.e5
def Mw{x:Str}{st:Stmt}{N G ps:TM}{m:nw}{k:Nat}(b:Ba P w K mg base)(D:c_ K x st)(f:∀X:Cx,EE X P w K mg base->Sc X st->Gd X N G k->h8 X->Bi X (aA st) m)(B:fQ x st ps:=by ac_rfl)(S:p_ N ps (ae st):=by nofun)(j:∀y∈N,(ae st).names.lookup y=J .local\/(ae st).names.lookup y=J .cell:=by decide +kernel)(a:∀y∈G,(ae st).names.lookup y=J .globalImplicit:=by decide +kernel)(dbg:∀x∈N++G,(x==("__debug__":Str))=T/\(x==("__classdict__":Str))=T/\x≠"__name__":=by decide +kernel):
  FnAt P w K mg base x ps (cB N.length ps.length m) (k+1) :=
 oZ b.kin b.ns D S B j a dbg λX e1 e2 e3 e4 e5 l g i=>f X ⟨e1,e2,e3,e4,e5,b⟩ l g i
end
structure YE(Y X:Cx):Prop where
 e1:Y.prog=X.prog
 e2:Y.w=X.w
 e3:Y.K=X.K
 e4:Y.mg=X.mg
 e5:Y.base=X.base
section
variable{X Y:Cx}{N W G:TM}{k:Nat}{x:Str}{p pos:Pos}{e:Expr}{es:TC}{m:Mx (TL)}{f:TL->MH->TD}
def YE.n(y:YE Y X)(h:X.mg x=none):Y.mg x=none:=y.e4.symm▸h
def YE.c(y:YE Y X){a:TM}{F:TL->MH->TD}{i:Nat}(c:Cal X x a F i):Cal Y x a F i:=c.at y.e1 y.e2 y.e3 y.e4 y.e5
def kV(g:Good X N W G k)(i:Nat)(a:N[i]?=J x:=by rfl):ME X (.Name x pos) (ah i):=y0 g i a
def A_(g:Good X N W G k)(i:Nat)(j:N[i]?=J x:=by rfl)(a:W[i]?=J x:=by rfl):MG X (.Name x pos) (mh i):=vV g i j a
def BN{a b:Expr}{i j:Mx PV}(l:ME X a i)(y:ME X b j)(u:jB b:=by exact λ_ _=>rfl):ME X (.Subscript a b pos) (az ba i j):=Fv l y u
def IN{i:CmpOp}{f:PV->PV->MH->TD}{a b:Expr}{l j:Mx PV}(y:zL X (compareOp i) f)(u:ME X a l)(B:ME X b j)(z:behindInMarks i b=T:=by first | exact Cr _ | rfl):MT X (.Compare a [i] [b] pos) (mB (az f l j)):=yz y u B z
def IQ(g:Good X N W G k)(j:Nat){u:TM}{F:TL->MH->TD}(C:Cal X x u F k)(i:MA X (e::es) m)(l:G[j]?=J x:=by rfl)(y:starEach (e::es) X.env=(T,eval e X.env)::starEach es X.env:=by rfl)(a:(backTo pos (starEach es X.env)).any (·.1)=T:=by rfl):ME X (.Call (.Name x p) (e::es) [] pos) (eX F m):=vC g l C i y a
def Cq{id:String}(g:Good X N W G k)(j:Nat)(l:cz X (.builtin id) f)(u:X.mg x=none)(hv:bootBuiltins x=J (.builtin id))(i:MA X (e::es) m)(y:G[j]?=J x:=by rfl)(z:starEach (e::es) X.env=(T,eval e X.env)::starEach es X.env:=by rfl)(a:(backTo pos (starEach es X.env)).any (·.1)=T:=by rfl):ME X (.Call (.Name x p) (e::es) [] pos) (qr f m):=sT g j y l u hv i z a
def QO{a:String}(g:Good X N W G k)(j:Nat)(u:cz X (.type a) f)(y:X.mg x=none)(hv:bootBuiltins x=J (.type a))(l:MA X (e::es) m)(z:G[j]?=J x:=by rfl)(B:starEach (e::es) X.env=(T,eval e X.env)::starEach es X.env:=by rfl)(i:(backTo pos (starEach es X.env)).any (·.1)=T:=by rfl):ME X (.Call (.Name x p) (e::es) [] pos) (qr f m):=qY g j z u y hv l B i
def QP{z a:Expr}(g:Good X N W G k)(j:Nat)(l:X.mg "range"=none)(i:MA X [a] m)(u:G[j]?=J "range":=by rfl)(y:starEach [a] X.env=[(T,eval a X.env)]:=by rfl):MI X z (.Call (.Name "range" p) [a] [] pos) (dP m):=qy (g.gl _ (aM u)) l i y
def Sx{i:TC}{u:Nat}{y:Pos}{a:Expr}(g:Good X N W G k)(j:Nat)(z:X.mg "enumerate"=none)(l:MA X [a] m)(B:G[j]?=J (("enumerate":String):Str):=by rfl)(C:starEach [a] X.env=[(T,eval a X.env)]:=by rfl):MI X (.Tuple i u y) (.Call (.Name "enumerate" p) [a] [] pos) (um m):=vO g B z l C
section
variable{tg iter elt:Expr}{ifs:TC}{scope sc:Scope}{mi:Mx MIt}{gt:Mg}{mt:Mx Bool}{me:Mx PV}
def QQ(g:Good X N W G k)(l:X.env.scope=sc)(a frees u:TM)(fm:TR)(z:MI X tg iter mi)(L:∀Y:Cx,YE Y X->Good Y (a++frees) a u k->MG Y tg gt/\CK Y ifs mt/\ME Y elt me)(E:scope.kind=.function:=by rfl)(H:fm.map (λi=>N[i]?)=frees.map J:=by rfl)(h:Ke scope sc a frees:=by decide +kernel)(nd:(a++frees).Nodup:=by decide +kernel)(j:∀x∈u,scope.names.lookup x=J .globalImplicit:=by decide +kernel)(dbg:∀x∈(a++frees)++u,(x==("__debug__":Str))=T/\(x==("__classdict__":Str))=T/\x≠"__name__":=by decide +kernel)(F:∀x,foldedSetIterable iter X.env x=pure x:=by exact λ_=>rfl):ME X (.ListComp elt [⟨tg,iter,ifs,0⟩] scope pos) (bV a.length fm mi gt mt me) :=
 pK g (g8 l E H h) nd j dbg z (λY y O B M C _ g=>L Y ⟨y,O,B,M,C⟩ g) F
def S6{j py:Pos}{y:Str}(g:Good X N W G k)(l:X.env.scope=sc)(i:Nat)(a frees C:TM)(fm:TR)(F:MI X tg iter mi)(R:∀Y:Cx,YE Y X->Good Y (a++frees) a C k->MG Y tg gt/\CK Y ifs mt/\ME Y elt me)(z:∀env:Env,env.scope=sc->swapsWith (.ListComp elt [⟨tg,iter,ifs,0⟩] scope pos) (J (.Name y py)) j.line env=pure I:=by(intro env h;cases env;cases h;rfl))(B:N[i]?=J y:=by rfl)(L:W[i]?=J y:=by rfl)(O:scope.kind=.function:=by rfl)(Q:fm.map (λi=>N[i]?)=frees.map J:=by rfl)(h:Ke scope sc a frees:=by decide +kernel)(nd:(a++frees).Nodup:=by decide +kernel)(u:∀x∈C,scope.names.lookup x=J .globalImplicit:=by decide +kernel)(dbg:∀x∈(a++frees)++C,(x==("__debug__":Str))=T/\(x==("__classdict__":Str))=T/\x≠"__name__":=by decide +kernel)(P:∀x,foldedSetIterable iter X.env x=pure x:=by exact λ_=>rfl):MS X (.Assign [.Name y py] (.ListComp elt [⟨tg,iter,ifs,0⟩] scope pos) j) (bS i (bV a.length fm mi gt mt me)) :=
 pU g i B L (z X.env l) (g8 l O Q h) nd u dbg F (λY E U H S M _ g=>R Y ⟨E,U,H,S,M⟩ g) P
def S7(g:Good X N W G k)(j:X.env.scope=sc)(a frees u:TM)(fm:TR)(z:MI X tg iter mi)(L:∀Y:Cx,YE Y X->Y.env.scope=IM scope sc->Good Y (a++frees) a u k->MG Y tg gt/\CK Y ifs mt/\ME Y elt me)(E:scope.kind=.function:=by rfl)(H:fm.map (λi=>N[i]?)=frees.map J:=by rfl)(h:Ke scope sc a frees:=by decide +kernel)(nd:(a++frees).Nodup:=by decide +kernel)(l:∀x∈u,scope.names.lookup x=J .globalImplicit:=by decide +kernel)(dbg:∀x∈(a++frees)++u,(x==("__debug__":Str))=T/\(x==("__classdict__":Str))=T/\x≠"__name__":=by decide +kernel)(F:∀x,foldedSetIterable iter X.env x=pure x:=by exact λ_=>rfl):ME X (.ListComp elt [⟨tg,iter,ifs,0⟩] scope pos) (bV a.length fm mi gt mt me) :=
 pK g (g8 j E H h) nd l dbg z (λY y O B M C P g=>L Y ⟨y,O,B,M,C⟩ (P.trans (pz j)) g) F
def S8{j py:Pos}{y:Str}(g:Good X N W G k)(l:X.env.scope=sc)(i:Nat)(a frees C:TM)(fm:TR)(F:MI X tg iter mi)(R:∀Y:Cx,YE Y X->Y.env.scope=IM scope sc->Good Y (a++frees) a C k->MG Y tg gt/\CK Y ifs mt/\ME Y elt me)(z:∀env:Env,env.scope=sc->swapsWith (.ListComp elt [⟨tg,iter,ifs,0⟩] scope pos) (J (.Name y py)) j.line env=pure I:=by(intro env h;cases env;cases h;rfl))(B:N[i]?=J y:=by rfl)(L:W[i]?=J y:=by rfl)(O:scope.kind=.function:=by rfl)(Q:fm.map (λi=>N[i]?)=frees.map J:=by rfl)(h:Ke scope sc a frees:=by decide +kernel)(nd:(a++frees).Nodup:=by decide +kernel)(u:∀x∈C,scope.names.lookup x=J .globalImplicit:=by decide +kernel)(dbg:∀x∈(a++frees)++C,(x==("__debug__":Str))=T/\(x==("__classdict__":Str))=T/\x≠"__name__":=by decide +kernel)(P:∀x,foldedSetIterable iter X.env x=pure x:=by exact λ_=>rfl):MS X (.Assign [.Name y py] (.ListComp elt [⟨tg,iter,ifs,0⟩] scope pos) j) (bS i (bV a.length fm mi gt mt me)) :=
 pU g i B L (z X.env l) (g8 l O Q h) nd u dbg F (λY E U H S M Z g=>R Y ⟨E,U,H,S,M⟩ (Z.trans (pz l)) g) P
end
end
abbrev tD:=@PyProof.Rows.Boot.«abs»
abbrev uk:=@PyProof.Rows.Boot.«min»
abbrev yU:=@PyProof.Rows.Boot.«max»
abbrev zy:=@PyProof.Rows.Boot.«int»
abbrev lh:=@PyProof.Rows.Boot.«len»
abbrev vA:=@PyProof.Rows.Boot.«list»
abbrev jU:=@PyProof.Rows.Boot.«tuple»
abbrev zn:=@PyProof.Rows.Boot.«all»
abbrev lM:=@PyProof.Rows.Boot.«sorted»
abbrev Em:=@PyProof.Rows.Boot.«bool»
abbrev En:=@PyProof.Rows.Boot.«dict»
abbrev rm:=@PySem.F.slot_list_append
abbrev qC:=@PySem.F.type_list_append
abbrev yv:=@PySem.F.slot_list_extend
abbrev ya:=@PySem.F.type_list_extend
abbrev zt:=@PySem.F.slot_list_insert
abbrev xI:=@PySem.F.type_list_insert
end MM
namespace PU
open MM
open L2 (wC ng iG)
noncomputable section
section
variable{ws:TR}
end
end
noncomputable section
end
noncomputable section
end
section
variable{ws:TR}
end
end PU
namespace PU
open MM L2
noncomputable section
inductive VwD(h:MH)(fz:Bool)(ks:TN)(P:TL->Prop)(v:PV):Prop
 |mk(n:Nat)(xs:TL)(e:v=.loc n)(g:h[n]?=J (.dic fz ks xs))(r:P xs):VwD h fz ks P v
def Vw.dic{q:Nat}{h:MH}{L:Nat}{O:TR}{v:PV}{fz:Bool}{a:TN}{f:TU}(w:Vw q h L O (.dic fz a f) v):VwD h fz a (Rps q h O f) v:=by
 rcases w with⟨n,xs,e,_,g,r⟩|⟨n,i,xs,j,e,e1,_,_,g,r⟩
 .exact⟨n,xs,e,g,r⟩
 .cases i with
  |none=>cases e
  |some _=>cases e;exact⟨n,xs,e1,g,r⟩
def VwD.of{h:MH}{fz:Bool}{a:TN}{P:TL->Prop}{v:PV}(w:VwD h fz a P v):∃xs,cy h v=J (fz,a,xs)/\P xs:=by obtain⟨n,xs,rfl,g,r⟩:=w;exact⟨xs,by simp only[cy,g],r⟩
def tU{q:Nat}{h:MH}{O:TR}{f:TU}{xs:TL}{ks:TN}(r:Rps q h O f xs)(i:Int):match q_ ks f i with
  |some d=>∃v,q_ ks xs i=J v/\Rp q h O d v
  |none=>q_ ks xs i=Y:=by
 induction ks generalizing f xs with
 |nil=>cases f<;>cases xs<;>rfl
 |cons k ks j =>
  cases f with
  |nil=>rw[show xs=[]from r];rfl
  |cons d f =>
   obtain⟨x,t,rfl,a,b⟩:=r;unfold q_;by_cases e:k=i
   .simp only[b_ e];exact⟨_,rfl,a⟩
   .simp only[e_ e];exact j b
def Eo{q:Nat}{h:MH}{O:TR}{f:TU}{xs:TL}{ks:TN}{d:D}{v:PV}(r:Rps q h O f xs)(w:Rp q h O d v)(i:Int):(i0 ks f i d).1=(i0 ks xs i v).1/\Rps q h O (i0 ks f i d).2 (i0 ks xs i v).2:=by
 induction ks generalizing f xs with
 |nil=>exact⟨by simp[i0],by simpa [i0]using⟨v,[],rfl,w,rfl⟩⟩
 |cons k ks u =>
  cases f with
  |nil=>rw[show xs=[]from r];exact⟨rfl,v,[],rfl,w,rfl⟩
  |cons y f =>
   obtain⟨x,t,rfl,a,b⟩:=r;unfold i0;by_cases e:k=i
   .simp only[b_ e];exact⟨trivial,v,t,rfl,w,b⟩
   .simp only[e_ e];obtain⟨j,l⟩:=u b;exact⟨by rw[j],x,_,rfl,a,l⟩
def IR(l:Bool):xD where
 m:=sB l
 p:=λa b=>match a,b with
  |.int i,.dic _ f j=>J (.bl (if l then !(q_ f j i).isSome else(q_ f j i).isSome))
  |_,_=>Y
 fr:=I
 ok {q h L O a x b y d} bd wa wb e:=by
  cases a with
  |int i =>
   cases b with
   |dic fz f j =>
    cases e;rw[wa.int];obtain⟨xs,e1,r⟩:=wb.dic.of;have z:(q_ f j i).isSome=(q_ f xs i).isSome:=by
     have:=tU (ks:=f) r i
     cases e2:q_ f j i with
     |none=>rw[e2]at this;rw[this];rfl
     |some d=>rw[e2]at this;obtain⟨v,e3,_⟩:=this;rw[e3];rfl
    simp only[sB,e1];rw[z];exact Ac
   |_=>cases e
  |_=>cases e
def ly:xD where
 m:=ni
 p:=λa b=>match a,b with
  |.dic _ f j,.int i=>q_ f j i
  |_,_=>Y
 fr:=T
 ok {q h L O a x b y d} bd wa wb e:=by
  cases a with
  |dic fz f j =>
   cases b with
   |int i =>
    rw[wb.int];obtain⟨xs,e1,r⟩:=wa.dic.of;have z:=tU (ks:=f) r i;rw[show q_ f j i=J d from e]at z;obtain⟨v,e3,l⟩:=z;simp only[ni,e1,e3];exact Iz l λz=>by cases z
   |_=>cases e
  |_=>cases e
def rf{q:Nat}{h:MH}{O:TR}:∀{f:List (Int×D)}{i:List (Int×PV)},Rkv q h O f i->i.map (·.1)=f.map (·.1)/\Rps q h O (f.map (·.2)) (i.map (·.2))
 |[],i,r=>by rw[show i=[]from r];exact⟨rfl,rfl⟩
 |kv::f,i,r=>by
  obtain⟨y,u,rfl,e,a,b⟩:=r;obtain⟨l,j⟩:=rf b;exact⟨by simp[l,<-e],_,_,rfl,a,j⟩
variable{ws:TR}
def BY(a:Xe ws)(j:Xs ws):Xe ws where
 m:=Sb a.m j.m
 p:=λenv s=>(a.p env s).bind λx P=>match x with
  |.dic _ f l=>(j.p env P).bind λy E=>match y with
   |[.int i,d]=>.ok ((q_ f l i).getD d) E
   |_=>.bad
  |_=>.bad
 fz:=j.fz
 fr:=T
 ok {q h L B O Z env s} c:=by
  refine(a.ok c).bind λx v X P k1 p1 ⟨w,_,_⟩=>?_
  cases x with
  |dic fz f l =>
   have c1:=c.kb k1 p1;obtain⟨n,xs,rfl,g,r⟩:=w.dic;have R:n≠q:=by
    rcases w with⟨n',C,e,no,_⟩|⟨n',kd,C,ai,_,e,_,hn,_⟩
    .cases e;exact λz=>no (z▸c.pO)
    .cases e;have:=c.pL;lia
   have e1:cy X (.loc n)=J (fz,f,xs):=by simp only[cy,g]
   dsimp only;rw[e1];dsimp only;refine(j.ok c1).bind λy vs u E G F ⟨Q,z2⟩=>?_;have U:u[n]?=J (.dic fz f xs):=(G.keep n (aE g) R).trans g;have e2:cy u (.loc n)=J (fz,f,xs):=by simp only[cy,U]
   have r2:=r.mv (G.mv c.pO);by_cases M:∃i d,y=[.int i,d]
   .obtain⟨i,d,rfl⟩:=M;obtain⟨v1,v2,rfl,W,u2⟩:=Ed Q;rw[W.int,e2];dsimp only;have z:=tU (ks:=f) r2 i
    cases e3:q_ f l i with
    |none =>
     rw[e3]at z;dsimp only at z;rw[z];refine⟨_,u,rfl,KB.refl _ _,F,u2,λS=>?_,λz=>by cases z⟩;obtain⟨_,_,e5,_,_,_,e6,r6,_⟩:=z2 S;cases e5;cases e6;exact r6
    |some d' =>
     rw[e3]at z;obtain⟨v',e4,H⟩:=z;rw[e4];exact⟨_,u,rfl,KB.refl _ _,F,.inl H,λ_=>H,λz=>by cases z⟩
   .have:(match y with|[.int i,d]=>PR.ok ((q_ f l i).getD d) E|_=>.bad)=PR.bad:=by
     split
     .exact absurd ⟨_,_,rfl⟩ M
     .rfl
    rw[this];trivial
  |_=>trivial
@[simp]theorem rW{a:Xe ws}{as:Xs ws}{env:au}{s:d_}:(BY a as).p env s=(a.p env s).bind λx s1=>match x with
  |.dic _ ks ds=>(as.p env s1).bind λy s2=>match y with
   |[.int i,d]=>.ok ((q_ ks ds i).getD d) s2
   |_=>.bad
  |_=>.bad:=rfl
def j7(i:Nat)(l e:au->d_->PR D)(env:au)(s:d_):PS:=match e env s with
 |.ok v u=>(match l env u with
  |.ok (.int j) y=>(match env[i]? with
   |some (J (.dic T a f))=>if a.length<100000 then .nx (env.set i (J (.dic T (i0 a f j v).1 (i0 a f j v).2))) y else .bad
   |_=>.bad)
  |_=>.bad)
 |_=>.bad
def Ax{i:Nat}{a e:au->d_->PR D}{env:au}{s s1 s2:d_}{v:D}{j:Int}{ks:TN}{ds:TU}(e1:e env s=.ok v s1)(e2:a env s1=.ok (.int j) s2)(e3:env[i]?=J (J (.dic T ks ds)))(e4:ks.length<100000):
  j7 i a e env s=.nx (env.set i (J (.dic T (i0 ks ds j v).1 (i0 ks ds j v).2))) s2:=by
 simp only[j7,e1,e2,e3];rw[b_ e4]
def xG{i:Nat}{ix e:au->d_->PR D}{env:au}{s:d_}:j7 i ix e env s=.bad\/∃v l j u a f,e env s=.ok v l/\ix env l=.ok (.int j) u/\env[i]?=J (J (.dic T a f))/\a.length<100000/\j7 i ix e env s=.nx (env.set i (J (.dic T (i0 a f j v).1 (i0 a f j v).2))) u:=by
 unfold j7;split
 .rename_i v l e1
  split
  .rename_i j u e2
   split
   .rename_i a f e3
    by_cases h:a.length<100000
    .rw[b_ h];exact .inr ⟨v,l,j,u,a,f,e1,e2,e3,h,rfl⟩
    .rw[e_ h];exact .inl rfl
   .exact .inl rfl
  .exact .inl rfl
 .exact .inl rfl
def kF(i:Nat)(C e:Xe ws)(hi:ws.contains i=I:=by exact ys rfl)(hz:e.fz=I:=by exact ys rfl):Xd ws where
 m:=kT (ah i) C.m e.m
 p:=j7 i C.p e.p
 fr:=I
 ok {q h L B O Z env s} c d:=by
  rcases xG (i:=i) (e:=e.p) (ix:=C.p) (env:=env) (s:=s)with z|⟨v,s1,j,s2,f,R,e1,e2,e3,e4,z⟩
  .rw[z];trivial
  .rw[z];have l:i∈ws:=by simpa using hi
   have P:=e.ok c;rw[e1]at P;obtain⟨x,M,f1,u,E,_,rx,_⟩:=P;have X:=c.kb u E;have Q:=C.ok X;rw[e2]at Q;obtain⟨y,S,f2,a,G,w,_,_⟩:=Q;have W:=X.kb a G;obtain⟨F,kd,xs,ai,e0,U,b1,b2,g,r0⟩:=W.sr.ow i _ e3 l
   cases kd with
   |none=>cases e0
   |some al =>
    cases e0;replace g:S[F]?=J (.dic T f xs):=g;have hy:=w.int;subst hy;have em:ah i Z M=.ok (.loc F) M:=by simp[ah,U]
    obtain⟨p1,p2⟩:=Eo (ks:=f) r0 ((rx hz).mv (a.mv c.pO)) j;have nx:=ub (kd:=J (i0 f R j v).1) W d l e3 U p2;refine⟨Z,S.set F (.dic T (i0 f R j v).1 (i0 f xs j x).2),?_,nx.after ((u.trans a).stp c)⟩;have H:f.length<sizeLine:=by have:=dL;lia
    unfold kT xx;rw[f1];simp only[em,f2,cy,g];rw[b_ H,p1]
def Ep{i:Nat}{a e:Xe ws}{hi hz}{env:au}{s:d_}:(kF i a e hi hz).p env s=j7 i a.p e.p env s:=rfl
end
end PU
namespace MM
open PySem.Spec PyProof.Rows L2
section
variable{X:Cx}{a b:Expr}{pos:Pos}{k:Nat}
def bN:Expr->Bool
 |.Starred _ _=>T
 |_=>I
def bj(h:bN e=I):starEach (e::es) env=(T,eval e env)::starEach es env:=by cases e<;>first | rfl | cases h
def IS(j:ME X e m)(i:MA X es ms)(f:bN e=I:=by rfl):MA X (e::es) (ag m ms):=aF j i (bj f)
structure k_(X:Cx)(e:Expr)(m:Mx PV):Prop where
 h:ME X e m
structure AH(X:Cx)(es:TC)(ms:Mx (TL)):Prop where
 h:MA X es ms
structure Aw(X:Cx)(st:Stmt)(m:nw):Prop where
 h:MS X st m
structure ml(X:Cx)(st:Ti)(m:nw):Prop where
 h:Bi X st m
section
variable{e:Expr}{es:TC}{m ma mb:Mx PV}{ms:Mx (TL)}{st:Stmt}{rest:Ti}{u v:nw}{f:PV->PV->MH->TD}{N W G:TM}{x:Str}
def c8:AH X [] hG:=⟨aT⟩
def bi(l:k_ X e m)(j:AH X es ms)(i:bN e=I:=by rfl):AH X (e::es) (ag m ms):=⟨IS l.h j.h i⟩
def vR(h:ME X e m):k_ X e m:=⟨h⟩
def QR(h:AH X es ms):k_ X (.List es pos) (gK ms):=⟨xK h.h⟩
def CO(h:AH X es ms):k_ X (.Tuple es j pos) (dA ms):=⟨Hd h.h⟩
def BE(h:MS X st u):Aw X st u:=⟨h⟩
def FI(g:Good X N W G k)(i:Nat){j:Pos}(B:k_ X e m)(l:N[i]?=J x:=by rfl)(z:W[i]?=J x:=by rfl)(y:swapsWith e (J (.Name x j)) pos.line X.env=pure T:=by rfl):
  Aw X (.Assign [.Name x j] e pos) (bS i m):=⟨tq g i l z B.h y⟩
def Er(i:k_ X e m):Aw X (.Return (J e) pos) (cR m):=⟨He i.h⟩
def BF(h:Aw X st u):ml X [st] u:=⟨Dp h.h⟩
def BG(i:Aw X st u)(j:ml X rest v):ml X (st::rest) (cw u v):=⟨Am i.h j.h⟩
end
end
end MM
namespace MM
open PySem.SeqAt PySem.MeetsSeq PySem.MeetsSeq2 PySem.MeetsSeq3 PySem.SeqRoads2
end MM
namespace MM
open PySem.Spec PyProof.Rows L2
section
variable{X:Cx}{k:Nat}
end
end MM
namespace PU
open MM
noncomputable section
end
end PU
namespace SetT
open PySem.SetTable PyProof.Rows
section
variable{prog:Program}{w:World}{A:Around}{E:TF}{s:Shared}
end
end SetT
namespace MM
open PySem.Spec PyProof.Rows L2 SetT SortT
section
variable{X:Cx}{N W G:TM}{k:Nat}
end
end MM
namespace PU
open MM SetT
noncomputable section
end
end PU
namespace MM
open PySem.Spec PyProof.Rows L2
open PU (Xe Xs Xt Xi Xg FF Xo Xd Ot xD BW J8 Ea OpR Fn aa xC ac r_ a_ ab nz ao dH aO D_ xB bn s_ n3 eU mH Iv ot aU bU bo ki z_ qa Aa aH iw aK rT oI ti bc gZ iH J_ B2 bp FG Cm Co Cp qj nY BY kF Aj)
structure CP(X:Cx)(e:Expr)(m:Mx Bool):Prop where
 h:MT X e m
structure OB(X:Cx)(e:Expr)(m:Mx Bool):Prop where
 h:MW X e m
structure FJ(X:Cx)(tg e:Expr)(m:Mx MIt):Prop where
 h:MI X tg e m
structure My(X:Cx)(e:Expr)(m:Mg):Prop where
 h:MG X e m
structure OC(X:Cx)(e:TC)(m:Dq):Prop where
 h:Lu X e m
structure QS(X:Cx)(e:TC)(m:Mx Bool):Prop where
 h:CK X e m
structure OD(X:Cx)(e:Option Expr)(m:Mx (TB)):Prop where
 h:MO' X e m
structure OJ(X:Cx)(r:Value->Value->Sem Value)(o:xD):Prop where
 h:zL X r o.m
def Es(a:Scope):TM:=(a.names.filter λy=>match y.2 with|.globalImplicit=>I|_=>T).map (·.1)
abbrev gm(sc:Scope)(x:Str):Prop:=x∈Es sc
def FK:Expr->TM
 |.Name x _=>[x]
 |.Tuple a _ _=>a.flatMap λe=>match e with
  |.Name x _=>[x]
  |.Tuple a _ _=>a.flatMap λe=>match e with
   |.Name x _=>[x]
   |_=>[]
  |_=>[]
 |_=>[]
def Kg(N:TM)(fm:TR):TM:=fm.filterMap (N[·]?)
structure Wc(X:Cx)(P:Program)(w:World)(K:hH)(mg:TH)(base:Heap)(N W:TM)(k:Nat)(sc:Scope):Prop where
 g:Good X N W (Es sc) k
 e:EE X P w K mg base
 s:X.env.scope=sc
section
variable{X Y:Cx}{P:Program}{w:World}{K:hH}{mg:TH}{base:Heap}{N W:TM}{k:Nat}{sc:Scope}{ws:TR}{x y:Str}{p p' pos spos:Pos}{e a b d tg:Expr}{es:TC}{i j:Nat}{st:Stmt}{rest body:Ti}{xa xb xd:Xe ws}{ta tb:Xt ws}{sa:Xs ws}{da db:Xd ws}
def Wc.gj(c:Wc X P w K mg base N W k sc)(h:gm sc x):∃j:Nat,(Es sc)[j]?=J x:=List.getElem?_of_mem h
def Wc.n(c:Wc X P w K mg base N W k sc)(z:Zn K x):X.mg x=none:=c.e.n z
def Mz{i:Int}:k_ X (.Constant (.int i) j pos) (xC (ws:=ws) (.int i)).m:=⟨aC⟩
def QT{i:Bool}:k_ X (.Constant (.bool i) j pos) (xC (ws:=ws) (.bl i)).m:=⟨Lo⟩
def MB:k_ X (.Constant .none j pos) (xC (ws:=ws) .non).m:=⟨G1⟩
def MC{f:Operator}{o:xD}(u:OJ X (binaryOp f) o)(l:k_ X a xa.m)(z:k_ X b xb.m):k_ X (.BinOp a f b pos) (ac o xa xb).m:=⟨aN u.h l.h z.h⟩
def MD{f:CmpOp}{o:xD}(u:OJ X (compareOp f) o)(l:k_ X a xa.m)(B:k_ X b xb.m)(z:behindInMarks f b=T):k_ X (.Compare a [f] [b] pos) (ac o xa xb).m:=⟨G2 u.h l.h B.h z⟩
def QU(f:k_ X a xa.m)(u:k_ X b xb.m)(l:jB b):k_ X (.Subscript a b pos) (ac PU.h_ xa xb).m:=⟨Fv f.h u.h l⟩
def MF(f:k_ X a xa.m):k_ X (.UnaryOp .USub a pos) (r_ PU.eM xa).m:=⟨Lq Hm f.h⟩
def IT(f:k_ X a xa.m):k_ X (.UnaryOp .Not a pos) (mH xa).m:=⟨G9 f.h⟩
def Et{u f:CmpOp}{o z:xD}(C:OJ X (compareOp u) o)(l:OJ X (compareOp f) z)(B:k_ X a xa.m)(F:k_ X b xb.m)(hd:k_ X d xd.m)(E:lastMarks [u,f] [b,d]=T):k_ X (.Compare a [u,f] [b,d] pos) (ot o z xa xb xd).m:=⟨Bb C.h l.h B.h F.h hd.h E⟩
def MK{f:BoolOp}(l:k_ X a xa.m):k_ X (.BoolOp f [a] pos) xa.m:=⟨G7 l.h⟩
def IU(f:k_ X a xa.m)(l:k_ X (.BoolOp .And (b::es) pos) xb.m):k_ X (.BoolOp .And (a::b::es) pos) (eU xa xb).m:=⟨G8 f.h l.h⟩
def ML{hz}(h:AH X es sa.m):k_ X (.Tuple es j pos) (aO sa hz).m:=CO h
def MN{hz}(h:AH X es sa.m):k_ X (.List es pos) (dH sa hz).m:=QR h
def MP:k_ X (.Dict [] [] pos) (D_ (ws:=ws)).m:=⟨Dw⟩
def QV{lo l:Option Expr}{f u:Xo ws}(z:k_ X a xa.m)(C:OD X lo f.m)(B:OD X l u.m):k_ X (.Subscript a (.Slice lo l none p) pos) (Cp xa f u).m:=⟨FD z.h C.h B.h⟩
def QW:OD X none (Cm (ws:=ws)).m:=⟨vk⟩
def QX(f:k_ X a xa.m):OD X (J a) (Co xa).m:=⟨vd f.h⟩
def MQ:AH X [] (a_ (ws:=ws)).m:=c8
def IV(l:k_ X e xa.m)(u:AH X es sa.m)(f:bN e=I):AH X (e::es) (ab xa sa).m:=bi l u f
def MU:OJ X (binaryOp .Add) PU.bX:=⟨cQ⟩
def MV:OJ X (binaryOp .Sub) PU.IA:=⟨Hl⟩
def MX:OJ X (binaryOp .Mult) PU.bE:=⟨gn⟩
def MY(f:k_ X a xa.m)(u:k_ X b xb.m)(l:jB b):k_ X (.Subscript a b pos) (ac PU.ly xa xb).m:=⟨ym f.h u.h l⟩
def MZ:OJ X (binaryOp .Mod) PU.nM:=⟨dG⟩
def QY:OJ X (compareOp .Lt) PU.IB:=⟨Fs⟩
def QZ:OJ X (compareOp .LtE) PU.Ka:=⟨Lx⟩
def Q0:OJ X (compareOp .Gt) PU.Kb:=⟨Ft⟩
def Q1:OJ X (compareOp .Is) (PU.Mf T):=⟨LC⟩
section
variable(c:Wc X P w K mg base N W k sc)
include c
def w_var(f:N[i]?=J x):k_ X (.Name x pos) (aa (ws:=ws) i).m:=⟨y0 c.g i f⟩
def Q2:OJ X (binaryOp .FloorDiv) PU.Ef:=⟨wE c.g.room⟩
def M0{i j:Int}(v:nN K mg x i j)(f:gm sc x):k_ X (.Name x pos) (Aj (ws:=ws) i j).m :=
 let⟨_,l⟩:=c.gj f
 ⟨xZ c.g l (by rw[c.e.e3,c.e.e4];exact v)⟩
def Q3:OJ X (compareOp .Eq) PU.tu:=⟨Fp c.g.room⟩
def Q4:OJ X (compareOp .NotEq) PU.wo:=⟨Fq c.g.room⟩
def Q5:OJ X (compareOp .In) (PU.BM T):=⟨FC c.g.room T⟩
def M1:OJ X (compareOp .NotIn) (PU.BM I):=⟨FC c.g.room I⟩
end
def gR{env:Env}:∀{es:TC},es.all bN=I->(backTo pos (starEach es env)).any (·.1)=T
 |[],_=>rfl
 |e::es,h=>by
  have f:bN e=I/\es.all bN=I:=by simpa using h
  have:=gR (env:=env) f.2
  rw[bj f.1];simpa [backTo]using this
section
variable(c:Wc X P w K mg base N W k sc)
include c
def IW{F:Fn}{E:TM}{hz}(u:AH X (e::es) sa.m)(f:FnAt P w K mg base x E F.m i)(h:i<=k)(z:gm sc x)(B:(e::es).all bN=I):k_ X (.Call (.Name x p) (e::es) [] pos) (ao F sa hz).m :=
 let⟨_,C⟩:=c.gj z
 have l:bN e=I/\es.all bN=I:=by simpa using B
 ⟨vC c.g C (f.c c.e h) u.h (bj l.1) (gR l.2)⟩
end
inductive BB(X:Cx)(x:Str)(o:BW):Prop
 |fn(id:String)(f:TL->MH->TD)(h:bootBuiltins x=J (.builtin id))(c:cz X (.builtin id) f)(e:o.k=λxs h=>(f xs h).ne:=by rfl):BB X x o
 |ty(T:String)(f:TL->MH->TD)(h:bootBuiltins x=J (.type T))(c:cz X (.type T) f)(e:o.k=λxs h=>(f xs h).ne:=by rfl):BB X x o
def M2:BB X "abs" PU.qu:=.fn _ _ tD tR
def M3:BB X "int" PU.lC:=.ty _ _ zy Hn
def M4:BB X "len" PU.cM:=.fn _ _ lh lb
def IY:BB X "list" PU.xn:=.ty _ _ vA DC
def Eu:BB X "tuple" PU.cc:=.ty _ _ jU om
def Bx:BB X "sorted" PU.dU:=.fn _ _ lM qA
section
variable(c:Wc X P w K mg base N W k sc)
include c
def M5{o:BW}(B:BB X x o)(u:AH X (e::es) sa.m)(z:Zn K x)(E:gm sc x)(F:(e::es).all bN=I):k_ X (.Call (.Name x p) (e::es) [] pos) (nz o sa).m:=by
 obtain⟨j,C⟩:=c.gj E;have l:bN e=I/\es.all bN=I:=by simpa using F
 refine⟨?_⟩;show ME X _ (λZ h=>(sa.m Z h).bind o.k)
 cases B with
 |fn id f h d q=>rw[q];exact sT c.g j C d (c.n z) h u.h (bj l.1) (gR l.2)
 |ty G f h d q=>rw[q];exact qY c.g j C d (c.n z) h u.h (bj l.1) (gR l.2)
def M6:BB X "max" PU.qw:=.fn _ _ yU (xY c.g)
def M7:BB X "all" PU.pH:=.fn _ _ zn (yo c.g)
def Q6(f:AH X [a] sa.m)(z1:Zn K "list")(z:Zn K "range")(l:gm sc "list")(u:gm sc "range")(B:bN a=I):k_ X (.Call (.Name "list" p) [.Call (.Name "range" p') [a] [] spos] [] pos) (nz PU.Ow sa).m :=
 let⟨_,i⟩:=c.gj l;let⟨_,j⟩:=c.gj u
 ⟨Ad c.g i (c.n z1) j (c.n z) f.h (bj B)⟩
end
structure BT(x:Str)(T:String):Prop where
 h:bootBuiltins x=J (.type T)
 o:Du T
def M8:BT "int" "int":=⟨zy,Dv⟩
def IZ:BT "bool" "bool":=⟨Em,Bk⟩
def Ev:BT "tuple" "tuple":=⟨jU,zc⟩
def I_:BT "list" "list":=⟨vA,Ah⟩
section
variable(c:Wc X P w K mg base N W k sc)
include c
def M9{f:String}(B:BT x f)(l:k_ X a xa.m)(z1:Zn K "isinstance")(C:Zn K x)(u:gm sc "isinstance")(z:gm sc x)(E:bN a=I):k_ X (.Call (.Name "isinstance" p) [a,.Name x p'] [] pos) (r_ (PU.bh [f]) xa).m :=
 let⟨_,i⟩:=c.gj u;let⟨_,j⟩:=c.gj z
 ⟨Ho c.g i (c.n z1) j (c.n C) B.h B.o l.h (bj E)⟩
def Ja{f u:String}{kt}{q E pt:Pos}(B:BT x f)(z:BT y u)(L:k_ X a xa.m)(z1:Zn K "isinstance")(M:Zn K x)(F:Zn K y)(G:gm sc "isinstance")(H:gm sc x)(O:gm sc y)(C:bN a=I):k_ X (.Call (.Name "isinstance" p) [a,.Tuple [.Name x q,.Name y E] kt pt] [] pos) (r_ (PU.bh [f,u]) xa).m :=
 let⟨_,i⟩:=c.gj G;let⟨_,j⟩:=c.gj H;let⟨_,l⟩:=c.gj O
 ⟨DE c.g i (c.n z1) j (c.n M) B.h B.o l (c.n F) z.h z.o L.h (bj C)⟩
end
abbrev MJ(X:Cx)(name:Str)(f:Nat->TL->MH->TD):Prop:=∃id,Slot "list" name id/\typeOf (.builtin id)=pure (.type "method_descriptor")/\J0 X id (J4 X f)
section
variable{name:Str}{f:Nat->TL->MH->TD}{o:Ea}{m:Mx PV}
def Q7{l:Mx (TL)}(M:MJ X name f)(B:k_ X a m)(u:AH X (e::es) l)(h:(((backTo pos (starEach (e::es) X.env)).all (λx=>!x.1)&&(backToKw pos (keywordEach [] X.env)).all (λx=>x.1.isSome)&&decide ((e::es).length+([]:List Keyword).length+(if([]:List Keyword).isEmpty then 0 else 1)<30))=I/\(p.endLine==pos.line)=I)/\attributeBase a name X.env (eval a X.env)=eval a X.env/\starEach (e::es) X.env=(T,eval e X.env)::starEach es X.env/\(backTo pos (starEach es X.env)).any (·.1)=T):k_ X (.Call (.Attribute a name p) (e::es) [] pos) (Fy f m l) :=
 let⟨_,x,y,z⟩:=M
 ⟨Fz x y z B.h u.h h.2.1 h.1.1 h.1.2 h.2.2.1 h.2.2.2⟩
def Q8{hi hz}(h:k_ X e (Fy o.m (aa (ws:=ws) i).m sa.m))(l:swapsWith e none pos.line X.env=pure T):Aw X (.Expr e pos) (B2 o i sa hi hz).m:=⟨nh h.h l⟩
end
def AM:MJ X "append" PU.tx.m:=⟨_,rm,qC,qJ⟩
def zS:MJ X "extend" PU.t_.m:=⟨_,yv,ya,zk⟩
def Ar:MJ X "insert" PU.xE.m:=⟨_,zt,xI,yu⟩
def Q9(f:k_ X a xa.m)(l:AH X [b,d] sa.m)(h:(((backTo pos (starEach [b,d] X.env)).all (λx=>!x.1)&&(backToKw pos (keywordEach [] X.env)).all (λx=>x.1.isSome)&&decide ([b,d].length+([]:List Keyword).length+(if([]:List Keyword).isEmpty then 0 else 1)<30))=I/\(p.endLine==pos.line)=I)/\attributeBase a "get" X.env (eval a X.env)=eval a X.env/\starEach [b,d] X.env=(T,eval b X.env)::starEach [d] X.env/\(backTo pos (starEach [d] X.env)).any (·.1)=T):k_ X (.Call (.Attribute a "get" p) [b,d] [] pos) (BY xa sa).m:=⟨L_ f.h l.h h.2.1 h.1.1 h.1.2 h.2.2.1 h.2.2.2⟩
def Jb{f:CmpOp}{o:xD}(u:OJ X (compareOp f) o)(l:k_ X a xa.m)(B:k_ X b xb.m)(z:behindInMarks f b=T):CP X (.Compare a [f] [b] pos) (xB (ac o xa xb)).m:=⟨yz u.h l.h B.h z⟩
def Jc(h:CP X a ta.m):CP X (.UnaryOp .Not a pos) (bn ta).m:=⟨G5 h.h⟩
def Q_{f:BoolOp}(h:OB X (.BoolOp f es pos) ta.m):CP X (.BoolOp f es pos) ta.m:=⟨MW.mt h.h⟩
def M_(h:CP X a ta.m):OB X (.BoolOp .Or [a] pos) ta.m:=⟨G6 h.h⟩
def w_or(h:CP X a ta.m)(f:OB X (.BoolOp .Or (b::es) pos) tb.m):OB X (.BoolOp .Or (a::b::es) pos) (s_ ta tb).m:=⟨Ls h.h f.h⟩
def Na(h:k_ X e xa.m)(l:∀f,isTrue e X.env f=(do let v <-f;standAt e.pos;holding [v] (truthy v))):CP X e (xB xa).m:=⟨G3 h.h l⟩
def Nb:QS X [] (n3 (ws:=ws)).m:=⟨hU⟩
def Nc(h:CP X a ta.m):QS X [a] ta.m:=⟨vc h.h⟩
def Ra:OC X [] (z_ (ws:=ws)).m:=⟨fL⟩
def Rb{ga:Xg ws}{f:FF ws}(l:My X e ga.m)(u:OC X es f.m)(z:(assignEach (e::es) X.env).map (·.2)=assign e X.env::(assignEach es X.env).map (·.2)):OC X (e::es) (qa ga f).m:=⟨bA l.h u.h z⟩
def Nd(h:k_ X a xa.m):FJ X tg a (bo xa).m:=⟨ik h.h⟩
section
variable(c:Wc X P w K mg base N W k sc)
include c
def Rc{hi}(h:N[i]?=J x)(f:W[i]?=J x):My X (.Name x pos) (ki (ws:=ws) i hi).m:=⟨vV c.g i h f⟩
def Re{l:FF ws}{n:Nat}(h:OC X es l.m)(u:(assignEach es X.env).length=n)(f:(assignEach es X.env).findIdx? (·.1)=none):My X (.Tuple es j pos) (Aa l n).m:=⟨iJ c.g h.h u f⟩
def Rf{n:Nat}(h:AH X [a] sa.m)(z:Zn K "enumerate")(f:gm sc "enumerate")(l:bN a=I):FJ X (.Tuple es n p) (.Call (.Name "enumerate" p') [a] [] pos) (bU PU.iE sa).m:=let⟨_,u⟩:=c.gj f;⟨vO c.g u (c.n z) h.h (bj l)⟩
def Rg{n:Nat}(h:AH X [a,b] sa.m)(z:Zn K "zip")(f:gm sc "zip")(B:starEach [a,b] X.env=(T,eval a X.env)::starEach [b] X.env)(l:(backTo pos (starEach [b] X.env)).any (·.1)=T):FJ X (.Tuple es n p) (.Call (.Name "zip" p') [a,b] [] pos) (bU PU.iZ sa).m:=let⟨_,u⟩:=c.gj f;⟨Ik c.g u (c.n z) h.h B l⟩
def Nf(h:AH X [a] sa.m)(z:Zn K "range")(f:gm sc "range")(l:bN a=I):FJ X tg (.Call (.Name "range" p) [a] [] pos) (bU PU.CN sa).m:=⟨qy (c.g.gl _ f) (c.n z) h.h (bj l)⟩
def Ng(h:AH X [a,b] sa.m)(z:Zn K "range")(l:gm sc "range")(u:starEach [a,b] X.env=[(T,eval a X.env),(T,eval b X.env)])(f:starEach [b] X.env=[(T,eval b X.env)]):FJ X tg (.Call (.Name "range" p) [a,b] [] pos) (bU PU.Mj sa).m:=⟨zg (c.g.gl _ l) (c.n z) h.h u f⟩
end
structure CB(Y:Cx)(tg elt:Expr)(ifs:TC)(gt:Mg)(mt:Mx Bool)(me:Mx PV):Prop where
 g:My Y tg gt
 t:QS Y ifs mt
 e:k_ Y elt me
section
variable{iter elt:Expr}{ifs:TC}{scope:Scope}{nv:Nat}{fm ws':TR}{xi:Xi ws}{gt:Xg ws'}{xt:Xt ws'}{xe:Xe ws'}
abbrev Sy(N:TM)(tg:Expr)(nv:Nat)(fm:TR)(scope sc:Scope):Prop:=Ke scope sc (FK tg) (Kg N fm)/\(FK tg++Kg N fm).Nodup/\(∀x∈Es (IM scope sc),scope.names.lookup x=J .globalImplicit)/\(∀x∈(FK tg++Kg N fm)++Es (IM scope sc),(x==("__debug__":Str))=T/\(x==("__classdict__":Str))=T/\x≠"__name__")/\fm.map (λi=>N[i]?)=(Kg N fm).map J/\(FK tg).length=nv
section
variable(c:Wc X P w K mg base N W k sc)
include c
def Jd{B:PU.B1 nv fm ws=ws'}{F:xe.fz=I}(u:FJ X tg iter xi.m)(M:∀Y:Cx,Wc Y P w K mg base (FK tg++Kg N fm) (FK tg) k (IM scope sc)->CB Y tg elt ifs gt.m xt.m xe.m)(E:scope.kind=.function)(h:Sy N tg nv fm scope sc)(G:∀x,foldedSetIterable iter X.env x=pure x):k_ X (.ListComp elt [⟨tg,iter,ifs,0⟩] scope pos) (aU nv fm xi gt xt xe B F).m:=by
 obtain⟨L,nd,f,dbg,H,rfl⟩:=h;exact⟨pK c.g (g8 c.s E H L) nd f dbg u.h (λY l Q z O C R g=>let q:=M Y ⟨g,⟨l.trans c.e.e1,Q.trans c.e.e2,z.trans c.e.e3,O.trans c.e.e4,C.trans c.e.e5,c.e.b⟩,R.trans (pz c.s)⟩;⟨q.g.h,q.t.h,q.e.h⟩) G⟩
end
section
variable(c:Wc X P w K mg base N W k sc)(hsw:∀env:Env,env.scope=sc->swapsWith (.ListComp elt [⟨tg,iter,ifs,0⟩] scope pos) (some (.Name y p)) spos.line env=pure true)(hi:FJ X tg iter xi.m)(hY:∀Y:Cx,Wc Y P w K mg base (FK tg++Kg N fm) (FK tg) k (IM scope sc)->CB Y tg elt ifs gt.m xt.m xe.m)(hyi:N[i]?=some y)(hyw:W[i]?=some y)(h1:scope.kind=.function)(h:Sy N tg nv fm scope sc)(hs:∀x,foldedSetIterable iter X.env x=pure x)
include hsw hi hY c hyi hyw h1 h hs
def Ew:Aw X (.Assign [.Name y p] (.ListComp elt [⟨tg,iter,ifs,0⟩] scope pos) spos) (bS i (bV nv fm xi.m gt.m xt.m xe.m)):=by obtain⟨C,nd,l,dbg,z,rfl⟩:=h;exact⟨pU c.g i hyi hyw (hsw X.env c.s) (g8 c.s h1 z C) nd l dbg hi.h (λY u f E G B F g=>let q:=hY Y ⟨g,⟨u.trans c.e.e1,f.trans c.e.e2,E.trans c.e.e3,G.trans c.e.e4,B.trans c.e.e5,c.e.b⟩,F.trans (pz c.s)⟩;⟨q.g.h,q.t.h,q.e.h⟩) hs⟩
def Je{f:PU.B1 nv fm ws=ws'}{l:xe.fz=I}{hi' hz'}:Aw X (.Assign [.Name y p] (.ListComp elt [⟨tg,iter,ifs,0⟩] scope pos) spos) (bc i (aU nv fm xi gt xt xe f l) hi' hz').m:=Ew c hsw hi hY hyi hyw h1 h hs
end
end
def Rh:ml X [] (iw (ws:=ws)).m:=⟨jv⟩
def eK(h:Aw X st da.m):ml X [st] da.m:=BF h
def cX(f:Aw X st da.m)(l:ml X rest db.m):ml X (st::rest) (aH da db).m:=BG f l
def Jf{hi hz}(z:k_ X e xa.m)(f:k_ X a (aa (ws:=ws) i).m)(l:k_ X b xb.m)(u:swapsWith e (J (.Subscript a b p)) pos.line X.env=pure T):Aw X (.Assign [.Subscript a b p] e pos) (kF i xb xa hi hz).m:=⟨DY f.h l.h z.h u⟩
def Nh(h:k_ X e xa.m):Aw X (.Return (J e) pos) (aK xa).m:=Er h
def Jg{hi}(h:k_ X e (aa (ws:=ws) i).m):Aw X (.Return (J e) pos) (rT (ws:=ws) i hi).m:=Er h
def Jh(h:k_ X e xa.m)(f:swapsWith e none pos.line X.env=pure T):Aw X (.Expr e pos) (oI xa).m:=⟨nh h.h f⟩
def Ri(f:CP X e ta.m)(l:ml X body da.m)(u:ml X rest db.m):Aw X (.If e body rest pos) (ti ta da db).m:=⟨mO f.h l.h u.h⟩
def Ni:Aw X st (nY (ws:=ws)).m:=⟨IL⟩
section
variable(c:Wc X P w K mg base N W k sc)
include c
def Nj{l:Xi ws}{f:Xg ws}{hz}(z:FJ X tg e l.m)(u:My X tg f.m)(C:ml X body da.m)(B:∀x,foldedSetIterable e X.env x=pure x):Aw X (.For tg e body [] pos) (iH l f da hz).m:=⟨jI c.g z.h u.h C.h B⟩
def Rj{n hm}(f:CP X e ta.m)(l:ml X body da.m):Aw X (.While e body [] pos) (J_ n ta da hm).m:=⟨Ak c.g f.h l.h⟩
def Ji{hi' hz}(u:k_ X e xa.m)(l:swapsWith e (J (.Name x p)) pos.line X.env=pure T)(z:N[i]?=J x)(f:W[i]?=J x):Aw X (.Assign [.Name x p] e pos) (gZ i xa hi' hz).m:=⟨tq c.g i z f u.h l⟩
def Jj{hi' hz}(l:∀env:Env,env.scope=sc->swapsWith e (J (.Name x p)) pos.line env=pure T)(z:k_ X e xa.m)(f:N[i]?=J x)(u:W[i]?=J x):Aw X (.Assign [.Name x p] e pos) (bc i xa hi' hz).m:=⟨tq c.g i f u z.h (l _ c.s)⟩
def Nk{x y:Str}{l py pt f:Pos}{kt k2}{hi' hj' hz}(F:∀env:Env,env.scope=sc->swappedStores [.Tuple [.Name x l,.Name y py] kt pt] (.Tuple [a,b] k2 f) env=pure (J [x,y]))(z:AH X [a,b] sa.m)(B:N[i]?=J x)(G:N[j]?=J y)(u:i≠j)(C:sc.names.lookup x=J .local)(E:sc.names.lookup y=J .local)(H:swapsWithSole [.Tuple [.Name x l,.Name y py] kt pt] (.Tuple [a,b] k2 f) pos.line X.env=pure T):Aw X (.Assign [.Tuple [.Name x l,.Name y py] kt pt] (.Tuple [a,b] k2 f) pos) (qj i j sa hi' hj' hz).m:=⟨Hg c.g i j B G u z.h (by rw[c.s];exact C) (by rw[c.s];exact E) (F _ c.s) H⟩
end
def Rk{np:Nat}{F:TL->MH->TD}(N:TM)(b:Ba P w K mg base)(D:c_ K x st)(u:fQ x st (N.take np):=by ac_rfl)(S:p_ N (N.take np) (ae st):=by nofun)(f:∀y∈N,(ae st).names.lookup y=J .local\/(ae st).names.lookup y=J .cell:=by decide +kernel)(dbg:∀x∈N++[],(x==("__debug__":Str))=T/\(x==("__classdict__":Str))=T/\x≠"__name__":=by decide +kernel)(l:F=cB N.length (N.take np).length λ_ _=>.bad:=by rfl):FnAt P w K mg base x (N.take np) F (k+1):=by
 subst l;exact oZ (G:=[]) b.kin b.ns D S u f (λ_ h=>nomatch h) dbg λX e1 e2 e3 e4 e5 B g z=>DU
def v_{F:Fn}{np:Nat}{ws:TR}{B:Xd ws}{hw}(N:TM)(b:Ba P w K mg base)(D:c_ K x st)(z:∀X:Cx,Wc X P w K mg base N N k (ae st)->h8 X->ml X (aA st) B.m)(H:F=bp N.length np B hw:=by rfl)(u:fQ x st (N.take np):=by ac_rfl)(S:p_ N (N.take np) (ae st):=by nofun)(E:∀y∈N,(ae st).names.lookup y=J .local\/(ae st).names.lookup y=J .cell:=by decide +kernel)(f:∀y∈Es (ae st),(ae st).names.lookup y=J .globalImplicit:=by decide +kernel)(dbg:∀x∈N++Es (ae st),(x==("__debug__":Str))=T/\(x==("__classdict__":Str))=T/\x≠"__name__":=by decide +kernel)(l:(N.take np).length=np:=by rfl):
  FnAt P w K mg base x (N.take np) F.m (k+1):=by
 have q:=oZ b.kin b.ns D S u E f dbg λX e1 e2 e3 e4 e5 G g C=>(z X ⟨g,⟨e1,e2,e3,e4,e5,b⟩,G⟩ C).h;rw[l]at q;subst H;exact q
end
end MM
namespace SortT
open PyProof.Rows PySem.W
def iF(h:Heap)(a:Value->Int)(v:Value):Prop:=∃b o xs m t,v=.ref b/\h.get? b=J o/\o.cls=.type "tuple"/\o.data=.seq xs m/\xs[0]?=J (.int (a v) t)
def j4(n:Nat)(c:Nat->Nat->Bool):KasT (Array Nat)->Option (Array Nat)
 |.ret p=>J p
 |.ask i j k=>if i<n/\j<n then j4 n c (k (c i j))else Y
def wA(l:TR):Bool:=match j4 l.length (λi j=>decide (l.getD i 0<l.getD j 0)) (kas_sort l.length) with
 |some p=>p.toList.isPerm (List.range l.length)&&decide ((p.toList.map λi=>l.getD i 0).Pairwise (·<=·))
 |none=>T
def ff(a:TN):Prop:=∃l:TR,wA l=I/\l.length=a.length/\∀i j:Nat,i<a.length->j<a.length->(a.getD i 0<a.getD j 0↔l.getD i 0<l.getD j 0)
section
variable{prog:Program}{w:World}{A:Around}{E:TF}{s:Shared}{rk:Value->Int}{vs:TW}
def uH{v:Value}{Q:Bool->Shared->Prop}(hv:(v==v)=I)(h:Q I s):wpAny (model prog w) A (eqBool v v) Q E s:=by unfold eqBool;refine wpAny_holding ?_;rw[b_ hv];exact g_ (wpAny_rule (j_ h))
def sQ{b:Bool}{Q:Bool->Shared->Prop}(h:Q fin s):∀(xs:TW)(i:Nat),(∀v∈xs,(v==v)=I)->KatLex prog w A b fin Q (xs.zip xs) i s
 |[],_,_=>kat_nil h
 |x::xs,i,hv=>by
  rw[O0];exact kat_cons (uH (hv x x_) (kat_yes (sQ h xs (i+1) λv z=>hv v (l7 _ z))))
def rV(rk:Value->Int)(vs:TW):Prop:=∀x∈vs,∀y∈vs,rk x=rk y->x=y
def Jk{f l:Value}{Q:Bool->Shared->Prop}(O:∀v∈vs,iF s.heap rk v)(nd:rV rk vs)(M:f∈vs)(L:l∈vs)(C:Q (decide (rk f<rk l)) s):wpAny (model prog w) A (keyLt' (tuples' I) f l) Q (λ_ _=>False) s:=by
 obtain⟨X,Z,B,nx,P,ex,y,_,u,i⟩:=O f M;obtain⟨ay,U,H,W,ty,R,G,_,F,j⟩:=O l L;by_cases z:rk f=rk l
 .have e:=nd f M l L z;subst e;have e0:decide (rk f<rk f)=decide (B.size<B.size):=by simp
  rw[e0]at C;rw[ex];exact kat_lt y u y u (sQ C _ _ λv _=>beq_self_eq_true v)
 .rw[ex,R];refine kat_lt y u G F ?_;obtain⟨S,e1⟩:∃r,B.toList=.int (rk f) P::r:=by
   cases e:B.toList with
   |nil=>rw[<-BJ,e]at i;cases i
   |cons a r=>rw[<-BJ,e]at i;cases i;exact⟨r,rfl⟩
  obtain⟨ry,e2⟩:∃r,H.toList=.int (rk l) ty::r:=by
   cases e:H.toList with
   |nil=>rw[<-BJ,e]at j;cases j
   |cons a r=>rw[<-BJ,e]at j;cases j;exact⟨r,rfl⟩
  rw[e1,e2,O0];refine kat_cons (wpAny_eqBool_int ?_)
  have:(rk f==rk l)=T:=by simpa using z
  rw[this];exact kat_no (oneLt_int C)
def ue{i:Nat}(h:i<vs.length):vs.getD i Value.none∈vs:=by rw[Fd,xg h];exact List.getElem_mem h
def zF{G:Array Nat->Shared->Prop}(f:∀v∈vs,iF s.heap rk v)(nd:rV rk vs){c:Nat->Nat->Bool}(l:∀i j,i<vs.length->j<vs.length->c i j=decide (rk (vs.getD i Value.none)<rk (vs.getD j Value.none))){p:Array Nat}(g:G p s):
  ∀t:KasT (Array Nat),j4 vs.length c t=J p->t.kasWp (kas_ask prog w A (tuples' I) vs) G s
 |.ret a,e=>by cases e;exact g
 |.ask i j k,e=>by
  unfold j4 at e;by_cases z:i<vs.length/\j<vs.length
  .rw[b_ z]at e;show kas_ask prog w A (tuples' I) vs i j _ s;unfold kas_ask;refine Jk f nd (ue z.1) (ue z.2) ?_;rw[<-l i j z.1 z.2];exact zF f nd l g _ e
  .rw[e_ z]at e;cases e
def iF.up{h a:Heap}{v:Value}(k:∀b o,h.get? b=J o->o.cls=.type "tuple"->a.get? b=J o)(r:iF h rk v):iF a rk v :=
 let⟨b,o,xs,m,t,e,g,c,d⟩:=r;⟨b,o,xs,m,t,e,k b o g c,c,d⟩
def sH{Q:SortKind->Shared->Prop}(C:∀v∈vs,iF s.heap rk v)(F:0<vs.length)(h:Q (tuples' I) s):wpAny (model prog w) A (keyKind' vs.toArray) Q E s:=by
 have key:∀j:TW,(∀v∈j,iF s.heap rk v)->∃fs:TW,fs.length=j.length/\KatTups s.heap j fs/\∀v∈fs,∃i t,v=.int i t:=by
  intro j
  induction j with
  |nil=>exact λ_=>⟨[],rfl,KatTups.nil,λv hv=>by cases hv⟩
  |cons u j B =>
   intro a;obtain⟨fs,z,l,y⟩:=B λv hv=>a v (l7 _ hv);obtain⟨b,o,xs,m,t,e,g,c,d,f⟩:=a u x_;rw[e]at f ⊢;refine⟨.int (rk (.ref b)) t::fs,by simp[z],KatTups.cons g c d f l,λv hv=>?_⟩;rcases mx.mp hv with rfl|hv
   .exact⟨_,_,rfl⟩
   .exact y v hv
 obtain⟨fs,z,l,y⟩:=key vs C;refine kat_kind (T:=.type "int") l ⋯ (λv hv=>?_) (by decide) h;obtain⟨i,t,rfl⟩:=y v hv;exact .now
def Jl(ok:ff (vs.map rk))(G:vs.length<64):∃p:Array Nat,j4 vs.length (λi j=>decide (rk (vs.getD i Value.none)<rk (vs.getD j Value.none))) (kas_sort vs.length)=J p/\(p.toList.map λi=>vs.getD i Value.none).Perm vs/\((p.toList.map λi=>vs.getD i Value.none).map rk).Pairwise (·<=·):=by
 obtain⟨l,f,y,C⟩:=ok;rw[wv]at y C;have u:∀i,i<vs.length->(vs.map rk).getD i 0=rk (vs.getD i Value.none):=λi B=>by simp[Fd,B]
 have run:∀t:KasT (Array Nat),j4 vs.length (λi j=>decide (rk (vs.getD i Value.none)<rk (vs.getD j Value.none))) t=j4 l.length (λi j=>decide (l.getD i 0<l.getD j 0)) t:=by
  intro t;rw[y]
  induction t with
  |ret a=>rfl
  |ask i j k F =>
   unfold j4;by_cases z:i<vs.length/\j<vs.length
   .rw[b_ z,b_ z];have e:=C i j z.1 z.2;rw[u i z.1,u j z.2]at e;rw[decide_eq_decide.mpr e,F]
   .rw[e_ z,e_ z]
 unfold wA at f
 cases e:j4 l.length (λi j=>decide (l.getD i 0<l.getD j 0)) (kas_sort l.length) with
 |none=>rw[e]at f;cases f
 |some p =>
  rw[e]at f;dsimp only at f;rw[BA,decide_eq_true_eq]at f;have pm:=List.isPerm_iff.mp f.1;rw[y]at pm;have lt:∀i∈p.toList,i<vs.length:=λi B=>BQ.mp (pm.mem_iff.mp B);refine⟨p,by rw[run,<-y,e],?_,?_⟩
  .have a:=pm.map λi=>vs.getD i Value.none;refine a.trans (List.Perm.of_eq ?_);apply List.ext_getElem
   .simp
   .intro i L H;simp[Fd,H]
  .have b:=f.2;rw[C0]at b;rw[C0,C0];refine(List.Pairwise.and_mem.mp b).imp λ{a b} q=>?_
   have:=C b a (lt b q.2.1) (lt a q.1)
   rw[u b (lt b q.2.1),u a (lt a q.1)]at this;lia
def xR(H:s.heap.get? a=J (seqObj "list" vs.toArray n))(hk:∀v∈vs,iF s.heap rk v)(nd:rV rk vs)(ok:ff (vs.map rk))(C:vs.length<64)(h:∀z:TW,z.Perm vs->(z.map rk).Pairwise (·<=·)->P (.done (.ret .none)) { s with heap:=sortedHeap s.heap a vs z.toArray}):
  wpAny (model prog w) A (Builtin.«list.sort» ⟨[.ref a],[]⟩) P E s:=by
 rw[list_sort_plain];have ha:a<s.heap.objs.size:=m_ H;have l:vs.length<=sizeLine:=by rw[sizeLine_eq];lia
 refine g_ (listItems_at H rfl ?_);refine g_ (listUpdate_at H rfl ?_ (by rw[tt];exact l) (wB _));obtain⟨e1,L⟩:∃e1,(s.heap.update a (Obj.mapSeq λ_=>(#[]:Array Value))).get? a=J (seqObj "list" #[] e1):=⟨_,get?_update_seq H λ_=>#[]⟩;refine g_ (seqEpoch_at L rfl ?_);refine g_ (wpAny_newTuple ?_ (by show vs.length<=_;exact l));refine g_ (wpAny_newList ?_ (wB _));refine wpAny_holding ?_;have u:(((s.heap.update a (Obj.mapSeq λ_=>(#[]:Array Value))).push (seqObj "tuple" vs.toArray 0)).push (seqObj "list" #[] 0)).get? a=J (seqObj "list" #[] e1) :=
  lR _ (lR _ L)
 show wpAny (model prog w) A _ P E { s with heap:=((s.heap.update a (Obj.mapSeq λ_=>(#[]:Array Value))).push (seqObj "tuple" vs.toArray 0)).push (seqObj "list" #[] 0)};have B:∀v∈vs,iF (((s.heap.update a (Obj.mapSeq λ_=>(#[]:Array Value))).push (seqObj "tuple" vs.toArray 0)).push (seqObj "list" #[] 0)) rk v:=λv hv=>(hk v hv).up λb o W hc=>by
  have O:b≠a:=by rintro rfl;rw[H]at W;cases W;have U:Value.type "list"=Value.type "tuple":=hc;exact absurd U (by decide)
  exact lR _ (lR _ ((F4 _ _ _ _ O).trans W))
 have R:vs.toArray.size=vs.length:=by simp
 dsimp only;by_cases F:vs.toArray.size<2
 .rw[b_ F,b_ F];refine g_ (j_ ?_);rw[StateT.run_pure];refine g_ (j_ ?_);dsimp only;refine g_ (seqEpoch_at u rfl ?_);have S:((vs.toArray.zip vs.toArray).map (·.2))=vs.toArray:=by
   apply C1.mp;simp only[Array.toList_map,Array.toList_zip,List.toList_toArray];exact O7 (i_ _)
  refine g_ (listUpdate_at u rfl ?_ (wB _) (by show((vs.toArray.zip vs.toArray).map (·.2)).size<=_;rw[S,R];lia));simp only[bne_self_eq_false,n7,if_false];refine j_ ?_
  have:=h vs (List.Perm.refl _) (by
   match vs,R▸F with
   |[],_=>simp
   |[x],_=>simp)
  have e:(arrOf (SortSt.mk' general' (vs.toArray.zip vs.toArray) #[] 7 Y)).map (·.2)=vs.toArray:=S;rw[e];exact this
 .rw[e_ F,e_ F];refine g_ (sH (s:={ s with heap:=_}) B ⋯ ?_);obtain⟨p,hp,pm,pw⟩:=Jl ok C
  refine g_ (wpAny_mono (kat_run (Q:=λf M=>(arrOf f).map (·.2)=(p.toList.map λi=>vs.getD i Value.none).toArray/\failedOf f=Y/\M={ s with heap:=((s.heap.update a (Obj.mapSeq λ_=>(#[]:Array Value))).push (seqObj "tuple" vs.toArray 0)).push (seqObj "list" #[] 0)})
   (G:=λX M=>X=p/\M={ s with heap:=((s.heap.update a (Obj.mapSeq λ_=>(#[]:Array Value))).push (seqObj "tuple" vs.toArray 0)).push (seqObj "list" #[] 0)}) rfl ⋯ C (λX f M _ a2 Z ⟨a4,a5⟩=>by subst a4;exact⟨kat_snds rfl a2,Z,a5⟩)
   (zF (s:={ s with heap:=((s.heap.update a (Obj.mapSeq λ_=>(#[]:Array Value))).push (seqObj "tuple" vs.toArray 0)).push (seqObj "list" #[] 0)}) B nd (λi j _ _=>rfl) ⟨rfl,rfl⟩ _ hp)) ?_ λ_ _ e=>e)
  rintro⟨⟨⟩,f⟩ M ⟨y,hf,rfl⟩;dsimp only;refine g_ (seqEpoch_at u rfl ?_);have S:((arrOf f).map (·.2)).size=vs.length:=by rw[y,tt,pm.length_eq]
  refine g_ (listUpdate_at u rfl ?_ (wB _) (by show((arrOf f).map (·.2)).size<=_;rw[S];lia));rw[hf];simp only[bne_self_eq_false,n7,if_false];refine j_ ?_;rw[y];exact h _ pm pw
def xf{a:String}{p:Addr}{o:Obj}{m:Nat}{Q:TW->Shared->Prop}(j:a="list"\/a="tuple")(u:s.heap.get? p=J o)(l:o.cls=.type a)(hd:o.data=.seq vs.toArray m)(z:vs.length<=sizeLine)(h:Q vs { s with heap:=(s.heap.push (seqObj "list" #[] 0)).update s.heap.objs.size (Obj.mapSeq (·++vs.toArray))}):wpAny (model prog w) A (collect (.ref p)) Q E s:=by
 have f:(s.heap.push (seqObj "list" #[] 0)).get? p=J o:=lR _ u;have i:(s.heap.push (seqObj "list" #[] 0)).get? s.heap.objs.size=J (seqObj "list" #[] 0):=w_ _ rfl;have y:(Value.type a==Value.type "list" || Value.type a==Value.type "tuple")=I:=by rcases j with rfl|rfl<;>rfl
 unfold collect;refine g_ (wpAny_runValue (codeAny_builtin entry_proto_collect' (g_ (wpAny_newList (j_ ⟨Code.quiet_builtin _ (by decide +kernel),codeAny_builtin entry_list_iadd' ?_⟩)))));show wpAny _ _ (Builtin.List.listExtendWith (.ref s.heap.objs.size) (.ref p) _) _ _ { s with heap:=s.heap.push (seqObj "list" #[] 0)};unfold Builtin.List.listExtendWith;refine g_ (wpAny_typeOf (T:=a) ⟨o,f,l⟩ ?_);rw[b_ (by rw[Bool.or_assoc,y,Bool.or_true])];refine g_ (listItems_at f hd (g_ (listItems_at i rfl ?_)));rw[e_ (by simp)];refine g_ (listUpdate_at i rfl (j_ ?_) (wB _) (by show(#[]++vs.toArray).size<=_;simp;lia));show wpAny _ A (load s.heap.objs.size >>= _) _ _ _;refine g_ (wpAny_load (get?_update_seq i _) ?_);have e:((#[]:Array Value)++vs.toArray).toList=vs:=by simp
 show wpAny _ _ (pure _) _ _ _;rw[e];exact j_ h
def uG{j:String}{p:Addr}{o:Obj}{m:Nat}{Q:TF}(R:j="list"\/j="tuple")(L:s.heap.get? p=J o)(H:o.cls=.type j)(hd:o.data=.seq vs.toArray m)(P:∀v∈vs,iF s.heap rk v)(nd:rV rk vs)(ok:ff (vs.map rk))(F:vs.length<64)(h:∀(C:Heap) (l:Addr) (a:TW),(∀b G,s.heap.get? b=J G->C.get? b=J G)->s.heap.objs.size<=l->(∃c,C.get? l=J (seqObj "list" a.toArray c))->a.Perm vs->(a.map rk).Pairwise (·<=·)->Q (.ref l) { s with heap:=C}):
  wpAny (model prog w) A (call (.builtin "sorted") [.ref p]) Q E s:=by
 have f:vs.length<=sizeLine:=by rw[sizeLine_eq];lia
 refine Calls.call_function_entry kind_sorted plain_sorted entry_sorted (args_sorted1 _) ?_;unfold Builtin.«sorted»;refine g_ (m:=checkCount "sorted" 1 1 _) (j_ (g_ (xf R L H hd f (g_ (wpAny_newList ?_ f)))));generalize e1:(s.heap.push (seqObj "list" #[] 0)).update s.heap.objs.size (Obj.mapSeq (·++vs.toArray))=i;have y:∀b o,s.heap.get? b=J o->i.get? b=J o:=λb o z=>by
  rw[<-e1,F4 _ _ _ _ (ww (m_ z))];exact lR _ z
 have B:s.heap.objs.size<=i.objs.size:=by rw[<-e1,O9,size_push'];exact Ga _
 have u:(i.push (seqObj "list" vs.toArray 0)).get? i.objs.size=J (seqObj "list" vs.toArray 0):=w_ _ rfl;have up:∀b o,i.get? b=J o->(i.push (seqObj "list" vs.toArray 0)).get? b=J o:=λb o e=>lR _ e
 refine g_ (wpAny_holding (wpAny_call_entry slot_list_sort ⟨_,u,rfl⟩ entry_list_sort
  (xR (s:={ s with heap:=i.push (seqObj "list" vs.toArray 0)}) u (λv hv=>(P v hv).up λb o M _=>up b o (y b o M)) nd ok F λa pv O=>⟨_,rfl,?_⟩) (args_list_sort _)))
 refine j_ ⟨_,rfl,h _ i.objs.size a (λb o e=>?_) B (fb u _) pv O⟩;exact eI (ww (m_ (y b o e))) (up b o (y b o e)) _
end
end SortT
namespace SortT
def zi{b:Int}:∀{f:TN},f.Pairwise (·<·)->b∉f->∃p,p<=f.length/\∀i,i<f.length->((f.getD i 0<b↔i<p)/\(b<f.getD i 0↔p<=i))
 |[],_,_=>⟨0,i_ _,λi h=>by simp at h⟩
 |a::f,h,nb=>by
  obtain⟨l,u⟩:=Cf.mp h;obtain⟨C,B⟩:=List.ne_and_not_mem_of_not_mem_cons nb;obtain⟨p,y,q⟩:=zi u B;by_cases z:a<b
  .refine⟨p+1,by simpa using y,λi j=>?_⟩
   cases i with
   |zero=>simp only[Kr];lia
   |succ i =>
    have:=q i (by simpa using j)
    rw[F5];lia
  .refine⟨0,wB _,λi j=>?_⟩
   cases i with
   |zero=>simp only[Kr];lia
   |succ i =>
    have j:i<f.length:=by simpa using j
    have:=l (f.getD i 0) (by rw[Fd,xg j];exact List.getElem_mem j)
    rw[F5];lia
def Ex{a:TN}(h:a.Pairwise (·<·)){i j:Nat}(f:i<a.length)(l:j<a.length):a.getD i 0<a.getD j 0↔i<j:=by
 rw[Fd,xg f,Fd,xg l,Fg,Fg];have k:=F1.mp h;rcases Nat.lt_trichotomy i j with z|z | z
 .have:=k i j f l z;lia
 .subst z;lia
 .have:=k j i l f z;lia
end SortT
namespace MM
open PySem.Spec PyProof.Rows L2
section
variable{α β:Type}
def bL(f:α->Int)(x:α):List α->List α
 |[]=>[x]
 |y::r=>if f x<=f y then x::y::r else y::bL f x r
def aQ(f:α->Int)(l:List α):List α:=l.foldr (bL f) []
def kO(f:α->Int)(x:α):∀l,(bL f x l).Perm (x::l)
 |[]=>.refl _
 |y::r=>by
  unfold bL;split
  .exact .refl _
  .exact ((kO f x r).cons y).trans (.swap x y r)
def cV(f:α->Int):∀l,(aQ f l).Perm l
 |[]=>.refl _
 |x::l=>(kO f x (aQ f l)).trans ((cV f l).cons x)
def rA(f:α->Int)(x:α):∀l:List α,l.Pairwise (λa b=>f a<=f b)->(bL f x l).Pairwise (λa b=>f a<=f b)
 |[],_=>by simp[bL]
 |y::r,h=>by
  have j:=Cf.mp h;unfold bL;split
  .rename_i z
   refine Cf.mpr ⟨λa i=>?_,h⟩;rcases mx.mp i with q|q
   .rw[q];exact z
   .exact Int.le_trans z (j.1 a q)
  .rename_i z
   refine Cf.mpr ⟨λa i=>?_,rA f x r j.2⟩;rcases mx.mp ((kO f x r).mem_iff.mp i)with rfl|i
   .lia
   .exact j.1 a i
def rD(f:α->Int):∀l:List α,(aQ f l).Pairwise (λa b=>f a<=f b)
 |[]=>.nil
 |x::l=>rA f x _ (rD f l)
def q0(g:β->α)(f:α->Int)(x:β):∀l:List β,bL f (g x) (l.map g)=(bL (λb=>f (g b)) x l).map g
 |[]=>rfl
 |y::r=>by
  rw[nc];unfold bL;split
  .rfl
  .rw[q0 g f x r];rfl
def lg(g:β->α)(f:α->Int):∀l:List β,aQ f (l.map g)=(aQ (λb=>f (g b)) l).map g
 |[]=>rfl
 |x::l=>by
  show bL f (g x) (aQ f (l.map g))=(bL _ x (aQ _ l)).map g;rw[lg g f l,q0]
def nA{f g:α->Int}{x:α}:∀{l:List α},f x=g x->(∀a∈l,f a=g a)->bL f x l=bL g x l
 |[],_,_=>rfl
 |y::r,i,h=>by
  unfold bL;rw[i,h y x_,nA i λa j=>h a (l7 _ j)]
def nG{f g:α->Int}:∀{l:List α},(∀a∈l,f a=g a)->aQ f l=aQ g l
 |[],_=>rfl
 |x::l,h=>by
  have e:=nG (f:=f) (g:=g) (l:=l) λa i=>h a (l7 _ i);show bL f x (aQ f l)=bL g x (aQ g l);rw[e];exact nA (h x x_) λa i=>h a (l7 _ ((cV g l).mem_iff.mp i))
def lE{f:α->Int}:∀{l:List α}{x y:α},(l.map f).Nodup->x∈l->y∈l->f x=f y->x=y
 |[],_,_,_,h,_,_=>by cases h
 |a::l,x,y,nd,z,u,e=>by
  rw[nc,xk]at nd;rcases mx.mp z with j|j
  .rcases mx.mp u with i|i
   .exact j.trans i.symm
   .exact absurd (mm.mpr ⟨y,i,e.symm.trans (congrArg f j)⟩) nd.1
  .rcases mx.mp u with i|i
   .exact absurd (mm.mpr ⟨x,j,e.trans (congrArg f i)⟩) nd.1
   .exact lE nd.2 j i e
def oW{f:α->Int}{l m:List α}(p:m.Perm l)(nd:(l.map f).Nodup)(h:m.Pairwise λa b=>f a<=f b):m=aQ f l :=
 List.Perm.eq_of_pairwise (λa b i j x y=>lE nd (p.mem_iff.mp i) ((cV f l).mem_iff.mp j) ⋯) h (rD f l) (p.trans (cV f l).symm)
end
def uA:PV->TB
 |.tup (.int k::_)=>J k
 |_=>Y
def vj(x:PV):Int:=(uA x).getD 0
def FL(h:Heap)(v:Value):Int:=match v with
 |.ref b=>(match h.get? b with
  |some o=>(match o.data with
   |.seq xs _=>(match (xs[0]?:TZ) with
    |some (.int k _)=>k
    |_=>0)
   |_=>0)
  |none=>0)
 |_=>0
def xc(xs:TL)(h:MH):TD:=match xs with
 |[x]=>(match bJ h x with
  |some ys=>if(∀y∈ys,(uA y).isSome=I)/\(ys.map vj).Nodup/\SortT.ff (ys.map vj)/\ys.length<64 then .ok (.loc h.length) (h++[.lst (aQ vj ys)])else .bad
  |none=>.bad)
 |_=>.bad
inductive T3(K:hH)(U:TV)(H:Hp):TL->List V->TW->List (PV×V×Value)->Prop
 |nil:T3 K U H [] [] [] []
 |cons{x:PV}{y:V}{u:Value}{xs:TL}{ys:List V}{us:TW}{ts:List (PV×V×Value)}(r:RP K U H x y)(v:aJ y u)(t:T3 K U H xs ys us ts):T3 K U H (x::xs) (y::ys) (u::us) ((x,y,u)::ts)
section
variable{K:hH}{U:TV}{H:Hp}
def T3.ex:∀{xs:TL}{ys:List V}{a:TW},RPs K U H xs ys->aG ys a->∃f,T3 K U H xs ys a f
 |_,_,_,.nil,.nil=>⟨[],.nil⟩
 |_,_,_,.cons r rs,.cons v i=>let⟨f,t⟩:=T3.ex rs i;⟨_,.cons r v t⟩
def T3.maps:∀{xs:TL}{ys:List V}{i:TW}{a:List (PV×V×Value)},T3 K U H xs ys i a->xs=a.map (·.1)/\i=a.map (·.2.2)/\∀t∈a,RP K U H t.1 t.2.1/\aJ t.2.1 t.2.2
 |_,_,_,_,.nil=>⟨rfl,rfl,λt h=>by cases h⟩
 |_,_,_,_,.cons r v t=>by
  obtain⟨e1,e2,h⟩:=t.maps;refine⟨by rw[e1];rfl,by rw[e2];rfl,λq f=>?_⟩;rcases mx.mp f with rfl|f
  .exact⟨r,v⟩
  .exact h q f
def jl:∀{ts:List (PV×V×Value)},(∀t∈ts,RP K U H t.1 t.2.1/\aJ t.2.1 t.2.2)->RPs K U H (ts.map (·.1)) (ts.map (·.2.1))/\aG (ts.map (·.2.1)) (ts.map (·.2.2))
 |[],_=>⟨.nil,.nil⟩
 |t::ts,h=>by
  obtain⟨a,b⟩:=jl (ts:=ts) λq f=>h q (l7 _ f);obtain⟨c,d⟩:=h t x_;exact⟨.cons c a,.cons d b⟩
end
section
variable{X:Cx}
def Ae:cz X (.builtin "sorted") xc:=by
 intro Lz s Z H xs us Q j r ⟨U,h,ps,rh,rp,q⟩
 cases rp with
 |nil=>exact q.elim
 |@cons x y _ _ r1 t1 =>
  cases t1 with
  |cons _ _=>exact q.elim
  |nil =>
   unfold xc at q
   cases es:bJ h x with
   |none=>simp only[es]at q;exact q.elim
   |some ys =>
    simp only[es]at q;by_cases z:(∀y∈ys,(uA y).isSome=I)/\(ys.map vj).Nodup/\SortT.ff (ys.map vj)/\ys.length<64
    .rw[b_ z]at q;obtain⟨a,zs,rfl,al,W⟩:=jm rh r1 es;obtain⟨u,rfl,rx⟩:=fU r;cases rx;obtain⟨C,o,m,f,hT,O,M,hd,L⟩:∃(C:String) (o:Obj) (m:Nat) (f:TW),(C="list"\/C="tuple")/\s.heap.get? a=J o/\o.cls=.type C/\o.data=.seq f.toArray m/\aG zs f:=by
      rcases al with hq|hq
      .obtain⟨f,L,pl,_⟩:=j.list hq;obtain⟨o,O,M,n,hd⟩:=pl.isList;exact⟨"list",o,n,f,.inl rfl,O,M,hd,L⟩
      .obtain⟨f,L,⟨o,O,M,n,hd⟩,_⟩:=j.tuple hq;exact⟨"tuple",o,n,f,.inr rfl,O,M,hd,L⟩
     obtain⟨E,t3⟩:=T3.ex W L;obtain⟨e1,e2,hm⟩:=t3.maps;have key:∀t∈E,SortT.iF s.heap (FL s.heap) t.2.2/\vj t.1=FL s.heap t.2.2:=λt B=>by
      obtain⟨rp,rl⟩:=hm t B;have P:=z.1 t.1 (by rw[e1];exact mm.mpr ⟨t,B,rfl⟩);obtain⟨t1,t2,t3⟩:=t;dsimp only at rp rl P ⊢
      cases rp with
      |@tup ps a2 vs sq ai =>
       cases rl
       cases ai with
       |nil=>cases P
       |@cons p0 v0 _ _ r0 rr =>
        cases r0 with
        |int i =>
         obtain⟨ar,an,⟨o2,g2,c2,n2,d2⟩,_⟩:=j.tuple sq
         cases an with
         |cons w0 wr =>
          obtain⟨tk,rfl⟩:=w0;have e:FL s.heap (.ref a2)=i:=by simp[FL,g2,d2]
          exact⟨⟨a2,o2,_,n2,tk,rfl,g2,c2,d2,by rw[e];rfl⟩,by rw[e];rfl⟩
        |_=>cases P
      |_=>cases P
     have R:ys.map vj=f.map (FL s.heap):=by rw[e1,e2,q7,q7];exact CH λt B=>(key t B).2
     have hl:f.length=ys.length:=by rw[e1,e2];simp
     refine SortT.uG (vs:=f) (rk:=FL s.heap) hT O M hd (λv hv=>?_) (λx hx y hy e=>lE (R▸z.2.1) hx hy e) (R▸z.2.2.1) (by rw[hl];exact z.2.2.2) λh' l F kp G ⟨c,S⟩ pv ri=>?_
     .rw[e2]at hv;obtain⟨t,B,rfl⟩:=mm.mp hv;exact(key t B).1
     .have eo:F=aQ (FL s.heap) f:=oW pv (R▸z.2.1) (C0.mp ri);have et:aQ (λt:PV×V×Value=>vj t.1) E=aQ (λt=>FL s.heap t.2.2) E:=nG λt B=>(key t B).2;obtain⟨ra,rb⟩:=jl (K:=X.K) (U:=U) (H:=H) (ts:=aQ (λt:PV×V×Value=>vj t.1) E) λt B=>hm t ((cV _ _).mem_iff.mp B);have s1:aQ vj ys=(aQ (λt:PV×V×Value=>vj t.1) E).map (·.1):=by rw[e1,lg]
      have s2:F=(aQ (λt:PV×V×Value=>vj t.1) E).map (·.2.2):=by rw[eo,et,e2,lg]
      rw[<-s1]at ra;rw[<-s2]at rb;have lz:((aQ (λt:PV×V×Value=>vj t.1) E).map (·.2.1)).length<=sizeLine:=by rw[<-ra.length,(cV vj ys).length_eq,sizeLine_eq];have:=z.2.2.2;lia
      refine⟨.ref l,_,j.laid (o:=.lst ((aQ (λt:PV×V×Value=>vj t.1) E).map (·.2.1))) (t':=s.toks) kp G (show ObjOk X.prog X.w _ _ _ (.lst _) from⟨lz,F,c,rb,S⟩),rfl,?_⟩;obtain⟨ap,l3⟩:=rh.new (j.hok.fresh G) (o:=.lst (aQ vj ys)) (ho:=.lst ((aQ (λt:PV×V×Value=>vj t.1) E).map (·.2.1))) ⟨_,rfl,ra⟩;exact q _ _ _ l3 ap (.loc (by rw[<-rh.len];simp))
    .rw[e_ z]at q;exact q.elim
end
end MM
namespace PU
open MM
def gU:D->TB
 |.tup (.int k::_)=>J k
 |_=>Y
def xu(d:D):Int:=(gU d).getD 0
section
variable{q:Nat}{h:MH}{O:TR}
def vW{d:D}{v:PV}(r:Rp q h O d v)(e:(gU d).isSome=I):uA v=gU d:=by
 cases d with
 |tup f =>
  cases f with
  |nil=>cases e
  |cons i f =>
   cases i with
   |int k =>
    obtain⟨xs,rfl,x,t,rfl,a,b⟩:=r;rw[show x=.int k from a];rfl
   |_=>cases e
 |_=>cases e
def sS{d:D}{v:PV}(r:Rp q h O d v)(e:vj v=xu d):∀{j:TU}{f:TL},Rps q h O j f->(∀(i:Nat) a b,j[i]?=J a->f[i]?=J b->vj b=xu a)->Rps q h O (bL xu d j) (bL vj v f)
 |[],f,rs,_=>by
  rw[show f=[]from rs];exact⟨v,[],rfl,r,rfl⟩
 |d'::j,f,rs,l=>by
  obtain⟨x,t,rfl,a,b⟩:=rs;unfold bL;rw[e,l 0 d' x rfl rfl];split
  .exact⟨v,x::t,rfl,r,x,t,rfl,a,b⟩
  .exact⟨x,_,rfl,a,sS r e b λi a b u y=>l (i+1) a b (by simpa using u) (by simpa using y)⟩
def zG{i:TU}{f:TL}(r:Rps q h O i f)(j:∀d∈i,(gU d).isSome=I):(∀v∈f,(uA v).isSome=I)/\f.map vj=i.map xu:=by
 induction i generalizing f with
 |nil=>rw[show f=[]from r];exact⟨(λv h=>by cases h),rfl⟩
 |cons d i y =>
  obtain⟨x,t,rfl,a,b⟩:=r;obtain⟨l,u⟩:=y b λd hd=>j d (l7 _ hd);have e:=vW a (j d x_);refine⟨λv hv=>?_,?_⟩
  .rcases mx.mp hv with rfl|hv
   .rw[e];exact j d x_
   .exact l v hv
  .rw[nc,nc,u];simp[vj,xu,e]
def zU{f:TU}{l:TL}(r:Rps q h O f l)(y:∀d∈f,(gU d).isSome=I):Rps q h O (aQ xu f) (aQ vj l):=by
 induction f generalizing l with
 |nil=>rw[show l=[]from r];exact rfl
 |cons d f E =>
  obtain⟨x,t,rfl,a,b⟩:=r;have j:∀d∈f,(gU d).isSome=I:=λd hd=>y d (l7 _ hd);have u:=E b j;show Rps q h O (bL xu d (aQ xu f)) (bL vj x (aQ vj t));have e2:=(zG u λz C=>j z ((cV xu f).mem_iff.mp C)).2;refine sS a (by simp[vj,xu,vW a (y d x_)]) u λi a b B F=>?_
  have:=congrArg (·[i]?) e2
  simpa [B,F]using this
end
def lP:BW where
 k:=λxs h=>(xc xs h).ne
 p:=λf=>match f with
  |[d]=>d.items.bind λa=>if(∀d∈a,(gU d).isSome=I)/\(a.map xu).Nodup/\SortT.ff (a.map xu)/\a.length<64 then J (.lst (aQ xu a))else Y
  |_=>Y
 fr:=I
 ok {q h L O f xs d} bd w e:=by
  match f,e with
  |[F],e =>
   obtain⟨x,rfl,wx⟩:=eL w;dsimp only at e;rw[JV]at e;obtain⟨a,e1,e2⟩:=e;by_cases z:(∀d∈a,(gU d).isSome=I)/\(a.map xu).Nodup/\SortT.ff (a.map xu)/\a.length<64
   .rw[b_ z]at e2;cases e2;obtain⟨ys,e0,r⟩:=wx.seqOf e1;obtain⟨y,l⟩:=zG r z.1
    have:xc [x] h=.ok (.loc h.length) (h++[.lst (aQ vj ys)]):=by simp only[xc,e0];rw[b_ ⟨y,l▸z.2.1,l▸z.2.2.1,by rw[r.length];exact z.2.2.2⟩]
    show Gv q h O I (xc [x] h).ne _;rw[this];have u:=zU r z.1;have g:(h++[MO.lst (aQ vj ys)])[h.length]?=J (.lst (aQ vj ys)):=by simp
    have E:Rps q (h++[MO.lst (aQ vj ys)]) O (aQ xu a) (aQ vj ys):=u.mv ⟨λn j _=>qi j,λo i=>.inl i⟩;have B:Rps q (h++[MO.lst (aQ vj ys)]) (h.length::O) (aQ xu a) (aQ vj ys):=u.mv ⟨λn j _=>qi j,λo i=>(mx.mp i).elim (λz=>.inr (Po z.symm)) .inl⟩;exact⟨_,_,rfl,⟨_,_,rfl,λz=>by have:=bd _ z;lia,g,E⟩,λ_ k C e=>by obtain⟨rfl,rfl⟩:=gC e;exact⟨_,_,rfl,i_ _,g,B⟩⟩
   .rw[e_ z]at e2;cases e2
end PU
namespace MM
open L2
def Ey{X:L2.Cx}:BB X "sorted" PU.lP:=.fn _ _ lM Ae
end MM
namespace TupM
open PySem.Builtin
section
open PyProof.Rows
variable{prog:Program}{w:World}{A:Around}{E:TF}{s:Shared}
end
end TupM
namespace L2
open PySem.Spec PyProof.Rows TupM
section
variable{X:Cx}
end
end L2
namespace MM
open PySem.Spec PyProof.Rows L2
section
variable{X:Cx}{U:TV}{H:Hp}
end
end MM
namespace PU
open MM
noncomputable section
end
end PU
namespace MM
open L2
end MM
namespace PU
open MM
open L2 (wC ng iG)
noncomputable section
abbrev Rd:=Option (TN)×TU
def fe(rd:List Rd):D:=.lst (rd.map λr=>dl r.1 r.2)
structure Gr(h:MH)(L a:Nat)(ms:TR)(rd:List Rd):Prop where
 top:h[a]?=J (.lst (ms.map .loc))
 len:ms.length=rd.length
 nd:(a::ms).Nodup
 ge:∀m∈a::ms,L<=m
 row:∀(i:Nat)(r:Rd),rd[i]?=J r->f_ r.2=I/\∃m xs,ms[i]?=J m/\h[m]?=J (mo r.1 xs)/\Rps 0 [] [] r.2 xs
def jl{q:Nat}{h:MH}{O:TR}:∀{j:TU}{a:TL},a.length=j.length->(∀(i:Nat) d v,j[i]?=J d->a[i]?=J v->Rp q h O d v)->Rps q h O j a
 |[],[],_,_=>rfl
 |[],_::_,f,_=>by simp at f
 |_::_,[],f,_=>by simp at f
 |d::j,v::a,f,r=>⟨v,a,rfl,r 0 d v rfl rfl,jl (by simpa using f) λi d v e1 e2=>r (i+1) d v (by simpa using e1) (by simpa using e2)⟩
def Rp.dl{q:Nat}{h:MH}{O:TR}{k:Option (TN)}{a:TU}{xs:TL}{m:Nat}(no:m∉O)(e:h[m]?=J (mo k xs))(r:Rps q h O a xs):Rp q h O (dl k a) (.loc m):=by
 cases k with
 |none=>exact⟨m,xs,rfl,no,e,r⟩
 |some f=>exact⟨m,xs,rfl,no,e,r⟩
mutual
def Rp.fq{p j:Nat}{h i:MH}{O a:TR}:∀{d:D}{v:PV},PU.flat d=I->Rp p h O d v->Rp j i a d v
 |.non,_,_,r=>r
 |.bl _,_,_,r=>r
 |.int _,_,_,r=>r
 |.str _,_,_,r=>r
 |.tup l,_,f,⟨xs,e,r⟩=>⟨xs,e,Rps.fq (by simpa [PU.flat]using f) r⟩
 |.lst l,_,f,_=>by simp[PU.flat]at f
 |.dic _ _ _,_,f,_=>by simp[PU.flat]at f
 |.exc _,_,f,_=>by simp[PU.flat]at f
 |.pen,_,f,_=>by simp[PU.flat]at f
def Rps.fq{p y:Nat}{h u:MH}{O l:TR}:∀{i:TU}{j:TL},PU.f_ i=I->Rps p h O i j->Rps y u l i j
 |[],_,_,r=>r
 |_::_,_,f,⟨x,t,e,a,b⟩=>⟨x,t,e,Rp.fq (by simp[PU.f_]at f;exact f.1) a,Rps.fq (by simp[PU.f_]at f;exact f.2) b⟩
end
section
variable{h h':MH}{L a:Nat}{ms:TR}{rd:List Rd}{O:TR}{q:Nat}
def Gr.lt(g:Gr h L a ms rd):∀m∈a::ms,m<h.length:=λm f=>by
 rcases mx.mp f with rfl|f
 .exact aE g.top
 .obtain⟨i,j,rfl⟩:=List.getElem_of_mem f;have l:=g.len;obtain⟨_,m,xs,e1,e2,_⟩:=g.row i (rd[i]'⋯) (xg ⋯);rw[xg j]at e1;cases e1;exact aE e2
def Gr.rp(g:Gr h L a ms rd)(no:∀m∈a::ms,m∉O):Rp q h O (fe rd) (.loc a):=by refine⟨a,ms.map .loc,rfl,no a (by simp),g.top,jl (by simp[g.len]) λi d v e1 e2=>?_⟩;rw[qo,As]at e1 e2;obtain⟨r,f,rfl⟩:=e1;obtain⟨m,em,rfl⟩:=e2;obtain⟨fl,l,xs,e3,e4,j⟩:=g.row i r f;rw[em]at e3;cases e3;exact Rp.dl (no m (l7 _ (AL em))) e4 (Rps.fq fl j)
def Gr.keep(g:Gr h L a ms rd)(k:∀m∈a::ms,h'[m]?=h[m]?):Gr h' L a ms rd :=
 ⟨(k a (by simp)).trans g.top,g.len,g.nd,g.ge,λi r e=>let⟨f,m,xs,e1,e2,e3⟩:=g.row i r e;⟨f,m,xs,e1,(k m (l7 _ (AL e1))).trans e2,e3⟩⟩
def Gr.put(g:Gr h L a ms rd){i m:Nat}{r':Rd}{l:TL}(u:ms[i]?=J m)(fl:f_ r'.2=I)(e:h'[m]?=J (mo r'.1 l))(G:Rps 0 [] [] r'.2 l)(k:∀n∈a::ms,n≠m->h'[n]?=h[n]?):Gr h' L a ms (rd.set i r'):=by
 have E:=AL u;have nd:=g.nd;rw[xk]at nd;have ne:a≠m:=λz=>nd.1 (z▸E);refine⟨(k a (by simp) ne).trans g.top,by simp[g.len],g.nd,g.ge,λj r B=>?_⟩;have F:i<rd.length:=by have:=(o_.mp u).1;rw[g.len]at this;exact this
 by_cases z:i=j
 .subst z;rw[x6 F]at B;cases B;exact⟨fl,m,l,u,e,G⟩
 .rw[pu z]at B;obtain⟨f,C,xs,e1,e2,e3⟩:=g.row j r B
  have:C≠m:=λy=>z ((List.getElem?_inj (i:=i) (j:=j) (o_.mp u).1 nd.2).mp (by rw[u,e1,y]))
  exact⟨f,C,xs,e1,(k C (l7 _ (AL e1)) this).trans e2,e3⟩
end
def Kp(i:Nat)(o:SOut)(Z:n4):Prop:=match o with
 |.nx a _=>a[i]?=Z[i]?
 |.bk a _=>a[i]?=Z[i]?
 |.ct a _=>a[i]?=Z[i]?
 |_=>True
def ve{n:Nat}{a:TU}{i:Nat}{d:D}(e:(jn n a)[i]?=J (J d)):a[i]?=J d:=by
 unfold jn at e;by_cases z:i<a.length
 .rw[qi (by simpa using z),qo,As]at e;obtain⟨x,e1,e2⟩:=e;cases e2;exact e1
 .rw[Br (by simp;lia),F2]at e
  split at e<;>cases e
def lu:∀{a:TU}{d:D},f_ a=I->d∈a->flat d=I
 |[],_,_,h=>nomatch h
 |x::a,d,f,h=>by
  simp[f_]at f;rcases mx.mp h with rfl|h
  .exact f.1
  .exact lu f.2 h
def Bh{q:Nat}{h:MH}{O:TR}{s S:d_}{B:Xd [0]}{n np m:Nat}{k k':Option (TN)}{ds ds' as:TU}{vs xs:TL}{u:au}(bd:∀o∈O,o<m)(hq:q∈O)(pn:be h q s)(g:h[m]?=J (mo k xs))(fl:f_ ds=I)(r:Rps 0 [] [] ds xs)(fa:f_ as=I)(P:Rps 0 [] [] as vs)(U:as.length+1=np)(hn:np<=n)(kp:∀Z h,Kp 0 (B.m Z h) Z)(e:B.p (jn n (dl k ds::as)) s=.nx u S)(e0:u[0]?=J (J (dl k' ds'))):
  ∃l,cB n np B.m (.loc m::vs) h=.ok .non l/\h.length<=l.length/\(∀j,j<h.length->j≠m->j≠q->l[j]?=h[j]?)/\be l q S/\∃F f,l[m]?=J (mo k' f)/\Rps q l F ds' f:=by
 have W:=aE g;have vl:vs.length=as.length:=P.length;have c:Cx q h m O (m::O) [0] (bq n (.loc m::vs)) (jn n (dl k ds::as)) s:=by
  refine⟨λo C=>?_,λo C=>l7 _ C,bd,hq,⋯,pn,?_,λi d a y=>?_,λi d a y=>?_⟩
  .rcases mx.mp C with rfl|C
   .exact W
   .have:=bd o C;lia
  .simp[bq,jn,vl]
  .have a:=ve a
   cases i with
   |zero=>simp at y
   |succ i =>
    have a:as[i]?=J d:=a;obtain⟨v,X,rv⟩:=P.get a;have fd:flat d=I:=by exact lu fa (AL a)
    exact⟨v,by obtain⟨l1,l2⟩:=o_.mp X;simp[bq,List.getElem?_append,l1,l2],Rp.fq fd rv⟩
  .have:i=0:=by simpa using y
   subst this;have a:=ve a;cases a;exact⟨m,k,xs,ds,rfl,rfl,by simp,i_ _,g,Rps.fq fl r⟩
 have kk:=B.ok c λi j y G ne=>absurd (by simp at y G;lia) ne;rw[e]at kk;obtain⟨Z',l,L,F,st,Q,_⟩:=kk;have E:=kp (bq n (.loc m::vs)) h;rw[L]at E;have E:Z'[0]?=J (J (.loc m)):=E;obtain⟨n',M,f,H,e2,R,_,_,g',r'⟩:=Q.sr.ow 0 _ e0 (by simp);rw[E]at R;cases R
 have:k'=M/\ds'=H:=by cases k'<;>cases M<;>cases e2<;>exact⟨rfl,rfl⟩
 obtain⟨rfl,rfl⟩:=this;refine⟨l,?_,st.len,λj G n1 n2=>?_,Q.pen,F,f,g',r'⟩
 .rw[fG (by simp[vl];lia),L];rfl
 .by_cases z:j∈m::O
  .rcases mx.mp z with rfl|z
   .exact absurd rfl n1
   .exact st.base j (bd j z) n2
  .exact st.mv.keep j G z
end
end PU
namespace MM
open PySem.Spec PyProof.Rows L2
def Rm{P:Program}{w:World}{K:hH}{mg:TH}{base:Heap}{x:Str}{st:Stmt}{k:Nat}{np:Nat}{j:TR}{B:PU.Xd j}(N:TM)(b:Ba P w K mg base)(D:c_ K x st)(l:∀X:Cx,Wc X P w K mg base N N k (ae st)->h8 X->ml X (aA st) B.m)(i:fQ x st (N.take np):=by ac_rfl)(S:p_ N (N.take np) (ae st):=by nofun)(z:∀y∈N,(ae st).names.lookup y=J .local\/(ae st).names.lookup y=J .cell:=by decide +kernel)(a:∀y∈Es (ae st),(ae st).names.lookup y=J .globalImplicit:=by decide +kernel)(dbg:∀x∈N++Es (ae st),(x==("__debug__":Str))=T/\(x==("__classdict__":Str))=T/\x≠"__name__":=by decide +kernel)(f:(N.take np).length=np:=by rfl):
  FnAt P w K mg base x (N.take np) (cB N.length np B.m) (k+1):=by
 have q:=oZ b.kin b.ns D S i z a dbg λX e1 e2 e3 e4 e5 C g u=>(l X ⟨g,⟨e1,e2,e3,e4,e5,b⟩,C⟩ u).h;rw[f]at q;exact q
end MM
namespace Law
open PySem.Spec PyProof.Rows L2 MM
set_option maxHeartbeats 4000000
noncomputable section
def x3:nw:=(cw (bS 2 (az jj (az j3 (mC (.int 7919)) (ah 1)) (mC (.int 11))))
 (cw (Cj (mB (az Ct (ah 1) (qr zT (ag (qr qp (ag (ah 0) hG)) (ag (mC (.int 63)) hG))))) (bS 2 (az ba (ah 0) (ah 1))) (Cj (mB (az Cu (qr qp (ag (ah 0) hG)) (mC (.int 0)))) (bS 2 (az jj (az mn (az ba (ah 0) (az mn (ah 1) (qr zT (ag (qr qp (ag (ah 0) hG)) (ag (mC (.int 63)) hG))))) (az sw (mC (.int 10)) (mC (.int 15)))) (az j3 (mC (.int 48271)) (ah 1)))) pj))
 (cw (Cj (mB (az Cv (qr A4 (ag (ah 2) hG)) (az sw (mC (.int 10)) (mC (.int 18))))) (cR (gK (ag (mC (.int 1)) (ag (qr A4 (ag (ah 2) hG)) (ag (mC (.int 0)) hG))))) pj)
 (cR (gK (ag (mC (.int 0)) (ag (az jj (az mn (ah 2) (mC (.int 2147483587))) (az j3 (mC (.int 40009)) (ah 1))) (ag (mC (.int 0)) hG))))))))
def hV:TL->MH->TD:=cB 3 2 x3
def wt:nw:=(cw (pP (az jj (az ba (ah 0) (mC (.int 2))) (mC (.int 1))) (Hh (ah 0) (mC (.int 2))))
 (cw (Cj (mB (az AW (az ba (ah 0) (mC (.int 0))) (mC (.int 1)))) (cw (bS 3 (az mn (az ba (ah 0) (mC (.int 1))) (ah 1)))
 (cw (pP (az BU (az ba (ah 0) (mC (.int 1))) (ah 1)) (Hh (ah 0) (mC (.int 1))))
 (cR (ah 3)))) pj)
 (cw (bS 2 (az mn (az j3 (az jj (az jj (az ba (ah 0) (mC (.int 1))) (az j3 (mC (.int 40503)) (az ba (ah 0) (mC (.int 2))))) (mC (.int 1))) (mC (.int 48271))) (mC (.int 2147483647))))
 (cw (bS 2 (az mn (az j3 (ah 2) (az jj (az jj (az mn (ah 2) (mC (.int 65521))) (az ba (ah 0) (mC (.int 2)))) (mC (.int 3)))) (mC (.int 2147483629))))
 (cR (az mn (az BU (az mn (az j3 (ah 2) (az jj (az mn (ah 2) (mC (.int 8191))) (mC (.int 7)))) (mC (.int 2147483563))) (mC (.int 64))) (ah 1)))))))
def dM:TL->MH->TD:=cB 4 2 wt
end
end Law
namespace Law
open MM PU
open L2 (wC ng iG)
set_option maxHeartbeats 4000000
noncomputable section
def eW:Xd []:=(aK (eU (r_ (bh ["int"]) (aa 0)) (mH (r_ (bh ["bool"]) (aa 0)))))
def cE:Fn:=bp 1 1 eW
def uR{a:TU}{s:d_}(h:a.length=1):cE.p a s=(eW.p (jn 1 a) s).fin:=aR h
def b7:Xd []:=(aH (J_ 2000000 (xB (ac wo (aa 1) (xC (.int 0)))) (aH (bc 2 (ac nM (aa 0) (aa 1)))
 (aH (bc 0 (aa 1))
 (bc 1 (aa 2)))) jt)
 (aK (aa 0)))
def bZ:Fn:=bp 3 2 b7
def lV{a:TU}{s:d_}(h:a.length=2):bZ.p a s=(b7.p (jn 3 a) s).fin:=aR h
def d4:Xd []:=(aH (ti (s_ (bn (xB (ao cE (ab (aa 0) a_)))) (bn (xB (ao cE (ab (aa 1) a_))))) nY iw)
 (aH (ti (xB (ac tu (aa 1) (xC (.int 0)))) nY iw)
 (aH (bc 2 (ao bZ (ab (nz qu (ab (aa 0) a_)) (ab (nz qu (ab (aa 1) a_)) a_))))
 (aH (ti (xB (ac IB (aa 1) (xC (.int 0)))) (bc 2 (r_ eM (aa 2))) iw)
 (aK (aO (ab (ac Ef (aa 0) (aa 2)) (ab (ac Ef (aa 1) (aa 2)) a_))))))))
def bw:Fn:=bp 3 2 d4
def sV{a:TU}{s:d_}(h:a.length=2):bw.p a s=(d4.p (jn 3 a) s).fin:=aR h
def k7:Xd []:=(aK (ao bw (ab (ac bX (ac bE (ac h_ (aa 0) (xC (.int 0))) (ac h_ (aa 1) (xC (.int 1)))) (ac bE (ac h_ (aa 1) (xC (.int 0))) (ac h_ (aa 0) (xC (.int 1))))) (ab (ac bE (ac h_ (aa 0) (xC (.int 1))) (ac h_ (aa 1) (xC (.int 1)))) a_))))
def d6:Fn:=bp 2 2 k7
def Ez{a:TU}{s:d_}(h:a.length=2):d6.p a s=(k7.p (jn 2 a) s).fin:=aR h
def jq:Xd []:=(aK (ao bw (ab (ac IA (ac bE (ac h_ (aa 0) (xC (.int 0))) (ac h_ (aa 1) (xC (.int 1)))) (ac bE (ac h_ (aa 1) (xC (.int 0))) (ac h_ (aa 0) (xC (.int 1))))) (ab (ac bE (ac h_ (aa 0) (xC (.int 1))) (ac h_ (aa 1) (xC (.int 1)))) a_))))
def jG:Fn:=bp 2 2 jq
def zV{a:TU}{s:d_}(h:a.length=2):jG.p a s=(jq.p (jn 2 a) s).fin:=aR h
def jy:Xd []:=(aK (ao bw (ab (ac bE (ac h_ (aa 0) (xC (.int 0))) (ac h_ (aa 1) (xC (.int 0)))) (ab (ac bE (ac h_ (aa 0) (xC (.int 1))) (ac h_ (aa 1) (xC (.int 1)))) a_))))
def dy:Fn:=bp 2 2 jy
def zJ{a:TU}{s:d_}(h:a.length=2):dy.p a s=(jy.p (jn 2 a) s).fin:=aR h
def lU:Xd []:=(aK (ao bw (ab (ac bE (ac h_ (aa 0) (xC (.int 0))) (ac h_ (aa 1) (xC (.int 1)))) (ab (ac bE (ac h_ (aa 0) (xC (.int 1))) (ac h_ (aa 1) (xC (.int 0)))) a_))))
def ij:Fn:=bp 2 2 lU
def EA{a:TU}{s:d_}(h:a.length=2):ij.p a s=(lU.p (jn 2 a) s).fin:=aR h
def fj:Xd []:=(aK (eU (ao cE (ab (aa 1) a_)) (ot Ka IB (xC (.int 0)) (aa 1) (aa 0))))
def cD:Fn:=bp 2 2 fj
def uL{a:TU}{s:d_}(h:a.length=2):cD.p a s=(fj.p (jn 2 a) s).fin:=aR h
def c9:Xd []:=(ti (bn (xB (ao cD (ab (aa 0) (ab (aa 1) a_))))) nY iw)
def du:Fn:=bp 2 2 c9
def pI{a:TU}{s:d_}(h:a.length=2):du.p a s=(c9.p (jn 2 a) s).fin:=aR h
def dN:Xd []:=(aH (oI (ao du (ab (ac h_ (aa 0) (xC (.int 0))) (ab (aa 1) a_))))
 (aH (bc 2 (aU 2 [1] (bo (ac h_ (aa 0) (xC (.int 1)))) (ws':=[]) (Aa (qa (ki 0) (qa (ki 1) z_)) 2) (xB (ac tu (aa 1) (aa 2))) (aa 0)))
 (aH (bc 3 (aU 2 [1] (bo (ac h_ (aa 0) (xC (.int 1)))) (ws':=[]) (Aa (qa (ki 0) (qa (ki 1) z_)) 2) (xB (ac tu (aa 0) (aa 2))) (aa 1)))
 (aK (ac bX (aa 2) (aa 3))))))
def cr:Fn:=bp 4 2 dN
def rP{a:TU}{s:d_}(h:a.length=2):cr.p a s=(dN.p (jn 4 a) s).fin:=aR h
def eR:Xd []:=(aH (ti (bn (xB (r_ (bh ["list"]) (aa 1)))) (aK (xC (.bl T))) iw)
 (aH (ti (bn (xB (nz pH (ab (aU 1 [0] (bo (aa 1)) (ws':=[]) (ki 0) n3 (ao cD (ab (ac h_ (aa 1) (xC (.int 0))) (ab (aa 0) a_)))) a_)))) (aK (xC (.bl T))) iw)
 (aK (ac tu (nz dU (ab (aa 1) a_)) (nz Ow (ab (ac h_ (aa 0) (xC (.int 0))) a_))))))
def fB:Fn:=bp 2 2 eR
def uU{a:TU}{s:d_}(h:a.length=2):fB.p a s=(eR.p (jn 2 a) s).fin:=aR h
def cY:Xd []:=(ti (bn (xB (ao fB (ab (aa 0) (ab (aa 1) a_))))) nY iw)
def cZ:Fn:=bp 2 2 cY
def p9{a:TU}{s:d_}(h:a.length=2):cZ.p a s=(cY.p (jn 2 a) s).fin:=aR h
def gE:Xd [2]:=(aH (bc 1 (aO (ab (ac h_ (aa 0) (xC (.int 0))) (ab (xC (.int 1)) a_))))
 (aH (gZ 2 (dH a_))
 (aH (iH (bU CN (ab (ac h_ (aa 0) (xC (.int 0))) a_)) (ki 3) (B2 tx 2 (ab (nz cc (ab (nz lP (ab (ac bX (dH (ab (aO (ab (aa 3) (ab (aa 1) a_))) a_)) (aU 1 [] (bo (ao cr (ab (aa 0) (ab (aa 3) a_)))) (ws':=[]) (ki 0) n3 (aO (ab (aa 0) (ab (aO (ab (r_ eM (xC (.int 1))) (ab (xC (.int 1)) a_))) a_))))) a_)) a_)) a_)))
 (aK (aO (ab (ac h_ (aa 0) (xC (.int 0))) (ab (nz cc (ab (aa 2) a_)) a_)))))))
def gD:Fn:=bp 4 1 gE
def w9{a:TU}{s:d_}(h:a.length=1):gD.p a s=(gE.p (jn 4 a) s).fin:=aR h
def bC:Xd [0]:=(iH (bo (aa 2)) (Aa (qa (ki 3) (qa (ki 4) z_)) 2) (kF 0 (aa 3) (ao d6 (ab (BY (aa 0) (ab (aa 3) (ab (Aj 0 1) a_))) (ab (ao dy (ab (aa 1) (ab (aa 4) a_))) a_)))))
def je:TL->MH->TD:=cB 5 3 bC.m
def fi:Xd []:=(aK (nz cc (ab (aU 1 [0] (bo (aa 1)) (ws':=[]) (ki 0) (xB (ac wo (BY (aa 1) (ab (aa 0) (ab (Aj 0 1) a_))) (Aj 0 1))) (aO (ab (aa 0) (ab (ac ly (aa 1) (aa 0)) a_)))) a_)))
def eS:Fn:=bp 2 2 fi
def uP{a:TU}{s:d_}(h:a.length=2):eS.p a s=(fi.p (jn 2 a) s).fin:=aR h
def gc:Xd []:=(aH (bc 3 (BY (ac h_ (aa 0) (aa 1)) (ab (aa 1) (ab (Aj 0 1) a_))))
 (aH (ti (xB (ac tu (aa 3) (Aj 0 1))) nY iw)
 (aH (bc 4 (aU 1 [3,1,0] (bo (aa 2)) (ws':=[]) (ki 0) (xB (ac wo (BY (ac h_ (aa 3) (aa 0)) (ab (aa 2) (ab (Aj 0 1) a_))) (Aj 0 1))) (aO (ab (aa 0) (ab (ao ij (ab (ac ly (ac h_ (aa 3) (aa 0)) (aa 2)) (ab (aa 1) a_))) a_)))))
 (aK (aO (ab (aa 1) (ab (aa 3) (ab (ao eS (ab (ac h_ (aa 0) (aa 1)) (ab (aa 2) a_))) (ab (nz cc (ab (aa 4) a_)) a_)))))))))
def gh:Fn:=bp 5 3 gc
def xo{a:TU}{s:d_}(h:a.length=3):gh.p a s=(gc.p (jn 5 a) s).fin:=aR h
def mL:Xe []:=(Iv (xB (ac (IR T) (aa 6) (aa 2))) (ac ly (aa 2) (aa 6)) (ao gh (ab (aa 3) (ab (aa 6) (ab (nz dU (ab (Cp (aa 1) (Co (ac bX (aa 5) (xC (.int 1)))) Cm) a_)) a_)))) I)
def r9:Xt []:=(xB (ac (IR I) (aa 8) (aa 2)))
def mQ:Xe []:=(ao jG (ab (Aj 0 1) (ab (aa 9) a_)))
def Kh:nw:=Cj r9.m (kE (eX je (ag (az ba (ah 3) (ah 8)) (ag mQ.m (ag (az ba (ah 7) (mC (.int 2))) hG))))) pj
def OE:nw:=cw (bS 7 mL.m) (cw (ja (dY (az ba (ah 7) (mC (.int 3)))) (zQ (p4 (mh 8) (p4 (mh 9) zN)) 2) Kh) (kE (Fy fR (ah 4) (ag (ah 7) hG))))
def qb:nw:=cw (bS 3 (bV 1 [] (dY (az ba (ah 0) (mC (.int 1)))) (mh 0) n_ (qr z7 (ag (ah 0) hG))))
 (cw (bS 4 (gK hG))
 (cw (ja (um (ag (ah 1) hG)) (zQ (p4 (mh 5) (p4 (mh 6) zN)) 2) OE)
 (cR (ah 4))))
def eE:TL->MH->TD:=cB 10 3 qb
def iR(rd:List Rd)(l j a:D)(k v st i f:Th):au:=[J l,J j,J a,J (fe rd),Y,k,v,st,i,f]
def mN(rd:List Rd)(n:Nat)(g i:D)(s:d_):Option (List Rd×d_):=match rd[n]? with
 |some r=>(match bC.p (jn 5 [dl r.1 r.2,g,i]) s with
  |.nx a l=>(match a[0]? with
   |some (J (D.dic T j f))=>if f_ f=I/\flat g=I/\flat i=I then J (rd.set n (J j,f),l)else Y
   |_=>Y)
  |_=>Y)
 |none=>Y
def ic(u a y:D)(k v:Th)(st B:D):TU->List Rd->Th->Th->d_->Option (List Rd×Th×Th×d_)
 |[],rd,i,f,s=>J (rd,i,f,s)
 |.tup [.int j,l]::r,rd,_,_,s=>(match r9.p (iR rd u a y k v (J st) (J (.int j)) (J l)) s with
  |.ok I C=>(match mQ.p (iR rd u a y k v (J st) (J (.int j)) (J l)) C,wC rd.length j with
   |.ok g F,J n=>(match mN rd n g B F with
    |some (z,E)=>ic u a y k v st B r z (J (.int j)) (J l) E
    |none=>Y)
   |_,_=>Y)
  |.ok T C=>ic u a y k v st B r rd (J (.int j)) (J l) C
  |_=>Y)
 |_,_,_,_,_=>Y
def hX(C u F:D):TU->List Rd->TU->Th->Th->Th->d_->Option (TU×d_)
 |[],_,l,_,_,_,s=>J (l,s)
 |.tup [z,E]::r,rd,l,st,i,f,s=>(match mL.p (iR rd C u F (J z) (J E) st i f) s with
  |.ok (.tup [x,y,j,.tup a]) L=>if flat (.tup [x,y,j,.tup a])=I/\l.length<1000/\flat z=I/\flat E=I then (match ic C u F (J z) (J E) (.tup [x,y,j,.tup a]) j a rd i f L with
   |some (B,H,G,M)=>hX C u F r B (l++[.tup [x,y,j,.tup a]]) (J (.tup [x,y,j,.tup a])) H G M
   |none=>Y)else Y
  |_=>Y)
 |_,_,_,_,_,_,_=>Y
def gi:TU->Option (List Rd)
 |[]=>J []
 |d::r=>(match Ms d,gi r with
  |some a,J t=>if f_ (a.map (·.2))=I then J ((J (a.map (·.1)),a.map (·.2))::t)else Y
  |_,_=>Y)
def OF(j:TU)(s:d_):PR D:=match j with
 |[.tup [n,.tup a],.lst f,l]=>(match gi a with
  |some rd=>if a.length<900 then (match hX (.tup [n,.tup a]) (.lst f) l (bK f) rd [] Y Y Y s with
   |some (i,u)=>.ok (.lst i) u
   |none=>.bad)else .bad
  |none=>.bad)
 |_=>.bad
structure SwI(q:Nat)(h0 h:MH)(s:d_)(a:Nat)(ms:TR)(rd:List Rd)(w:Nat)(wk:TU):Prop where
 len:h0.length<=h.length
 mv:∀n:Nat,n<h0.length->n≠q->h[n]?=h0[n]?
 pen:be h q s
 gr:Gr h h0.length a ms rd
 wx:∃xs,h[w]?=J (.lst xs)/\Rps 0 [] [] wk xs
 wf:f_ wk=I
 wge:h0.length<=w
 wno:w∉a::ms
def OR(d:Th)(v:Tj):Prop:=∀x,d=J x->flat x=I/\∃y,v=J y/\Rp 0 [] [] x y
section
variable{q:Nat}{h0 h h':MH}{s s':d_}{a:Nat}{ms:TR}{rd:List Rd}{w:Nat}{wk:TU}{O:TR}{sh od kn:D}{v0 v1 v2:PV}{dk dv dst di df:Th}{ck cv cst ci cf:Tj}
def SwI.kb(f:SwI q h0 h s a ms rd w wk)(y:q<h0.length)(k:KB q h h')(pn:be h' q s'):SwI q h0 h' s' a ms rd w wk:=by obtain⟨xs,e,r⟩:=f.wx;have l:=f.len;refine⟨pf f.len k.len,λn u i=>(k.keep n (by ext) i).trans (f.mv n u i),pn,f.gr.keep λm j=>k.keep m (f.gr.lt m j) (by have:=f.gr.ge m j;ext),⟨xs,(k.keep w (aE e) (by have:=f.wge;ext)).trans e,r⟩,f.wf,f.wge,f.wno⟩
def wK(j:SwI q h0 h s a ms rd w wk)(bd:∀o∈O,o<h0.length)(C:q∈O)(r:Rps q h0 O [sh,od,kn] [v0,v1,v2])(M:OR dk ck)(L:OR dv cv)(Q:OR dst cst)(F:OR di ci)(G:OR df cf):
  PU.Cx q h h.length O O [] [J v0,J v1,J v2,J (.loc a),J (.loc w),ck,cv,cst,ci,cf] (iR rd sh od kn dk dv dst di df) s:=by
 have l:=j.len;have mv:Mv O h0 O h:=⟨λn P no=>j.mv n P λz=>no (z▸C),λo u=>.inl u⟩;have B:=r.mv mv;have one:∀{x:Th}{y:Tj}{d:D},OR x y->x=J d->∃v,J y=J (J v)/\Rp q h O d v:=λ{x y d} o e=>by
  obtain⟨f,v,e2,r⟩:=o d e;exact⟨v,by rw[e2],Rp.fq f r⟩
 refine⟨λo u=>by have:=bd o u;ext,λo u=>u,λo u=>by have:=bd o u;ext,C,i_ _,j.pen,rfl,λi d e _=>?_,λi d e E=>by cases E⟩
 match i,e with
 |0,e=>cases e;obtain⟨v,e,q⟩:=B.get (i:=0) rfl;cases e;exact⟨_,rfl,q⟩
 |1,e=>cases e;obtain⟨v,e,q⟩:=B.get (i:=1) rfl;cases e;exact⟨_,rfl,q⟩
 |2,e=>cases e;obtain⟨v,e,q⟩:=B.get (i:=2) rfl;cases e;exact⟨_,rfl,q⟩
 |3,e=>cases e;exact⟨_,rfl,j.gr.rp λm H no=>by have:=j.gr.ge m H;have:=bd m no;ext⟩
 |4,e=>cases e
 |5,e=>exact one M (by injection e)
 |6,e=>exact one L (by injection e)
 |7,e=>exact one Q (by injection e)
 |8,e=>exact one F (by injection e)
 |9,e=>exact one G (by injection e)
 |n+10,e=>simp[iR]at e
def Jm:∀Z h,Kp 0 (bC.m Z h) Z:=by
 have H:∀v Z h,Kp 0 (zQ (p4 (mh 3) (p4 (mh 4) zN)) 2 v Z h) Z:=λv Z h=>by
  unfold zQ;split
  .rename_i xs
   split
   .match xs with
    |[]=>trivial
    |[_]=>trivial
    |x::y::r =>
     show Kp 0 (zN r ((Z.set 3 (J x)).set 4 (J y)) h) Z;unfold zN;split
     .show _=_;rw[pu (by decide),pu (by decide)]
     .trivial
   .trivial
  .trivial
 have P:∀{mo E mv:Mx PV} Z h,Kp 0 (kT mo E mv Z h) Z:=λ{mo E mv} Z h=>by
  simp only[kT,xx]
  repeat' split
  all_goals first | trivial | rfl
 intro Z h;unfold bC;show Kp 0 (ja _ _ _ Z h) Z;unfold ja xx;split
 .rename_i F f _
  have:∀(xs:TL) i f,i[0]?=Z[0]?->Kp 0 (wI F (zQ (p4 (mh 3) (p4 (mh 4) zN)) 2) (kF (ws:=[0]) 0 (aa 3) (ao d6 (ab (BY (aa 0) (ab (aa 3) (ab (Aj 0 1) a_))) (ab (ao dy (ab (aa 1) (ab (aa 4) a_))) a_)))).m xs i f) Z:=λxs=>by
   induction xs with
   |nil =>
    intro i f e;unfold wI;split
    .exact e
    .trivial
   |cons x r G =>
    intro i f e;unfold wI;split
    .have k:=H x i f
     cases L:zQ (p4 (mh 3) (p4 (mh 4) zN)) 2 x i f with
     |nx l B =>
      rw[L]at k;have j:=@P (ah 0) (ah 3) ((ao d6 (ab (BY (aa 0) (ab (aa 3) (ab (Aj 0 1) a_))) (ab (ao dy (ab (aa 1) (ab (aa 4) a_))) a_)):Xe [0]).m) l B;dsimp only;generalize M:(kF (ws:=[0]) 0 (aa 3) (ao d6 (ab (BY (aa 0) (ab (aa 3) (ab (Aj 0 1) a_))) (ab (ao dy (ab (aa 1) (ab (aa 4) a_))) a_)))).m l B=o;have C:kT (ah 0) (ah 3) (ao d6 (ab (BY (aa 0) (ab (aa 3) (ab (Aj 0 1) a_))) (ab (ao dy (ab (aa 1) (ab (aa 4) a_))) a_)):Xe [0]).m l B=o:=M;rw[C]at j;have k:l[0]?=i[0]?:=k
      cases o with
      |nx z u=>exact G z u (j.trans (k.trans e))
      |ct z u=>exact G z u (j.trans (k.trans e))
      |bk z u=>exact j.trans (k.trans e)
      |_=>trivial
     |_=>trivial
    .trivial
  exact this F.xs Z f rfl
 all_goals trivial
def Be{n m:Nat}{g E:D}{y pv:PV}{i:List Rd}(f:SwI q h0 h s a ms rd w wk)(bd:∀o∈O,o<h0.length)(H:q∈O)(em:ms[n]?=J m)(rg:Rp 0 [] [] g y)(rp:Rp 0 [] [] E pv)(e:mN rd n g E s=J (i,s')):
  ∃h',je [.loc m,y,pv] h=.ok .non h'/\SwI q h0 h' s' a ms i w wk:=by
 unfold mN at e
 split at e
 .rename_i r Q
  split at e
  .rename_i M s1 eb
   split at e
   .rename_i ks ds e0
    split at e
    .rename_i fl
     obtain⟨fd,R,W⟩:=fl;cases e;obtain⟨fr,m',xs,l,U,S⟩:=f.gr.row n r Q;rw[em]at l;cases l;have L:=l7 a (AL em);have ai:=f.gr.ge m L;obtain⟨h',e1,l1,kp,pn,O',al,C,F⟩:=Bh (B:=bC) (n:=5) (np:=3) (m:=m) (k:=r.1) (k':=J ks) (ds:=r.2) (ds':=ds) (as:=[g,E]) (vs:=[y,pv]) (λo ho=>by have:=bd o ho;ext) H f.pen U fr S (by simp[f_,R,W]) ⟨_,_,rfl,rg,_,_,rfl,rp,rfl⟩ rfl (by decide) Jm eb e0;have X:=bd q H;refine⟨h',e1,pf f.len l1,λj u G=>(kp j (by have:=f.len;ext) (by ext) G).trans (f.mv j u G),pn,f.gr.put em fd C (Rps.fq fd F) λj u ne=>kp j (f.gr.lt j u) ne (by have:=f.gr.ge j u;ext),?_,f.wf,f.wge,f.wno⟩;obtain⟨Z,P,rw'⟩:=f.wx;exact⟨Z,(kp w (aE P) (λz=>f.wno (z▸L)) (by have:=f.wge;ext)).trans P,rw'⟩
    .cases e
   .cases e
  .cases e
 .cases e
def Bj{st l c:D}{i:TU}{z:List Rd×Th×Th×d_}(e:ic sh od kn dk dv st l (c::i) rd di df s=J z):∃j x,c=.tup [.int j,x]:=by
 unfold ic at e
 split at e
 .rename_i f;cases f
 .rename_i f;cases f;exact⟨_,_,rfl⟩
 .cases e
def qf{st ps:D}{i:TL}{pv:PV}{X:List Rd}{S U:Th}{it:MIt}(C:∀h,it.ok h)(bd:∀o∈O,o<h0.length)(L:q∈O)(r:Rps q h0 O [sh,od,kn] [v0,v1,v2])(k1:OR dk ck)(Z:OR dv cv)(fst:flat st=I)(E:Rp 0 [] [] st (.tup i))(u2:ng i 2=J pv)(rp:Rp 0 [] [] ps pv):
  ∀(H:TU)(xs:TL)(rd:List Rd)(di df:Th)(ci cf:Tj)(h:MH)(s:d_),f_ H=I->Rps 0 [] [] H xs->OR di ci->OR df cf->SwI q h0 h s a ms rd w wk->ic sh od kn dk dv st ps H rd di df s=J (X,S,U,s') ->
  ∃h' u l,wI it (zQ (p4 (mh 8) (p4 (mh 9) zN)) 2) Kh xs [J v0,J v1,J v2,J (.loc a),J (.loc w),ck,cv,J (.tup i),ci,cf] h=.nx [J v0,J v1,J v2,J (.loc a),J (.loc w),ck,cv,J (.tup i),u,l] h'/\SwI q h0 h' s' a ms X w wk/\OR S u/\OR U l
 |[],xs,rd,di,df,ci,cf,h,s,Q,rx,k4,k5,f,e=>by
  unfold ic at e;cases e;rw[show xs=[]from rx];exact⟨h,ci,cf,js (C h),f,k4,k5⟩
 |c::H,xs,rd,di,df,ci,cf,h,s,Q,rx,k4,k5,f,e=>by
  have F:=bd q L;simp only[f_,BA]at Q;obtain⟨j,x,rfl⟩:=Bj e;unfold ic at e
  .obtain⟨vx,xr,rfl,an,rr⟩:=rx;obtain⟨ys,rfl,ry⟩:=an;obtain⟨y1,yr,rfl,a1,y,a0,rfl,al,W⟩:=ry;rw[show a0=[]from W];rw[show y1=PV.int j from a1];have fx:flat x=I:=by simpa [flat,f_]using Q.1
   have o4:OR (J (.int j)) (J (.int j)):=λz P=>by cases P;exact⟨rfl,_,rfl,rfl⟩
   have o5:OR (J x) (J y):=λz P=>by cases P;exact⟨fx,_,rfl,al⟩
   have o3:OR (J st) (J (.tup i)):=λz P=>by cases P;exact⟨fst,_,rfl,E⟩
   have c1:=wK f bd L r k1 Z o3 o4 o5;have kc:=r9.ok c1;rw[ib (C h) (show zQ (p4 (mh 8) (p4 (mh 9) zN)) 2 (.tup [.int j,y]) [J v0,J v1,J v2,J (.loc a),J (.loc w),ck,cv,J (.tup i),ci,cf] h=.nx [J v0,J v1,J v2,J (.loc a),J (.loc w),ck,cv,J (.tup i),J (.int j),J y] h from rfl)]
   split at e
   .rename_i s1 ec
    rw[ec]at kc;obtain⟨b,M,em,kb,pn,rfl⟩:=kc;have R:=f.kb F kb pn
    split at e
    .rename_i gg s2 n eg en
     split at e
     .rename_i ay s3 B
      have c2:=wK R bd L r k1 Z o3 o4 o5;have kg:=mQ.ok c2;rw[eg]at kg;obtain⟨gv,h2,ax,as,ap,_,rz,_⟩:=kg;have I2:=R.kb F as ap;have fg:flat gg=I:=by
       unfold mN at B
       split at B
       .split at B
        .split at B
         .split at B
          .rename_i z;exact z.2.1
          .cases B
         .cases B
        .cases B
       .cases B
      have nl:n<rd.length:=by exact(L2.lY en).2.1
      obtain⟨m,hm⟩:∃m,ms[n]?=J m:=⟨ms[n]'(by rw[f.gr.len];exact nl),xg _⟩;obtain⟨h3,e3,I3⟩:=Be I2 bd L hm (Rp.fq fg (rz rfl)) rp B;obtain⟨h4,u,l,e4,I4,q4,q5⟩:=qf C bd L r k1 Z fst E u2 rp H xr ay _ _ _ _ h3 s3 Q.2 rr o4 o5 I3 e;refine⟨h4,u,l,?_,I4,q4,q5⟩;have ai:ng (ms.map PV.loc) j=J (.loc m):=by unfold ng;rw[wv,f.gr.len,en,JY,qo,hm];rfl
      have G:Kh [J v0,J v1,J v2,J (.loc a),J (.loc w),ck,cv,J (.tup i),J (.int j),J y] h=.nx [J v0,J v1,J v2,J (.loc a),J (.loc w),ck,cv,J (.tup i),J (.int j),J y] h3:=by
       have ar:ag (az ba (ah 3) (ah 8)) (ag mQ.m (ag (az ba (ah 7) (mC (.int 2))) hG)) [J v0,J v1,J v2,J (.loc a),J (.loc w),ck,cv,J (.tup i),J (.int j),J y] M=.ok [.loc m,gv,pv] h2:=by
        have b1:az ba (ah 3) (ah 8) [J v0,J v1,J v2,J (.loc a),J (.loc w),ck,cv,J (.tup i),J (.int j),J y] M=.ok (.loc m) M:=by simp[fJ R.gr.top,ai]
        have b2:az ba (ah 7) (mC (.int 2)) [J v0,J v1,J v2,J (.loc a),J (.loc w),ck,cv,J (.tup i),J (.int j),J y] h2=.ok pv h2:=by simp[u2]
        rw[fO,b1,Out.bind_ok,fO,ax,Out.bind_ok,fO,b2];rfl
       unfold Kh;rw[yb,em,aq,b_ rfl,tK,Bq,ar,Out.bind_ok,e3];rfl
      rw[G];exact e4
     .cases e
    .cases e
   .rename_i s1 ec
    rw[ec]at kc;obtain⟨b,M,em,kb,pn,rfl⟩:=kc;have R:=f.kb F kb pn;obtain⟨h4,u,l,e4,I4,q4,q5⟩:=qf C bd L r k1 Z fst E u2 rp H xr rd _ _ _ _ M s1 Q.2 rr o4 o5 R e;refine⟨h4,u,l,?_,I4,q4,q5⟩;have G:Kh [J v0,J v1,J v2,J (.loc a),J (.loc w),ck,cv,J (.tup i),J (.int j),J y] h=.nx [J v0,J v1,J v2,J (.loc a),J (.loc w),ck,cv,J (.tup i),J (.int j),J y] M:=by unfold Kh;rw[yb,em,aq];rfl
    rw[G];exact e4
   .cases e
def pc:∀{wk:TU}{d:D},f_ wk=I->flat d=I->f_ (wk++[d])=I
 |[],d,_,f=>by simp[f_,f]
 |x::wk,d,g,f=>by
  simp only[f_,BA,NS]at g ⊢;exact⟨g.1,pc g.2 f⟩
def zM{c:D}{i wk:TU}{z:TU×d_}(e:hX sh od kn (c::i) rd wk dst di df s=J z):∃x y,c=.tup [x,y]:=by
 unfold hX at e
 split at e
 .rename_i f;cases f
 .rename_i f;cases f;exact⟨_,_,rfl⟩
 .cases e
def vG{it:MIt}{wk':TU}(L:∀h s rd wk,SwI q h0 h s a ms rd w wk->it.ok h)(bd:∀o∈O,o<h0.length)(hq:q∈O)(r:Rps q h0 O [sh,od,kn] [v0,v1,v2]):
  ∀(ds:TU)(xs:TL)(rd:List Rd)(wk:TU)(dst di df:Th)(ck cv cst ci cf:Tj)(h:MH)(s:d_),f_ ds=I->Rps 0 [] [] ds xs->OR dst cst->OR di ci->OR df cf->SwI q h0 h s a ms rd w wk->hX sh od kn ds rd wk dst di df s=J (wk',s') ->
  ∃h' a7 a9 a4 P H E,wI it (zQ (p4 (mh 5) (p4 (mh 6) zN)) 2) OE xs [J v0,J v1,J v2,J (.loc a),J (.loc w),ck,cv,cst,ci,cf] h=.nx [J v0,J v1,J v2,J (.loc a),J (.loc w),a9,a4,P,H,E] h'/\SwI q h0 h' s' a ms a7 w wk'
 |[],xs,rd,wk,dst,di,df,ck,cv,cst,ci,cf,h,s,fd,rx,k3,k4,k5,i,e=>by
  unfold hX at e;cases e;rw[show xs=[]from rx];exact⟨h,rd,ck,cv,cst,ci,cf,js (L h _ _ _ i),i⟩
 |c::cs,xs,rd,wk,dst,di,df,ck,cv,cst,ci,cf,h,s,fd,rx,k3,k4,k5,i,e=>by
  have as:=bd q hq;simp only[f_,BA]at fd;obtain⟨dk,dv,rfl⟩:=zM e;unfold hX at e;obtain⟨vx,xr,rfl,ar,rr⟩:=rx;obtain⟨ys,rfl,ry⟩:=ar;obtain⟨F,yr,rfl,a8,G,a1,rfl,ai,X⟩:=ry;rw[show a1=[]from X];have fk:flat dk=I/\flat dv=I:=by simpa [flat,f_]using fd.1
  have o1:OR (J dk) (J F):=λz Q=>by cases Q;exact⟨fk.1,_,rfl,a8⟩
  have o2:OR (J dv) (J G):=λz Q=>by cases Q;exact⟨fk.2,_,rfl,ai⟩
  have c1:=wK i bd hq r o1 o2 k3 k4 k5;have ke:=mL.ok c1;rw[ib (L h _ _ _ i) (show zQ (p4 (mh 5) (p4 (mh 6) zN)) 2 (.tup [F,G]) [J v0,J v1,J v2,J (.loc a),J (.loc w),ck,cv,cst,ci,cf] h=.nx [J v0,J v1,J v2,J (.loc a),J (.loc w),J F,J G,cst,ci,cf] h from rfl)]
  split at e
  .rename_i x y Z l s1 ee
   rw[ee]at ke;obtain⟨v,h1,em,kb,pn,_,rz,_⟩:=ke;have I1:=i.kb as kb pn
   split at e
   .rename_i a0
    obtain⟨fl,wl,_,_⟩:=a0
    split at e
    .rename_i W i2 f2 s2 ei
     have rv:Rp 0 [] [] (.tup [x,y,Z,.tup l]) v:=Rp.fq fl (rz rfl);have a5:flat x=I/\flat y=I/\flat Z=I/\f_ l=I:=by simpa [flat,f_]using fl
     have C:=rv;obtain⟨us,rfl,ru⟩:=rv;obtain⟨U,t1,rfl,bv,R,t2,rfl,b0,M,t3,rfl,a6,u4,t4,rfl,a3,ax⟩:=ru;rw[show t4=[]from ax]at C em;obtain⟨f,rfl,r4⟩:=a3;obtain⟨h2,H,E,e2,u,q4,q5⟩:=qf (it:=⟨f,[]⟩) (λ_=>fE.mpr trivial) bd hq r o1 o2 fl C (pv:=M) rfl a6 l f rd _ _ _ _ h1 s1 a5.2.2.2 r4 k4 k5 I1 ei;obtain⟨B,ew,rw'⟩:=u.wx;have br:B.length=wk.length:=rw'.length;have ap:=aE ew;have I3:SwI q h0 (h2.set w (.lst (B++[.tup [U,R,M,.tup f]]))) s2 a ms W w (wk++[.tup [x,y,Z,.tup l]]):=by
      have wge:=u.wge;refine⟨by rw[Pa];exact u.len,λj hj nq=>(pu (by ext)).trans (u.mv j hj nq),?_,u.gr.keep λj hj=>pu λz=>u.wno (by rw[z];exact hj),⟨_,x6 ap,rw'.app ⟨_,_,rfl,C,rfl⟩⟩,?_,wge,u.wno⟩
      .have:=u.pen
       unfold be at this ⊢;rw[pu (by ext)];exact this
      .exact pc u.wf fl
     have o3:OR (J (.tup [x,y,Z,.tup l])) (J (.tup [U,R,M,.tup f])):=λz Q=>by cases Q;exact⟨fl,_,rfl,C⟩
     obtain⟨h4,an,ay,a2,S,al,bm,e4,I4⟩:=vG L bd hq r cs xr W _ _ _ _ (J F) (J G) _ _ _ _ s2 fd.2 rr o3 q4 q5 I3 e;refine⟨h4,an,ay,a2,S,al,bm,?_,I4⟩;have b:OE [J v0,J v1,J v2,J (.loc a),J (.loc w),J F,J G,cst,ci,cf] h=.nx [J v0,J v1,J v2,J (.loc a),J (.loc w),J F,J G,J (.tup [U,R,M,.tup f]),H,E] (h2.set w (.lst (B++[.tup [U,R,M,.tup f]]))):=by unfold OE;rw[dX,mJ,em,aq,MM.aw,dX,jp];have i3:dY (az ba (ah 7) (mC (.int 3))) ([J v0,J v1,J v2,J (.loc a),J (.loc w),J F,J G,cst,ci,cf].set 7 (J (.tup [U,R,M,.tup f]))) h1=.ok ⟨f,[]⟩ h1:=rfl;rw[i3,aq];refine(congrArg (λz:SOut=>z.then _) e2).trans ?_;rw[MM.aw,tK,Hz];simp only[xN,xF,Out.bind_ok,fO,mV,ew,w5 ew (show B.length<1000 by ext)];rfl
     rw[b];exact e4
    .cases e
   .cases e
  .cases e
def vE{L:Nat}{r:Rd}{xs:TL}(g:Gr h L a ms rd)(hL:L<=h.length)(fl:f_ r.2=I)(u:Rps 0 [] [] r.2 xs):Gr ((h++[mo r.1 xs]).set a (.lst (ms.map .loc++[.loc h.length]))) L a (ms++[h.length]) (rd++[r]):=by
 have E:=aE g.top;have nd:=g.nd;have lt:=g.lt;rw[xk]at nd;refine⟨by rw[x6 (by simp;ext),KA];rfl,by simp[g.len],?_,λm j=>?_,λi x ex=>?_⟩
 .rw[<-NS,Kv];refine⟨g.nd,by simp,λx l y C=>?_⟩
  have:=lt x l
  have:y=h.length:=by simpa using C
  ext
 .rw[<-NS]at j;rcases wj.mp j with z|z
  .exact g.ge m z
  .have:m=h.length:=by simpa using z
   ext
 .have gl:=g.len;by_cases z:i<rd.length
  .rw[qi z]at ex;obtain⟨f,m,ys,e1,e2,e3⟩:=g.row i x ex;have ne:a≠m:=λy=>nd.1 (y▸AL e1);exact⟨f,m,ys,by rw[qi (by ext)];exact e1,by rw[pu ne,qi (aE e2)];exact e2,e3⟩
  .rw[Br (by ext)]at ex;have B:i-rd.length=0:=by
    have:=(o_.mp ex).1
    simp at this;ext
   rw[B]at ex;cases ex;refine⟨fl,h.length,xs,?_,?_,u⟩
   .rw[Br (by ext),show i-ms.length=0 by ext];rfl
   .rw[pu (by ext)];simp
def vm{it:MIt}(y:∀h,it.ok h):∀(f:TU)(i:TL)(rd l:List Rd)(ms:TR)(z:Tj)(h:MH),gi f=J rd->Rps q h0 O f i->Gr h h0.length a ms l->h0.length<=h.length->(∀n:Nat,n<h0.length->h[n]?=h0[n]?)->ms.length+f.length<1000 ->
  ∃h' u,z6 it a (mh 0) n_ (qr z7 (ag (ah 0) hG)) i [z] h=.ok () h'/\Gr h' h0.length a u (l++rd)/\h0.length<=h'.length/\∀n:Nat,n<h0.length->h'[n]?=h0[n]?
 |[],i,rd,l,ms,z,h,e,r,g,E,kp,B=>by
  unfold gi at e;cases e;rw[show i=[]from r,JZ];exact⟨h,ms,mI (y h),g,E,kp⟩
 |d::f,i,rd,l,ms,z,h,e,r,g,E,kp,B=>by
  unfold gi at e
  split at e
  .rename_i j t U P
   split at e
   .rename_i fl
    cases e;obtain⟨v,R,rfl,L,rs⟩:=r;obtain⟨C,M,S⟩:=IK L U;obtain⟨s1,s2⟩:=rf S;have H:=vE g (r:=(J (j.map (·.1)),j.map (·.2))) (xs:=C.map (·.2)) E fl (Rps.fq fl s2);have Z:=g.ge a (by simp);obtain⟨h',u,Q,F,W,G⟩:=vm y f R t _ _ (J v) _ P rs H (by simp;ext) (λn hn=>by rw[pu (by ext),qi (by ext)];exact kp n hn) (by simp at B ⊢;ext);refine⟨h',u,?_,by rw[CZ]at F;exact F,W,G⟩;have X:z7 [v] h=.ok (.loc h.length) (h++[mo (J (j.map (·.1))) (C.map (·.2))]):=by simp only[z7,M,s1];rfl
    rw[m5 (Z1:=[J v]) (h1:=h) (h2:=h) (v:=.loc h.length) (h3:=h++[mo (J (j.map (·.1))) (C.map (·.2))]) (ys:=ms.map .loc) (y h) rfl rfl (by simp[X]) (by rw[qi (aE g.top)];exact g.top) (by simp at B ⊢;ext)];exact Q
   .cases e
  .cases e
end
def AR{q:Nat}{h:MH}{O:TR}{a:TU}{xs:TL}(r:Rps q h O a xs):Rps q h O (bK a) (dC xs):=by
 refine jl (by simp[bK,dC,r.length]) λi d v e1 e2=>?_;unfold bK at e1;unfold dC at e2;rw[qo,Kq]at e1 e2
 cases f:a[i]? with
 |none=>rw[f]at e1;cases e1
 |some x =>
  obtain⟨y,j,l⟩:=r.get f;rw[f]at e1;rw[j]at e2;simp at e1 e2;subst e1 e2;exact⟨_,rfl,_,_,rfl,rfl,_,_,rfl,l,rfl⟩
def ph{i:TU}(f:f_ i=I):f_ (bK i)=I:=by
 have:∀(a:TU),(∀d∈a,flat d=I)->f_ a=I:=λa=>by
  induction a with
  |nil=>intro;rfl
  |cons z a l=>intro h;simp only[f_,BA];exact⟨h z (by simp),l λd hd=>h d (l7 _ hd)⟩
 refine this _ λd hd=>?_;unfold bK at hd;obtain⟨p,j,rfl⟩:=mm.mp hd
 have:=lu f (List.fst_mem_of_mem_zipIdx j)
 simp[flat,f_,this]
def kX:Fn where
 m:=eE
 p:=λds s=>match ds with
  |[sh,.lst H,kn]=>if f_ H=I then OF [sh,.lst H,kn] s else .bad
  |_=>.bad
 fr:=I
 ok {q h O vs ds s} bd hq pn r:=by
  split
  .rename_i sh H kn
   split
   .rename_i fo
    unfold OF;split
    .rename_i n F a1 a6 ai
     cases ai;split
     .rename_i rd er
      split
      .rename_i lr
       split
       .rename_i wk s' eg
        have r0:=r;obtain⟨v0,t0,rfl,R,v1,t1,rfl,S,B,t2,rfl,ay,W⟩:=r;rw[show t2=[]from W]at r0 ⊢;obtain⟨ys,rfl,ry⟩:=R;obtain⟨y,u1,rfl,a5,y2,u2,rfl,M,Q⟩:=ry;rw[show u2=[]from Q]at r0 ⊢;obtain⟨f,rfl,rr⟩:=M;obtain⟨no,u,rfl,nO,G,ro⟩:=S;have U:q<h.length:=bd q hq;obtain⟨l,L,e1,X,l1,k1⟩:=vm (q:=q) (h0:=h) (O:=O) (a:=h.length) (it:=⟨f,[]⟩) (λ_=>fE.mpr trivial) F f rd [] [] Y (h++[.lst []]) er rr ⟨by simp,rfl,by simp,λm hm=>by simp at hm;ext,λi r e=>by simp at e⟩ (by simp) (λn W=>qi W) (by simp;ext);have c3:bS 3 (bV 1 [] (dY (az ba (ah 0) (mC (.int 1)))) (mh 0) n_ (qr z7 (ag (ah 0) hG))) [J (.tup [y,.tup f]),J (.loc no),J B,Y,Y,Y,Y,Y,Y,Y] h=.nx [J (.tup [y,.tup f]),J (.loc no),J B,J (.loc h.length),Y,Y,Y,Y,Y,Y] l:=by rw[mJ,j0];have i1:dY (az ba (ah 0) (mC (.int 1))) [J (.tup [y,.tup f]),J (.loc no),J B,Y,Y,Y,Y,Y,Y,Y] h=.ok ⟨f,[]⟩ h:=rfl;rw[i1,Out.bind_ok];refine(congrArg (λz:Out Unit=>(z.bind _).go _ _) e1).trans ?_;rfl
        have I0:SwI q h (l++[.lst []]) s h.length L rd l.length []:=by
         have l0:h.length<=l.length:=l1;refine⟨by simp;ext,λj P nq=>by rw[qi (by ext)];exact k1 j P,?_,(by simpa using X:Gr l h.length h.length L rd).keep λm hm=>qi ((by simpa using X:Gr l h.length h.length L rd).lt m hm),⟨[],by simp,rfl⟩,rfl,l0,λz=>?_⟩
         .unfold be;rw[qi (by ext),k1 q U];exact pn
         .have:=(by simpa using X:Gr l h.length h.length L rd).lt _ z
          ext
        obtain⟨h2,a0,a4,ap,an,ax,ar,e2,C⟩:=vG (it:=⟨dC u,[(no,u)]⟩) (wk':=wk) (s':=s') (λh' s' a3 a2 al=>by
         intro p hp
         have:p=(no,u):=by simpa using hp
         subst this
         exact(al.mv no (aE G) λz=>nO (z▸hq)).trans G) bd hq r0 (bK H) (dC u) rd [] Y Y Y Y Y Y Y Y (l++[.lst []]) s (ph fo) (Rps.fq (ph fo) (AR ro)) (λ_ z=>by cases z) (λ_ z=>by cases z) (λ_ z=>by cases z) I0 eg
        obtain⟨E,ew,rw'⟩:=C.wx;have wge:=C.wge;have run:eE [.tup [y,.tup f],.loc no,B] h=.ok (.loc l.length) h2:=by
         unfold eE;rw[fG (by rfl)]
         unfold qb;rw[show bq 10 [.tup [y,.tup f],.loc no,B]=[J (.tup [y,.tup f]),J (.loc no),J B,Y,Y,Y,Y,Y,Y,Y]from rfl];rw[dX,c3,MM.aw,dX];have c4:bS 4 (gK hG) [J (.tup [y,.tup f]),J (.loc no),J B,J (.loc h.length),Y,Y,Y,Y,Y,Y] l=.nx [J (.tup [y,.tup f]),J (.loc no),J B,J (.loc h.length),J (.loc l.length),Y,Y,Y,Y,Y] (l++[.lst []]):=by rw[mJ,Dy,mV,Out.bind_ok,pA (by simp)];rfl
         rw[c4,MM.aw,dX,jp];have c5:um (ag (ah 1) hG) [J (.tup [y,.tup f]),J (.loc no),J B,J (.loc h.length),J (.loc l.length),Y,Y,Y,Y,Y] (l++[.lst []])=.ok ⟨dC u,[(no,u)]⟩ (l++[.lst []]):=by have e9:(l++[MO.lst []])[no]?=J (.lst u):=(I0.mv no (aE G) λz=>nO (z▸hq)).trans G;unfold um;simp only[fO,xN,xF,Out.bind_ok,mV,bQ,e9]
         rw[c5,aq];refine(congrArg (λz:SOut=>(z.then _).fin) e2).trans ?_;rfl
        have Z:Rps q h2 O wk E:=Rps.fq C.wf rw';refine⟨.loc l.length,h2,run,⟨C.len,λj P nq=>C.mv j P nq⟩,C.pen,⟨l.length,E,rfl,λz=>by have:=bd _ z;ext,ew,Z⟩,λ_ k as e=>?_⟩
        cases k with
        |none=>cases e;exact⟨_,_,rfl,wge,ew,Rps.fq C.wf rw'⟩
        |some _=>cases e
       .trivial
      .trivial
     .trivial
    .trivial
   .trivial
  .trivial
def iq:Xd []:=(aH (oI (ao cZ (ab (aO (ab (ac h_ (aa 0) (xC (.int 0))) (ab (aO a_) a_))) (ab (aa 1) a_))))
 (aK (ao kX (ab (aa 0) (ab (aa 1) (ab D_ a_))))))
def ir:Fn:=bp 2 2 iq
def xP{a:TU}{s:d_}(h:a.length=2):ir.p a s=(iq.p (jn 2 a) s).fin:=aR h
def pX{h:MH}{p:Nat}{o:MO}(a:p<h.length):(h.set p o)[p]?=J o:=x6 a
def Sz:wC 3 2=J 2:=jH (n:=3) (m:=2) (by decide)
def S9:wC 3 1=J 1:=jH (n:=3) (m:=1) (by decide)
def jC(s:d_)(size:Int)(F:0<size)(O:size.natAbs.log2<9000):∃x:Int×Int,(0<=x.1/\x.1<size)/\∀(h:MH)(p:Nat),be h p s->dM [.loc p,.int size] h=.ok (.int x.1) (h.set p (.lst [.int s.1,.int x.2,.int (s.2.2+1)])):=by
 obtain⟨m,c,t⟩:=s;have a:size≠0:=by ext
 have st:∀n:Int,0<=n.fmod size/\n.fmod size<size:=λn=>by
  rw[NJ n (by ext)];exact⟨KC n a,Ku n F⟩
 by_cases u:m=1
 .subst u;refine⟨(c.fmod size,c.fdiv size),st c,λh p e=>?_⟩;have e:h[p]?=J (.lst [.int 1,.int c,.int t]):=e;have j:p<h.length:=(o_.mp e).1;have e2:(h.set p (.lst [.int 1,.int c,.int (t+1)]))[p]?=J (.lst [.int 1,.int c,.int (t+1)]):=pX j;unfold dM;refine(fG (by rfl)).trans ?_;unfold wt;simp[bq,List.replicate,fJ e,kC e,Sz,fJ e2,fD a,vN a,kC e2,S9]
 .have f:∀n k:Int,0<k->0<=n.fmod k/\n.fmod k<k:=λn k G=>by
   rw[NJ n (by ext)];exact⟨KC n (by ext),Ku n G⟩
  generalize l:((c+40503*(t+1)+1)*48271).fmod 2147483647=A;have E:=f ((c+40503*(t+1)+1)*48271) 2147483647 (by decide);rw[l]at E;generalize y:(A*(A.fmod 65521+(t+1)+3)).fmod 2147483629=C;have H:=f (A*(A.fmod 65521+(t+1)+3)) 2147483629 (by decide);rw[y]at H;refine⟨((((C*(C.fmod 8191+7)).fmod 2147483563).fdiv 64).fmod size,c),st _,λh p e=>?_⟩;have e:h[p]?=J (.lst [.int m,.int c,.int t]):=e;have j:p<h.length:=(o_.mp e).1;have e2:(h.set p (.lst [.int m,.int c,.int (t+1)]))[p]?=J (.lst [.int m,.int c,.int (t+1)]):=pX j;have M:-(2^64)<A/\A<2^64:=by ext
  have L:-(2^64)<C/\C<2^64:=by ext
  have B:∀{i:Int}{h:MH},j3 (.int 40503) (.int i) h=.ok (.int (40503*i)) h:=g9 (by decide);have z:∀{i:Int}{h:MH},j3 (.int i) (.int 48271) h=.ok (.int (i*48271)) h:=DA (by decide);unfold dM;refine(fG (by rfl)).trans ?_;unfold wt;simp[bq,List.replicate,fJ e,kC e,Sz,fJ e2,u,B,z,fD,l,g9 M,y,g9 L,vN (show(64:Int)≠0 by decide),fD a]
open Classical in
def mW(s:d_)(size:Int):Int×Int:=if z:0<size/\size.natAbs.log2<9000 then(jC s size z.1 z.2).choose else(0,0)
def oH(a:TU):TB:=match a with
 |[.pen,.int i]=>J i
 |_=>Y
def wX{a:TU}{i:Int}(e:oH a=J i):a=[.pen,.int i]:=by
 unfold oH at e
 split at e
 .cases e;rfl
 .cases e
open Classical in
def cL:Fn where
 m:=dM
 p:=λa s=>match oH a with
  |some size=>if 0<size/\size.natAbs.log2<9000 then .ok (.int (mW s size).1) (s.1,(mW s size).2,s.2.2+1)else .bad
  |none=>.bad
 fr:=I
 ok {q h O vs a s} bd hq pn r:=by
  cases e:oH a with
  |none=>trivial
  |some size =>
   have:=wX e
   subst this;dsimp only;by_cases z:0<size/\size.natAbs.log2<9000
   .rw[b_ z];obtain⟨x,t,rfl,i,y,l,rfl,u,B⟩:=r;rw[show x=PV.loc q from i,show y=PV.int size from u,show l=[]from B];have k:=(jC s size z.1 z.2).choose_spec.2 h q pn;have j:mW s size=(jC s size z.1 z.2).choose:=by unfold mW;rw[dif_pos z]
    rw[<-j]at k;refine⟨_,_,k,⟨by simp,λn C f=>pu (Ne.symm f)⟩,pX (aE pn),rfl,λ_ k a e=>by cases k<;>cases e⟩
   .rw[e_ z];trivial
open Classical in
theorem lD{s:d_}{size:Int}(j:0<size)(y:size<=2000000000):∃d f,0<=d/\d<size/\cL.p [.pen,.int size] s=.ok (.int d) f:=by
 have a:size.natAbs.log2<9000:=by
  have l:size.natAbs<=2000000000:=by ext
  have u:size.natAbs.log2<31:=(Nat.log2_lt (by ext)).mpr (by ext);ext
 have z:0<size/\size.natAbs.log2<9000:=⟨j,a⟩;have i:mW s size=(jC s size z.1 z.2).choose:=by unfold mW;rw[dif_pos z]
 have k:=(jC s size z.1 z.2).choose_spec.1;rw[<-i]at k;exact⟨_,_,k.1,k.2,by show(if 0<size/\size.natAbs.log2<9000 then _ else _)=_;rw[b_ z]⟩
def fh:Xd []:=(aH (qj 2 3 (ab (nz qu (ab (aa 0) a_)) (ab (nz qu (ab (aa 1) a_)) a_)))
 (aH (J_ 2000000 (xB (ac Kb (aa 3) (xC (.int 0)))) (qj 2 3 (ab (aa 3) (ab (ac nM (aa 2) (aa 3)) a_))) jt)
 (aH (ti (xB (ac IB (aa 1) (xC (.int 0)))) (bc 2 (r_ eM (aa 2))) iw)
 (aK (aO (ab (ac Ef (aa 0) (aa 2)) (ab (ac Ef (aa 1) (aa 2)) a_)))))))
def ce:Fn:=bp 4 2 fh
def uO{a:TU}{s:d_}(h:a.length=2):ce.p a s=(fh.p (jn 4 a) s).fin:=aR h
def fF(F:Fn):Xd []:=(aH (ti (xB (ac (Mf T) (aa 1) (xC .non))) (aK (ac (Mf T) (aa 0) (xC .non))) iw)
 (aH (ti (xB (r_ (bh ["list","tuple"]) (aa 1))) (aH (ti (s_ (bn (xB (r_ (bh ["list","tuple"]) (aa 0)))) (xB (ac wo (r_ (bh ["list"]) (aa 0)) (r_ (bh ["list"]) (aa 1))))) (aK (xC (.bl T))) iw)
 (aK (eU (ac tu (nz cM (ab (aa 0) a_)) (nz cM (ab (aa 1) a_))) (nz pH (ab (aU 2 [] (bU iZ (ab (aa 0) (ab (aa 1) a_))) (ws':=[]) (Aa (qa (ki 0) (qa (ki 1) z_)) 2) n3 (ao F (ab (aa 0) (ab (aa 1) a_)))) a_))))) iw)
 (aK (eU (r_ (bh ["int"]) (aa 0)) (eU (mH (r_ (bh ["bool"]) (aa 0))) (ac tu (aa 0) (aa 1)))))))
def cK:Nat->Fn
 |0=>FG (cB 2 2 λ_ _=>.bad)
 |n+1=>bp 2 2 (fF (cK n))
def qG{n:Nat}{a:TU}{s:d_}(h:a.length=2):(cK (n+1)).p a s=((fF (cK n)).p (jn 2 a) s).fin:=aR h
def jS:Fn:=cK 8
def iK:Xd []:=(aH (ti (xB (ac tu (ao cL (ab (aa 0) (ab (xC (.int 16)) a_))) (xC (.int 15)))) (aK (xC (.int 12))) iw)
 (aK (ac h_ (dH (ab (xC (.int 4)) (ab (xC (.int 3)) (ab (xC (.int 5)) (ab (xC (.int 2)) (ab (xC (.int 6)) (ab (xC (.int 1)) (ab (xC (.int 0)) (ab (xC (.int 3)) a_))))))))) (ao cL (ab (aa 0) (ab (xC (.int 8)) a_))))))
def iN:Fn:=bp 1 1 iK
def yR{a:TU}{s:d_}(h:a.length=1):iN.p a s=(iK.p (jn 1 a) s).fin:=aR h
def gB:Xd [2]:=(aH (gZ 2 (dH a_))
 (aH (iH (bU CN (ab (aa 1) a_)) (ki 3) (B2 xE 2 (ab (ao cL (ab (aa 0) (ab (ac bX (aa 3) (xC (.int 1))) a_))) (ab (aa 3) a_))))
 (rT 2)))
def f8:Fn:=bp 4 2 gB
def xq{a:TU}{s:d_}(h:a.length=2):f8.p a s=(gB.p (jn 4 a) s).fin:=aR h
def iB:Xd [3]:=(aH (gZ 3 (dH a_))
 (aH (iH (bU CN (ab (aa 1) a_)) (ki 4) (B2 t_ 3 (ab (aU 1 [4,0,2] (bU Mj (ab (ac bX (aa 4) (xC (.int 1))) (ab (aa 1) a_))) (ws':=[]) (ki 0) (xB (ac tu (ao cL (ab (aa 2) (ab (aa 3) a_))) (xC (.int 0)))) (aO (ab (aa 1) (ab (aa 0) a_)))) a_)))
 (aK (nz cc (ab (aa 3) a_)))))
def ip:Fn:=bp 5 3 iB
def zb{a:TU}{s:d_}(h:a.length=3):ip.p a s=(iB.p (jn 5 a) s).fin:=aR h
def ie:Xd []:=(aK (ao ce (ab (ac bX (ac bE (ac h_ (aa 0) (xC (.int 0))) (ac h_ (aa 1) (xC (.int 1)))) (ac bE (ac h_ (aa 1) (xC (.int 0))) (ac h_ (aa 0) (xC (.int 1))))) (ab (ac bE (ac h_ (aa 0) (xC (.int 1))) (ac h_ (aa 1) (xC (.int 1)))) a_))))
def iO:Fn:=bp 2 2 ie
def yT{a:TU}{s:d_}(h:a.length=2):iO.p a s=(ie.p (jn 2 a) s).fin:=aR h
def gz:Xd []:=(aK (ao ce (ab (ac bE (ac h_ (aa 0) (xC (.int 0))) (ac h_ (aa 1) (xC (.int 0)))) (ab (ac bE (ac h_ (aa 0) (xC (.int 1))) (ac h_ (aa 1) (xC (.int 1)))) a_))))
def gw:Fn:=bp 2 2 gz
def wG{a:TU}{s:d_}(h:a.length=2):gw.p a s=(gz.p (jn 2 a) s).fin:=aR h
def iD:Xd []:=(aK (ac bX (aU 2 [1] (bo (aa 0)) (ws':=[]) (Aa (qa (ki 0) (qa (ki 1) z_)) 2) (xB (ac tu (aa 0) (aa 2))) (aa 1)) (aU 2 [1] (bo (aa 0)) (ws':=[]) (Aa (qa (ki 0) (qa (ki 1) z_)) 2) (xB (ac tu (aa 1) (aa 2))) (aa 0))))
def cN:Fn:=bp 2 2 iD
def xH{a:TU}{s:d_}(h:a.length=2):cN.p a s=(iD.p (jn 2 a) s).fin:=aR h
def gA:Xd [3]:=(aH (gZ 3 (dH (ab (ac h_ (aa 1) (aa 2)) a_)))
 (aH (bc 4 (xC (.int 0)))
 (aH (J_ 2000000 (xB (ac IB (aa 4) (nz cM (ab (aa 3) a_)))) (aH (ti (s_ (xB (ac tu (aa 4) (xC (.int 0)))) (xB (ac (BM T) (ac h_ (aa 3) (aa 4)) (Cp (aa 1) Cm (Co (aa 2)))))) (B2 t_ 3 (ab (aU 1 [3] (bo (ao cN (ab (aa 0) (ab (ac h_ (aa 3) (aa 4)) a_)))) (ws':=[1]) (ki 0) (xB (ac (BM I) (aa 0) (aa 1))) (aa 0)) a_)) iw)
 (bc 4 (ac bX (aa 4) (xC (.int 1))))) jt)
 (aK (aU 1 [3] (bo (Cp (aa 1) (Co (ac bX (aa 2) (xC (.int 1)))) Cm)) (ws':=[1]) (ki 0) (xB (ac (BM T) (aa 0) (aa 1))) (aa 0))))))
def dI:Fn:=bp 5 3 gA
def wN{a:TU}{s:d_}(h:a.length=3):dI.p a s=(gA.p (jn 5 a) s).fin:=aR h
def f9:Xd []:=(aK (eU (r_ (bh ["int"]) (aa 0)) (mH (r_ (bh ["bool"]) (aa 0)))))
def bH:Fn:=bp 1 1 f9
def wn{a:TU}{s:d_}(h:a.length=1):bH.p a s=(f9.p (jn 1 a) s).fin:=aR h
def dh:Xd []:=(aH (ti (s_ (bn (xB (r_ (bh ["tuple"]) (aa 0)))) (s_ (xB (ac wo (nz cM (ab (aa 0) a_)) (xC (.int 2)))) (s_ (bn (xB (ao bH (ab (ac h_ (aa 0) (xC (.int 0))) a_)))) (bn (xB (ao bH (ab (ac h_ (aa 0) (xC (.int 1))) a_))))))) (aK (xC (.bl T))) iw)
 (aK (eU (ac wo (ac h_ (aa 0) (xC (.int 0))) (xC (.int 0))) (eU (ac Kb (ac h_ (aa 0) (xC (.int 1))) (xC (.int 0))) (ac tu (ao ce (ab (ac h_ (aa 0) (xC (.int 0))) (ab (ac h_ (aa 0) (xC (.int 1))) a_))) (aa 0))))))
def bx:Fn:=bp 1 1 dh
def qm{a:TU}{s:d_}(h:a.length=1):bx.p a s=(dh.p (jn 1 a) s).fin:=aR h
def dm:Xd []:=(aH (ti (bn (xB (r_ (bh ["tuple"]) (aa 0)))) (aK (xC (.bl T))) iw)
 (aH (bc 2 (r_ eM (xC (.int 1))))
 (aH (iH (bo (aa 0)) (ki 3) (aH (ti (s_ (bn (xB (r_ (bh ["tuple"]) (aa 3)))) (s_ (xB (ac wo (nz cM (ab (aa 3) a_)) (xC (.int 2)))) (s_ (bn (xB (ao bH (ab (ac h_ (aa 3) (xC (.int 0))) a_)))) (xB (ac (BM I) (ac h_ (aa 3) (xC (.int 0))) (aa 1)))))) (aK (xC (.bl T))) iw)
 (aH (ti (s_ (xB (ac Ka (ac h_ (aa 3) (xC (.int 0))) (aa 2))) (bn (xB (ao bx (ab (ac h_ (aa 3) (xC (.int 1))) a_))))) (aK (xC (.bl T))) iw)
 (bc 2 (ac h_ (aa 3) (xC (.int 0)))))))
 (aK (xC (.bl I))))))
def bI:Fn:=bp 4 2 dm
def p5{a:TU}{s:d_}(h:a.length=2):bI.p a s=(dm.p (jn 4 a) s).fin:=aR h
def d5:Xd []:=(aH (ti (s_ (bn (xB (r_ (bh ["list"]) (aa 0)))) (xB (ac wo (nz cM (ab (aa 0) a_)) (nz cM (ab (aa 1) a_))))) (aK (xC (.bl T))) iw)
 (aH (iH (bU iE (ab (aa 1) a_)) (Aa (qa (ki 2) (qa (ki 3) z_)) 2) (aH (bc 4 (ac h_ (aa 0) (aa 2)))
 (aH (ti (s_ (bn (xB (r_ (bh ["tuple"]) (aa 4)))) (s_ (xB (ac wo (nz cM (ab (aa 4) a_)) (xC (.int 4)))) (s_ (bn (xB (ao bH (ab (ac h_ (aa 4) (xC (.int 0))) a_)))) (xB (ac wo (ac h_ (aa 4) (xC (.int 0))) (aa 3)))))) (aK (xC (.bl T))) iw)
 (aH (ti (s_ (bn (xB (ao bx (ab (ac h_ (aa 4) (xC (.int 1))) a_)))) (bn (xB (ao bI (ab (ac h_ (aa 4) (xC (.int 2))) (ab (Cp (aa 1) (Co (ac bX (aa 2) (xC (.int 1)))) Cm) a_)))))) (aK (xC (.bl T))) iw)
 (ti (bn (xB (ao bI (ab (ac h_ (aa 4) (xC (.int 3))) (ab (Cp (aa 1) (Co (ac bX (aa 2) (xC (.int 1)))) Cm) a_))))) (aK (xC (.bl T))) iw)))))
 (aK (xC (.bl I)))))
def d7:Fn:=bp 5 2 d5
def uh{a:TU}{s:d_}(h:a.length=2):d7.p a s=(d5.p (jn 5 a) s).fin:=aR h
def t6:Xe []:=(ao iO (ab (ac h_ (ac h_ (aa 2) (aa 7)) (aa 9)) (ab (ao gw (ab (aa 8) (ab (aa 10) a_))) a_)))
def sF:Xe []:=(aO (ab (aa 0) (ab (nz cc (ab (aU 1 [] (bo (aa 2)) (ws':=[]) (ki 0) n3 (nz cc (ab (aU 2 [] (bU iE (ab (aa 0) a_)) (ws':=[]) (Aa (qa (ki 0) (qa (ki 1) z_)) 2) (xB (ac wo (aa 1) (aO (ab (xC (.int 0)) (ab (xC (.int 1)) a_))))) (aO (ab (aa 0) (ab (aa 1) a_)))) a_))) a_)) a_)))
def EB:nw:=pP t6.m (Hh (az ba (ah 2) (ah 7)) (ah 9))
def EC:nw:=ja (dY (az jj (dA (ag (dA (ag (ah 3) (ag (ah 4) hG))) hG)) (ah 5))) (zQ (p4 (mh 9) (p4 (mh 10) zN)) 2) EB
def ED:nw:=ja (dY (az jj (dA (ag (dA (ag (ah 3) (ag (dA (ag (mC (.int 1)) (ag (mC (.int 1)) hG))) hG))) hG)) (ah 6))) (zQ (p4 (mh 7) (p4 (mh 8) zN)) 2) EC
def Jn:Mx PV:=dA (ag (mC (.int 0)) (ag (mC (.int 1)) hG))
def pq:nw:=cw (bS 2 (bV 1 [0] (dP (ag (ah 0) hG)) (mh 0) n_ (bV 1 [] (dP (ag (ah 1) hG)) (mh 0) n_ Jn)))
 (cw (ja (dY (ah 1)) (zQ (p4 (mh 3) (p4 (mh 4) (p4 (mh 5) (p4 (mh 6) zN)))) 4) ED)
 (cR sF.m))
def dS:TL->MH->TD:=cB 11 2 pq
structure C8 where
 (c0 c1 c2 c3 c4 c5 c6 c7:Th)
def mE(rd:List Rd)(n a:D)(c:C8):au:=[J n,J a,J (fe rd),c.c0,c.c1,c.c2,c.c3,c.c4,c.c5,c.c6,c.c7]
def oK(n f:D)(rd:List Rd)(c:C8)(s:d_):Option (List Rd×d_):=match t6.p (mE rd n f c) s,c.c4,c.c6 with
 |.ok d l,J (.int i),J (.int j)=>(match wC rd.length i with
  |some x=>(match rd[x]? with
   |some (Y,a)=>(match wC a.length j with
    |some y=>if flat d=I then J (rd.set x (Y,a.set y d),l)else Y
    |none=>Y)
   |_=>Y)
  |none=>Y)
 |_,_,_=>Y
def CQ(n f:D):TU->List Rd->C8->d_->Option (List Rd×C8×d_)
 |[],rd,c,s=>J (rd,c,s)
 |.tup [i,j]::r,rd,c,s=>(match oK n f rd { c with c6:=J i,c7:=J j} s with
  |some (a,l)=>CQ n f r a { c with c6:=J i,c7:=J j} l
  |none=>Y)
 |_,_,_,_=>Y
def CT(n f v p:D)(rs:TU):TU->List Rd->C8->d_->Option (List Rd×C8×d_)
 |[],rd,c,s=>J (rd,c,s)
 |.tup [i,l]::r,rd,c,s=>(match CQ n f (.tup [v,p]::rs) rd { c with c4:=J i,c5:=J l} s with
  |some (a,u,j)=>CT n f v p rs r a u j
  |none=>Y)
 |_,_,_,_=>Y
def EF(n i:D):TU->List Rd->C8->d_->Option (List Rd×C8×d_)
 |[],rd,c,s=>J (rd,c,s)
 |.tup [v,p,.tup rs,.tup a]::r,rd,c,s=>if rs.length<900/\a.length<900 then (match CT n i v p rs (.tup [v,.tup [.int 1,.int 1]]::a) rd { c with c0:=J v,c1:=J p,c2:=J (.tup rs),c3:=J (.tup a)} s with
  |some (f,l,j)=>EF n i r f l j
  |none=>Y)else Y
 |_,_,_,_=>Y
def OG(f:TU)(s:d_):PR D:=match f with
 |[.int n,.lst a]=>if f_ a=I/\0<=n/\n<900 then (match EF (.int n) (.lst a) a (List.replicate n.toNat (Y,List.replicate n.toNat (.tup [.int 0,.int 1]))) ⟨Y,Y,Y,Y,Y,Y,Y,Y⟩ s with
  |some (rd,c,i)=>(match sF.p (mE rd (.int n) (.lst a) c) i with
   |.ok d j=>if flat d=I then .ok d j else .bad
   |_=>.bad)
  |none=>.bad)else .bad
 |_=>.bad
structure MuI(q:Nat)(h0 h:MH)(s:d_)(a:Nat)(ms:TR)(rd:List Rd):Prop where
 len:h0.length<=h.length
 mv:∀n:Nat,n<h0.length->n≠q->h[n]?=h0[n]?
 pen:be h q s
 gr:Gr h h0.length a ms rd
structure E8 where
 (e0 e1 e2 e3 e4 e5 e6 e7:Tj)
def sE(f i:PV)(a:Nat)(e:E8):n4:=[J f,J i,J (.loc a),e.e0,e.e1,e.e2,e.e3,e.e4,e.e5,e.e6,e.e7]
structure O8(c:C8)(e:E8):Prop where
 (o0:OR c.c0 e.e0) (o1:OR c.c1 e.e1) (o2:OR c.c2 e.e2) (o3:OR c.c3 e.e3) (o4:OR c.c4 e.e4) (o5:OR c.c5 e.e5) (o6:OR c.c6 e.e6) (o7:OR c.c7 e.e7)
def qT:∀{a:TU}{d:D}{i:Nat},f_ a=I->flat d=I->f_ (a.set i d)=I
 |[],_,_,f,_=>f
 |x::a,d,0,f,g=>by
  simp only[f_,BA,y4]at f ⊢;exact⟨g,f.2⟩
 |x::a,d,i+1,f,g=>by
  simp only[f_,BA,y6]at f ⊢;exact⟨f.1,qT f.2 g⟩
def OR.of{d:D}{v:PV}(f:flat d=I)(r:Rp 0 [] [] d v):OR (J d) (J v):=λz a=>by cases a;exact⟨f,_,rfl,r⟩
section
variable{q:Nat}{h0 h h':MH}{s s':d_}{a:Nat}{ms:TR}{rd rd':List Rd}{O:TR}{n wk:D}{v0 v1:PV}{c c':C8}{e e':E8}
def MuI.kb(f:MuI q h0 h s a ms rd)(y:q<h0.length)(k:KB q h h')(pn:be h' q s'):MuI q h0 h' s' a ms rd:=by have l:=f.len;exact⟨pf f.len k.len,λn u i=>(k.keep n (by ext) i).trans (f.mv n u i),pn,f.gr.keep λm j=>k.keep m (f.gr.lt m j) (by have:=f.gr.ge m j;ext)⟩
def FM(j:MuI q h0 h s a ms rd)(bd:∀o∈O,o<h0.length)(B:q∈O)(r:Rps q h0 O [n,wk] [v0,v1])(o:O8 c e):PU.Cx q h h.length O O [] (sE v0 v1 a e) (mE rd n wk c) s:=by
 have l:=j.len;have mv:Mv O h0 O h:=⟨λn G no=>j.mv n G λz=>no (z▸B),λo u=>.inl u⟩;have C:=r.mv mv;have one:∀{x:Th}{y:Tj}{d:D},OR x y->x=J d->∃v,J y=J (J v)/\Rp q h O d v:=λ{x y d} o e=>by
  obtain⟨f,v,e2,r⟩:=o d e;exact⟨v,by rw[e2],Rp.fq f r⟩
 refine⟨λo u=>by have:=bd o u;ext,λo u=>u,λo u=>by have:=bd o u;ext,B,i_ _,j.pen,rfl,λi d e _=>?_,λi d e E=>by cases E⟩
 match i,e with
 |0,e=>cases e;obtain⟨v,e,q⟩:=C.get (i:=0) rfl;cases e;exact⟨_,rfl,q⟩
 |1,e=>cases e;obtain⟨v,e,q⟩:=C.get (i:=1) rfl;cases e;exact⟨_,rfl,q⟩
 |2,e=>cases e;exact⟨_,rfl,j.gr.rp λm F no=>by have:=j.gr.ge m F;have:=bd m no;ext⟩
 |3,e=>exact one o.o0 (by injection e)
 |4,e=>exact one o.o1 (by injection e)
 |5,e=>exact one o.o2 (by injection e)
 |6,e=>exact one o.o3 (by injection e)
 |7,e=>exact one o.o4 (by injection e)
 |8,e=>exact one o.o5 (by injection e)
 |9,e=>exact one o.o6 (by injection e)
 |10,e=>exact one o.o7 (by injection e)
 |n+11,e=>simp[mE]at e
def Au(z:MuI q h0 h s a ms rd)(bd:∀o∈O,o<h0.length)(E:q∈O)(r:Rps q h0 O [n,wk] [v0,v1])(o:O8 c e)(l:oK n wk rd c s=J (rd',s')):∃h',EB (sE v0 v1 a e) h=.nx (sE v0 v1 a e) h'/\MuI q h0 h' s' a ms rd':=by
 have B:=bd q E;unfold oK at l
 split at l
 .rename_i d s1 i j X ei Z
  split at l
  .rename_i x ex
   split at l
   .rename_i C H
    split at l
    .rename_i y F
     split at l
     .rename_i fd
      cases l;have k:=t6.ok (FM z bd E r o);rw[X]at k;obtain⟨v,f,em,kb,pn,_,rz,_⟩:=k;have u:=z.kb B kb pn;obtain⟨fl,m,xs,e1,e2,e3⟩:=u.gr.row x _ H;have e2:f[m]?=J (.lst xs):=e2;obtain⟨_,_,e4,L⟩:=o.o4 _ ei;obtain⟨_,_,e6,r6⟩:=o.o6 _ Z;have G:=aE e2;have W:=l7 a (AL e1);have R:=u.gr.ge m W;have xl:xs.length=C.length:=e3.length;have yl:y<C.length:=(L2.lY F).2.1;have S:Rp 0 [] [] d v:=Rp.fq fd (rz rfl);have ai:ng (ms.map PV.loc) i=J (.loc m):=by unfold ng;rw[wv,u.gr.len,ex,JY,qo,e1];rfl
      refine⟨f.set m (.lst (xs.set y v)),?_,by rw[Pa];exact u.len,λj P M=>(pu (by ext)).trans (u.mv j P M),?_,u.gr.put (r':=(Y,C.set y d)) e1 ?_ (x6 G) (e3.set y S) λj _ ne=>pu (Ne.symm ne)⟩
      .unfold EB pP xx;rw[em];have g:Hh (az ba (ah 2) (ah 7)) (ah 9) v (sE v0 v1 a e) f=.nx (sE v0 v1 a e) (f.set m (.lst (xs.set y v))):=by
        rw[Hx];have U:az ba (ah 2) (ah 7) (sE v0 v1 a e) f=.ok (.loc m) f:=by
         rw[Dx];have z1:ah 2 (sE v0 v1 a e) f=.ok (.loc a) f:=rfl;have z2:ah 7 (sE v0 v1 a e) f=.ok (.int i) f:=by show ah 7 [J v0,J v1,J (.loc a),e.e0,e.e1,e.e2,e.e3,e.e4,e.e5,e.e6,e.e7] f=_;rw[e4,show _=PV.int i from L];rfl
         rw[z1,Out.bind_ok,z2,Out.bind_ok,fJ u.gr.top,ai];rfl
        have Q:ah 9 (sE v0 v1 a e) f=.ok (.int j) f:=by show ah 9 [J v0,J v1,J (.loc a),e.e0,e.e1,e.e2,e.e3,e.e4,e.e5,e.e6,e.e7] f=_;rw[e6,show _=PV.int j from r6];rfl
        rw[U,aq,Hw,Q,aq,kC e2,xl,F];rfl
       dsimp only;rw[g]
      .have:=u.pen
       unfold be at this ⊢;rw[pu (by ext)];exact this
      .exact qT fl fd
     .cases l
    .cases l
   .cases l
  .cases l
 .cases l
def EG{x:D}{xs:TU}{z:List Rd×C8×d_}(i:CQ n wk (x::xs) rd c s=J z):∃y w,x=.tup [y,w]:=by
 unfold CQ at i
 split at i
 .rename_i f;cases f
 .rename_i f;cases f;exact⟨_,_,rfl⟩
 .cases i
def EH{v p x:D}{rs xs:TU}{z:List Rd×C8×d_}(i:CT n wk v p rs (x::xs) rd c s=J z):∃y w,x=.tup [y,w]:=by
 unfold CT at i
 split at i
 .rename_i f;cases f
 .rename_i f;cases f;exact⟨_,_,rfl⟩
 .cases i
def EI{x:D}{xs:TU}{z:List Rd×C8×d_}(i:EF n wk (x::xs) rd c s=J z):∃v p rs j,x=.tup [v,p,.tup rs,.tup j]:=by
 unfold EF at i
 split at i
 .rename_i f;cases f
 .rename_i f;cases f;exact⟨_,_,_,_,rfl⟩
 .cases i
def uV{x y:D}{v:PV}(r:Rp 0 [] [] (.tup [x,y]) v):∃a b,v=.tup [a,b]/\Rp 0 [] [] x a/\Rp 0 [] [] y b:=by obtain⟨ys,rfl,u⟩:=r;obtain⟨B,C,rfl,j,z,l,rfl,i,f⟩:=u;rw[show l=[]from f];exact⟨_,_,rfl,j,i⟩
def yp{it:MIt}(j:∀h,it.ok h)(bd:∀o∈O,o<h0.length)(M:q∈O)(r:Rps q h0 O [n,wk] [v0,v1]):∀(l:TU)(xs:TL)(rd:List Rd)(c:C8)(e:E8)(h:MH)(s:d_),f_ l=I->Rps 0 [] [] l xs->O8 c e->MuI q h0 h s a ms rd->CQ n wk l rd c s=J (rd',c',s') ->
  ∃h' y u,wI it (zQ (p4 (mh 9) (p4 (mh 10) zN)) 2) EB xs (sE v0 v1 a e) h=.nx (sE v0 v1 a { e with e6:=y,e7:=u}) h'/\MuI q h0 h' s' a ms rd'/\O8 c' { e with e6:=y,e7:=u}/\c'.c0=c.c0/\c'.c1=c.c1/\c'.c2=c.c2/\c'.c3=c.c3
 |[],xs,rd,c,e,h,s,fd,C,o,i,f=>by
  unfold CQ at f;cases f;rw[show xs=[]from C];exact⟨h,e.e6,e.e7,js (j h),i,o,rfl,rfl,rfl,rfl⟩
 |x::l,xs,rd,c,e,h,s,fd,C,o,i,f=>by
  obtain⟨R,Q,rfl⟩:=EG f;simp only[f_,BA]at fd;have P:flat R=I/\flat Q=I:=by simpa [flat,f_]using fd.1
  unfold CQ at f;obtain⟨vx,xr,rfl,F,W⟩:=C;obtain⟨B,H,rfl,G,z⟩:=uV F
  split at f
  .rename_i E s2 e2
   have L:O8 { c with c6:=J R,c7:=J Q} { e with e6:=J B,e7:=J H}:=⟨o.o0,o.o1,o.o2,o.o3,o.o4,o.o5,OR.of P.1 G,OR.of P.2 z⟩;obtain⟨U,e1,S⟩:=Au i bd M r L e2;obtain⟨X,y,u,e3,Z,o3,k⟩:=yp j bd M r l xr E _ _ U s2 fd.2 W L S f;refine⟨X,y,u,?_,Z,o3,k⟩;rw[ib (j h) (show zQ (p4 (mh 9) (p4 (mh 10) zN)) 2 (.tup [B,H]) (sE v0 v1 a e) h=.nx (sE v0 v1 a { e with e6:=J B,e7:=J H}) h from rfl),e1];exact e3
  .cases f
def yY{it:MIt}{v p:D}{rs:TU}{i pv:PV}{f:TL}(y:∀h,it.ok h)(bd:∀o∈O,o<h0.length)(hq:q∈O)(r:Rps q h0 O [n,wk] [v0,v1])(fv:flat v=I)(Z:flat p=I)(fr:f_ rs=I)(rv:Rp 0 [] [] v i)(rp:Rp 0 [] [] p pv)(u:Rps 0 [] [] rs f)(lr:rs.length<900):
  ∀(C:TU)(xs:TL)(rd:List Rd)(c:C8)(e:E8)(h:MH)(s:d_),f_ C=I->Rps 0 [] [] C xs->O8 c e->MuI q h0 h s a ms rd->e.e0=J i->e.e1=J pv->e.e2=J (.tup f)->CT n wk v p rs C rd c s=J (rd',c',s') ->
  ∃h' e4 e5 F E,wI it (zQ (p4 (mh 7) (p4 (mh 8) zN)) 2) EC xs (sE v0 v1 a e) h=.nx (sE v0 v1 a { e with e4:=e4,e5:=e5,e6:=F,e7:=E}) h'/\MuI q h0 h' s' a ms rd'/\O8 c' { e with e4:=e4,e5:=e5,e6:=F,e7:=E}
 |[],xs,rd,c,e,h,s,fd,H,o,l,z0,z1,X,j=>by
  unfold CT at j;cases j;rw[show xs=[]from H];exact⟨h,e.e4,e.e5,e.e6,e.e7,js (y h),l,o⟩
 |x::C,xs,rd,c,e,h,s,fd,H,o,l,z0,z1,X,j=>by
  obtain⟨di,df,rfl⟩:=EH j;simp only[f_,BA]at fd;have fk:flat di=I/\flat df=I:=by simpa [flat,f_]using fd.1
  unfold CT at j;obtain⟨vx,xr,rfl,R,rr⟩:=H;obtain⟨z,B,rfl,S,G⟩:=uV R
  split at j
  .rename_i P c2 s2 e2
   have o2:O8 { c with c4:=J di,c5:=J df} { e with e4:=J z,e5:=J B}:=⟨o.o0,o.o1,o.o2,o.o3,OR.of fk.1 S,OR.of fk.2 G,o.o6,o.o7⟩;have rl:f.length=rs.length:=u.length;obtain⟨h1,F,E,e1,I1,o3,_⟩:=yp (it:=⟨.tup [i,pv]::f,[]⟩) (λ_=>fE.mpr trivial) bd hq r (.tup [v,p]::rs) (.tup [i,pv]::f) rd _ _ h s (by simp[f_,flat,fv,Z,fr]) ⟨_,_,rfl,⟨_,rfl,_,_,rfl,rv,_,_,rfl,rp,rfl⟩,u⟩ o2 l e2;obtain⟨h2,L,W,U,Q,e3,I2,o4⟩:=yY y bd hq r fv Z fr rv rp u lr C xr P _ _ h1 s2 fd.2 rr o3 I1 z0 z1 X j;refine⟨h2,L,W,U,Q,?_,I2,o4⟩;rw[ib (y h) (show zQ (p4 (mh 7) (p4 (mh 8) zN)) 2 (.tup [z,B]) (sE v0 v1 a e) h=.nx (sE v0 v1 a { e with e4:=J z,e5:=J B}) h from rfl)];have M:dY (az jj (dA (ag (dA (ag (ah 3) (ag (ah 4) hG))) hG)) (ah 5)) (sE v0 v1 a { e with e4:=J z,e5:=J B}) h=.ok ⟨.tup [i,pv]::f,[]⟩ h:=by
    unfold sE;dsimp only;rw[z0,z1,X];have t1:lw [PV.tup [i,pv]] h=.ok (.tup [.tup [i,pv]]) h:=by unfold lw;rw[b_ (pf (show _<=1000 by simp) (by decide))]
    have t2:lw [i,pv] h=.ok (.tup [i,pv]) h:=by unfold lw;rw[b_ (pf (show _<=1000 by simp) (by decide))]
    have t3:jj (.tup [.tup [i,pv]]) (.tup f) h=.ok (.tup (.tup [i,pv]::f)) h:=by show(if [PV.tup [i,pv]]≠[]then lw ([PV.tup [i,pv]]++f) h else .bad)=_;rw[b_ (by simp)];unfold lw;rw[b_ (pf (show _<=1000 by simp;ext) (by decide))];rfl
    simp[dA,t1,t2,t3]
   have b:EC (sE v0 v1 a { e with e4:=J z,e5:=J B}) h=.nx (sE v0 v1 a { e with e4:=J z,e5:=J B,e6:=F,e7:=E}) h1:=by unfold EC;rw[jp,M,aq];exact e1
   rw[b];exact e3
  .cases j
def zI{it:MIt}(z:∀h s rd,MuI q h0 h s a ms rd->it.ok h)(bd:∀o∈O,o<h0.length)(hq:q∈O)(r:Rps q h0 O [n,wk] [v0,v1]):
  ∀(H:TU)(xs:TL)(rd:List Rd)(c:C8)(e:E8)(h:MH)(s:d_),f_ H=I->Rps 0 [] [] H xs->O8 c e->MuI q h0 h s a ms rd->EF n wk H rd c s=J (rd',c',s') ->
  ∃h' e',wI it (zQ (p4 (mh 3) (p4 (mh 4) (p4 (mh 5) (p4 (mh 6) zN)))) 4) ED xs (sE v0 v1 a e) h=.nx (sE v0 v1 a e') h'/\MuI q h0 h' s' a ms rd'/\O8 c' e'
 |[],xs,rd,c,e,h,s,fd,Q,o,l,u=>by
  unfold EF at u;cases u;rw[show xs=[]from Q];exact⟨h,e,js (z h _ _ l),l,o⟩
 |x::H,xs,rd,c,e,h,s,fd,Q,o,l,u=>by
  obtain⟨v,p,rs,P,rfl⟩:=EI u;simp only[f_,BA]at fd;have y:flat v=I/\flat p=I/\f_ rs=I/\f_ P=I:=by simpa [flat,f_]using fd.1
  unfold EF at u;obtain⟨vx,xr,rfl,U,rr⟩:=Q;obtain⟨us,rfl,ru⟩:=U;obtain⟨i,t1,rfl,B,C,t2,rfl,E,u3,t3,rfl,G,u4,t4,rfl,L,W⟩:=ru;rw[show t4=[]from W];have F:=G;have M:=L;obtain⟨j,rfl,r3⟩:=G;obtain⟨f,rfl,X⟩:=L
  split at u
  .rename_i lc
   split at u
   .rename_i S c2 s2 e2
    have o2:O8 { c with c0:=J v,c1:=J p,c2:=J (.tup rs),c3:=J (.tup P)} { e with e0:=J i,e1:=J C,e2:=J (.tup j),e3:=J (.tup f)}:=⟨OR.of y.1 B,OR.of y.2.1 E,OR.of (by simp[flat,y.2.2.1]) F,OR.of (by simp[flat,y.2.2.2]) M,o.o4,o.o5,o.o6,o.o7⟩;have cl:f.length=P.length:=X.length;obtain⟨Z,e4,e5,e6,e7,e1,I1,o3⟩:=yY (it:=⟨.tup [i,.tup [.int 1,.int 1]]::f,[]⟩) (λ_=>fE.mpr trivial) bd hq r y.1 y.2.1 y.2.2.1 B E r3 lc.1 (.tup [v,.tup [.int 1,.int 1]]::P) (.tup [i,.tup [.int 1,.int 1]]::f) rd _ _ h s (by simp[f_,flat,y.1,y.2.2.2]) ⟨_,_,rfl,⟨_,rfl,_,_,rfl,B,_,_,rfl,⟨_,rfl,_,_,rfl,rfl,_,_,rfl,rfl,rfl⟩,rfl⟩,X⟩ o2 l rfl rfl rfl e2;obtain⟨h2,e',e3,I2,o4⟩:=zI z bd hq r H xr S _ _ Z s2 fd.2 rr o3 I1 u;refine⟨h2,e',?_,I2,o4⟩;rw[ib (z h _ _ l) (show zQ (p4 (mh 3) (p4 (mh 4) (p4 (mh 5) (p4 (mh 6) zN)))) 4 (.tup [i,C,.tup j,.tup f]) (sE v0 v1 a e) h=.nx (sE v0 v1 a { e with e0:=J i,e1:=J C,e2:=J (.tup j),e3:=J (.tup f)}) h from rfl)];have R:dY (az jj (dA (ag (dA (ag (ah 3) (ag (dA (ag (mC (.int 1)) (ag (mC (.int 1)) hG))) hG))) hG)) (ah 6)) (sE v0 v1 a { e with e0:=J i,e1:=J C,e2:=J (.tup j),e3:=J (.tup f)}) h=.ok ⟨.tup [i,.tup [.int 1,.int 1]]::f,[]⟩ h:=by
     unfold sE;dsimp only;have t0:lw [PV.int 1,.int 1] h=.ok (.tup [.int 1,.int 1]) h:=by unfold lw;rw[b_ (pf (show _<=1000 by simp) (by decide))]
     have t1:lw [PV.tup [i,.tup [.int 1,.int 1]]] h=.ok (.tup [.tup [i,.tup [.int 1,.int 1]]]) h:=by unfold lw;rw[b_ (pf (show _<=1000 by simp) (by decide))]
     have t2:lw [i,.tup [.int 1,.int 1]] h=.ok (.tup [i,.tup [.int 1,.int 1]]) h:=by unfold lw;rw[b_ (pf (show _<=1000 by simp) (by decide))]
     have t3:jj (.tup [.tup [i,.tup [.int 1,.int 1]]]) (.tup f) h=.ok (.tup (.tup [i,.tup [.int 1,.int 1]]::f)) h:=by show(if [PV.tup [i,.tup [.int 1,.int 1]]]≠[]then lw ([PV.tup [i,.tup [.int 1,.int 1]]]++f) h else .bad)=_;rw[b_ (by simp)];unfold lw;rw[b_ (pf (show _<=1000 by simp;ext) (by decide))];rfl
     simp[dA,t0,t1,t2,t3]
    have b:ED (sE v0 v1 a { e with e0:=J i,e1:=J C,e2:=J (.tup j),e3:=J (.tup f)}) h=.nx (sE v0 v1 a { e with e0:=J i,e1:=J C,e2:=J (.tup j),e3:=J (.tup f),e4:=e4,e5:=e5,e6:=e6,e7:=e7}) Z:=by unfold ED;rw[jp,R,aq];exact e1
    rw[b];exact e3
   .cases u
  .cases u
def yI{it:MIt}(f:∀h,it.ok h):∀(xs ys:TL)(z:Tj)(h:MH)(m:Nat),m=h.length->ys.length+xs.length<1000->z6 it m (mh 0) n_ Jn xs [z] (h++[.lst ys])=.ok () (h++[.lst (ys++List.replicate xs.length (.tup [.int 0,.int 1]))])
 |[],ys,z,h,m,j,i=>by rw[mI (f _)];simp
 |x::xs,ys,z,h,m,j,i=>by
  subst j;have l:Jn [J x] (h++[.lst ys])=.ok (.tup [.int 0,.int 1]) (h++[.lst ys]):=by unfold Jn dA;simp[lw,sizeLine]
  rw[m5 (Z1:=[J x]) (h1:=h++[.lst ys]) (h2:=h++[.lst ys]) (h3:=h++[.lst ys]) (f _) rfl rfl l Fx (by simp at i;ext)];have u:(h++[MO.lst ys]).set h.length (.lst (ys++[.tup [.int 0,.int 1]]))=h++[.lst (ys++[.tup [.int 0,.int 1]])]:=by simp
  rw[u,yI f xs _ (J x) h _ rfl (by simp at i ⊢;ext),B8,B7,CZ];rfl
def uY{it:MIt}{n:Nat}(P:n<900)(l:∀h,it.ok h):∀(xs:TL)(f:List Rd)(ms:TR)(z:Tj)(h:MH),Gr h h0.length a ms f->h0.length<=h.length->(∀j:Nat,j<h0.length->h[j]?=h0[j]?)->ms.length+xs.length<1000 ->
  ∃h' i,z6 it a (mh 0) n_ (bV 1 [] (dP (ag (ah 1) hG)) (mh 0) n_ Jn) xs [z,J (.int (n:Int))] h=.ok () h'/\Gr h' h0.length a i (f++List.replicate xs.length (Y,List.replicate n (.tup [.int 0,.int 1])))/\h0.length<=h'.length/\∀j:Nat,j<h0.length->h'[j]?=h0[j]?
 |[],f,ms,z,h,g,y,kp,u=>⟨h,ms,mI (l h),by simpa using g,y,kp⟩
 |x::xs,f,ms,z,h,g,y,kp,u=>by
  have rep:∀k:Nat,f_ (List.replicate k (D.tup [.int 0,.int 1]))=I/\Rps 0 [] [] (List.replicate k (D.tup [.int 0,.int 1])) (List.replicate k (.tup [.int 0,.int 1])):=λk=>by
   induction k with
   |zero=>exact⟨rfl,rfl⟩
   |succ k B=>exact⟨by simp[B7,f_,flat,B.1],_,_,rfl,⟨_,rfl,_,_,rfl,rfl,_,_,rfl,rfl,rfl⟩,B.2⟩
  have G:=vE g (r:=(Y,List.replicate n (.tup [.int 0,.int 1]))) (xs:=List.replicate n (.tup [.int 0,.int 1])) y (rep n).1 (rep n).2;have M:=g.ge a (by simp);obtain⟨h',i,e',F,L,C⟩:=uY P l xs _ _ (J x) _ G (by simp;ext) (λj E=>by rw[pu (by ext),qi (by ext)];exact kp j E) (by simp at u ⊢;ext);refine⟨h',i,?_,by rw[B8,B7,List.append_cons];exact F,L,C⟩;have H:bV 1 [] (dP (ag (ah 1) hG)) (mh 0) n_ Jn [J x,J (.int (n:Int))] h=.ok (.loc h.length) (h++[.lst (List.replicate n (.tup [.int 0,.int 1]))]):=by rw[j0,Il (n:=n) (h1:=h) rfl (by ext),Out.bind_ok];refine(congrArg (λz:Out Unit=>z.bind _) (yI (it:=⟨aW 0 n,[]⟩) (λ_=>fE.mpr trivial) (aW 0 n) [] Y h h.length rfl (by rw[MM.dR];simp;ext))).trans ?_;rw[MM.dR,NV];rfl
  rw[m5 (Z1:=[J x,J (.int (n:Int))]) (h1:=h) (h2:=h) (v:=.loc h.length) (h3:=h++[mo Y (List.replicate n (.tup [.int 0,.int 1]))]) (ys:=ms.map .loc) (l h) rfl rfl H (by rw[qi (aE g.top)];exact g.top) (by simp at u ⊢;ext)];exact e'
end
def fM:Fn where
 m:=dS
 p:=OG
 fr:=I
 ok {q h O vs ds s} bd hq pn r:=by
  unfold OG;split
  .rename_i n wk
   split
   .rename_i cn
    obtain⟨X,n0,n9⟩:=cn;split
    .rename_i rd c s1 S
     split
     .rename_i d s2 ed
      split
      .rename_i fd
       have C:=r;obtain⟨v0,t0,rfl,F,v1,t1,rfl,H,L⟩:=r;rw[show t1=[]from L]at C ⊢;rw[show v0=PV.int n from F]at C ⊢;obtain⟨no,f,rfl,Z,B,ro⟩:=H;obtain⟨k,rfl⟩:∃k:Nat,n=(k:Int):=⟨n.toNat,by ext⟩;rw[BK]at S;have y:q<h.length:=bd q hq;obtain⟨l,ms,e1,M,l1,Q⟩:=uY (h0:=h) (a:=h.length) (n:=k) (it:=⟨aW 0 k,[]⟩) (by ext) (λ_=>fE.mpr trivial) (aW 0 k) [] [] Y (h++[.lst []]) ⟨by simp,rfl,by simp,λm hm=>by simp at hm;ext,λi r e=>by simp at e⟩ (by simp) (λn L=>qi L) (by rw[MM.dR];simp;ext);rw[MM.dR,NV]at M;have W:MuI q h l s h.length ms (List.replicate k (Y,List.replicate k (.tup [.int 0,.int 1]))):=⟨l1,λj E _=>Q j E,by unfold be;rw[Q q y];exact pn,M⟩;have o0:O8 ⟨Y,Y,Y,Y,Y,Y,Y,Y⟩ ⟨Y,Y,Y,Y,Y,Y,Y,Y⟩:=⟨λ_ z=>(by cases z),λ_ z=>(by cases z),λ_ z=>(by cases z),λ_ z=>(by cases z),λ_ z=>(by cases z),λ_ z=>(by cases z),λ_ z=>(by cases z),λ_ z=>(by cases z)⟩
       obtain⟨h2,e2,em,U,o2⟩:=zI (it:=⟨f,[(no,f)]⟩) (λh' s' ai G=>by
        intro p hp
        have:p=(no,f):=by simpa using hp
        subst this
        exact(G.mv no (aE B) λz=>Z (z▸hq)).trans B) bd hq C wk f _ _ _ l s X (Rps.fq X ro) o0 W S
       have P:=sF.ok (FM U bd hq C o2);rw[ed]at P;obtain⟨v,h3,e3,kb,u,_,rz,_⟩:=P;have R:=U.kb y kb u;have run:dS [.int (k:Int),.loc no] h=.ok v h3:=by
        unfold dS;rw[fG (by rfl)];unfold pq;rw[show bq 11 [.int (k:Int),.loc no]=[J (.int (k:Int)),J (.loc no),Y,Y,Y,Y,Y,Y,Y,Y,Y]from rfl];have c2:bS 2 (bV 1 [0] (dP (ag (ah 0) hG)) (mh 0) n_ (bV 1 [] (dP (ag (ah 1) hG)) (mh 0) n_ Jn)) [J (.int (k:Int)),J (.loc no),Y,Y,Y,Y,Y,Y,Y,Y,Y] h=.nx (sE (.int (k:Int)) (.loc no) h.length ⟨Y,Y,Y,Y,Y,Y,Y,Y⟩) l:=by rw[mJ,j0,Il (n:=k) (h1:=h) rfl (by ext),Out.bind_ok];refine(congrArg (λz:Out Unit=>(z.bind _).go _ _) e1).trans ?_;rfl
        rw[dX,c2,MM.aw,dX,jp];have c3:dY (ah 1) (sE (.int (k:Int)) (.loc no) h.length ⟨Y,Y,Y,Y,Y,Y,Y,Y⟩) l=.ok ⟨f,[(no,f)]⟩ l:=by rw[Dz];show qx (.loc no) l=_;exact zj ((W.mv no (aE B) λz=>Z (z▸hq)).trans B)
        rw[c3,aq];refine(congrArg (λz:SOut=>(z.then _).fin) em).trans ?_;rw[MM.aw,vw,e3];rfl
       refine⟨v,h3,run,⟨R.len,λj E nq=>R.mv j E nq⟩,u,Rp.fq fd (rz rfl),λ_ kk al e=>?_⟩;rw[e]at fd;cases kk<;>simp[dl,flat]at fd
      .trivial
     .trivial
    .trivial
   .trivial
  .trivial
def jJ:Xd [2]:=(aH (gZ 2 (dH a_))
 (aH (iH (bU CN (ab (aa 0) a_)) (ki 3) (aH (bc 4 (ao cN (ab (aa 1) (ab (aa 3) a_))))
 (B2 tx 2 (ab (nz cc (ab (aU 1 [3,0,4] (bU CN (ab (aa 0) a_)) (ws':=[]) (ki 0) (s_ (xB (ac tu (aa 0) (aa 1))) (xB (ac (BM T) (aa 0) (aa 3)))) (aO (ab (aa 0) (ab (ac h_ (dH (ab (aO (ab (r_ eM (xC (.int 1))) (ab (xC (.int 1)) a_))) (ab (aO (ab (nz qw (ab (xC (.int 1)) (ab (aa 2) a_))) (ab (xC (.int 1)) a_))) a_))) (nz lC (ab (ac tu (aa 0) (aa 1)) a_))) a_)))) a_)) a_))))
 (aK (aO (ab (aa 0) (ab (nz cc (ab (aa 2) a_)) a_))))))
def jw:Fn:=bp 5 2 jJ
def A9{a:TU}{s:d_}(h:a.length=2):jw.p a s=(jJ.p (jn 5 a) s).fin:=aR h
def gp:Xd []:=(aH (bc 1 (ao iN (ab (aa 0) a_)))
 (aH (bc 2 (ao ip (ab (aa 0) (ab (aa 1) (ab (ac bX (ac bX (xC (.int 1)) (ao cL (ab (aa 0) (ab (xC (.int 4)) a_)))) (ac bE (xC (.int 2)) (nz lC (ab (ac tu (aa 1) (xC (.int 12))) a_)))) a_)))))
 (aH (bc 3 (ao f8 (ab (aa 0) (ab (aa 1) a_))))
 (aH (bc 4 (nz xn (ab (aa 3) a_)))
 (aH (bc 5 (ao gD (ab (aO (ab (aa 1) (ab (aa 2) a_))) a_)))
 (aH (ti (bn (xB (ao jS (ab (aa 5) (ab (ao jw (ab (aa 1) (ab (aa 2) a_))) a_))))) (aK (xC (.bl T))) iw)
 (aH (bc 6 (ao ir (ab (aa 5) (ab (aa 4) a_))))
 (aH (ti (s_ (xB (ac wo (aa 4) (aa 3))) (bn (xB (ao d7 (ab (aa 6) (ab (aa 3) a_)))))) (aK (xC (.bl T))) iw)
 (aH (iH (bU CN (ab (aa 1) a_)) (ki 7) (aH (bc 8 (nz dU (ab (ao dI (ab (aa 2) (ab (aa 3) (ab (aa 7) a_)))) a_)))
 (ti (s_ (xB (ac wo (aU 2 [] (bo (ac h_ (ac h_ (aa 6) (aa 7)) (xC (.int 2)))) (ws':=[]) (Aa (qa (ki 0) (qa (ki 1) z_)) 2) n3 (aa 0)) (aa 8))) (xB (ac wo (aU 2 [] (bo (ac h_ (ac h_ (aa 6) (aa 7)) (xC (.int 3)))) (ws':=[]) (Aa (qa (ki 0) (qa (ki 1) z_)) 2) n3 (aa 0)) (aa 8)))) (aK (xC (.bl T))) iw)))
 (aK (ac tu (ao fM (ab (aa 1) (ab (aa 6) a_))) (aa 5))))))))))))
def dJ:Fn:=bp 9 1 gp
def xy{a:TU}{s:d_}(h:a.length=1):dJ.p a s=(gp.p (jn 9 a) s).fin:=aR h
def CD:nw:=(cR (qr BV (ag (bV 1 [0] (dP (ag (qr BD (ag (mC (.int 1)) (ag (qr zT (ag (qr qp (ag (ah 0) hG)) (ag (mC (.int 8)) hG))) hG))) hG)) (mh 0) n_ (eX dJ.m (ag (eX hV (ag (ah 1) (ag (ah 0) hG))) hG))) hG)))
def B3:TL->MH->TD:=cB 1 1 CD
abbrev lW:=dJ.m
end
end Law
namespace Law
open MM PU SetT SortT
open L2 (wC ng iG)
set_option maxHeartbeats 1000000
def kB{lo:Int}{c:Nat}:(cP lo c).length=c:=by simp[cP]
def im{c i:Nat}{x:D}(h:(cP 0 c)[i]?=J x):x=.int (i:Int)/\i<c:=by unfold cP at h;rw[qo,As]at h;obtain⟨k,f,rfl⟩:=h;obtain⟨a,b⟩:=o_.mp f;simp at a b;subst b;exact⟨by simp,a⟩
def jN{f:TR}{env:au}{s s1:d_}{o:Ea}{i:Nat}{a:Xs f}{j:f.contains i=I}{l:a.fz=I}{as ds ds':TU}{r:D}(e1:a.p env s=.ok as s1)(e2:env[i]?=J (J (.lst ds)))(e3:o.p ds as=J (r,ds')):(B2 o i a j l).p env s=.nx (env.set i (J (.lst ds'))) s1:=by rw[Mm,zq e1 e2 e3]
abbrev nD(t b:Int):D:=.tup [.int t,.int b]
def kN{a b:Int}(f:0<=a)(i:0<=b):Int.gcd b (a % b)=Int.gcd a b:=by obtain⟨m,rfl⟩:=RC f;obtain⟨n,rfl⟩:=RC i;show Nat.gcd n (m % n)=Nat.gcd m n;rw[Nat.gcd_comm m n,Nat.gcd_rec n m,Nat.gcd_comm]
def ud{a b:Int}(f:0<b):nM.p (.int a) (.int b)=J (.int (a % b)):=by rw[Ei (by ext),NJ _ (by ext)]
def tJ{a b:Int}(f:b≠0):Ef.p (.int a) (.int b)=J (.int (a.fdiv b)):=b_ f
def mM{a b:Int}(f:0<b):Ef.p (.int a) (.int b)=J (.int (a/b)):=by rw[tJ (by ext),Int.fdiv_eq_ediv_of_nonneg _ (by ext)]
def Jo{a:Int}:(if a<0 then -a else a)=(a.natAbs:Int):=by split<;>ext
def x9{a:Int}:qu.p [.int a]=J (.int (a.natAbs:Int)):=by show J (D.int (if a<0 then -a else a))=_;rw[Jo]
def xv{a:TR}{N:Nat}{t:Xt a}{b:Xd a}(f:∀{Z h n},bP t.m b.m n Z h≠.bad->Hj t.m b.m Z h=bP t.m b.m n Z h){env:au}{s:d_}:(J_ N t b f).p env s=cA t.p b.p N env s:=rfl
def tP{b r:Int}(a:0<r)(l:r<b):0<=b % r/\b % r<r/\2*(b % r)<b:=by
 have y:=KC b (show r≠0 by ext);have u:=Ku b a;have i:=Int.mul_ediv_add_emod b r;have f:1<=b/r:=by rw[Int.le_ediv_iff_mul_le a];ext
 have j:r*1<=r*(b/r):=Int.mul_le_mul_of_nonneg_left f (by ext);ext
def eN{a:Int}(h:0<=a):((Int.gcd a 0:Nat):Int)=a:=by rw[Int.gcd_zero_right];ext
abbrev EJ:Xt []:=xB (ac Kb (aa 3) (xC (.int 0)))
abbrev EK:Xd []:=qj 2 3 (ab (aa 3) (ab (ac nM (aa 2) (aa 3)) a_))
def Nl{x y:Th}{a b:Int}{n:Nat}{s:d_}(f:0<b):cA EJ.p EK.p (n+1) [x,y,J (.int a),J (.int b)] s=cA EJ.p EK.p n [x,y,J (.int b),J (.int (a % b))] s:=by rw[cA];simp[ud f,f,PR.bl]
def Jp{x y:Th}{a:Int}{n:Nat}{s:d_}:cA EJ.p EK.p (n+1) [x,y,J (.int a),J (.int 0)] s=.nx [x,y,J (.int a),J (.int 0)] s:=by rw[cA];simp[PR.bl]
def EL{x y:Th}{s:d_}:∀(k n:Nat)(a b:Int),0<=a->0<=b->b<2^k->2*k+1<=n->cA EJ.p EK.p n [x,y,J (.int a),J (.int b)] s=.nx [x,y,J (.int (Int.gcd a b)),J (.int 0)] s:=by
 intro k
 induction k with
 |zero =>
  intro n a b j i u F;obtain⟨m,rfl⟩:∃m,n=m+1:=⟨n-1,by ext⟩
  have:b=0:=by simp at u;ext
  subst this;rw[Jp,eN j]
 |succ k E =>
  intro n a b j i u F;obtain⟨m,rfl⟩:∃m,n=m+1+1:=⟨n-2,by ext⟩;by_cases e:b=0
  .subst e;rw[Jp,eN j]
  .have f:0<b:=by ext
   rw[Nl f,<-kN j i];have l:=KC a e;have z:=Ku a f;generalize a % b=r at l z ⊢;by_cases B:r=0
   .subst B;rw[Jp,eN i]
   .obtain⟨C,G,H⟩:=tP (b:=b) (r:=r) (by ext) z;rw[Nl (by ext),<-kN i l];refine E m r (b % r) l C ?_ (by ext);rw[Int.pow_succ]at u;ext
abbrev qD(q:Rat):D:=nD q.num (q.den:Int)
def sz(q:Rat):Nat:=max (q.num.natAbs.log2+1) (q.den.log2+1)
def xL(n:Nat):n<2^(n.log2+1):=Nat.lt_log2_self
def bT(q:Rat):q.num.natAbs<2^sz q:=xj (xL _) (Nat.pow_le_pow_right (by decide) (Nat.le_max_left _ _))
def aY(q:Rat):q.den<2^sz q:=xj (xL _) (Nat.pow_le_pow_right (by decide) (Nat.le_max_right _ _))
def sW{n k:Nat}(a:0<k)(h:n<2^k):n.log2+1<=k:=by
 rcases OX n with e|e
 .subst e;simp only[Nat.log2_zero];ext
 .exact (Nat.log2_lt (by ext)).mpr h
def Nm{q:Rat}{k:Nat}(a:0<k)(f:q.num.natAbs<2^k)(i:q.den<2^k):sz q<=k:=Nat.max_le.mpr ⟨sW a f,sW a i⟩
def uC(q:Rat):0<sz q:=xj (Nat.succ_pos _) (Nat.le_max_left _ _)
def pZ(t:Int)(b:Nat)(a:b≠0):(Rat.divInt t b).num=t/(Nat.gcd t.natAbs b:Int)/\(Rat.divInt t b).den=b/Nat.gcd t.natAbs b:=by rw[Rat.divInt_ofNat];unfold mkRat;rw[dif_neg a,Rat.normalize_eq];exact⟨rfl,rfl⟩
def EM{t:Int}{g:Nat}:(t/(g:Int)).natAbs<=t.natAbs:=Int.natAbs_ediv_le_natAbs t g
def oN{t:Int}{b k:Nat}(j:b≠0)(a:0<k)(f:t.natAbs<2^k)(i:b<2^k):sz (Rat.divInt t b)<=k:=by
 obtain⟨e1,e2⟩:=pZ t b j;refine Nm a ?_ ?_
 .rw[e1];exact Nat.lt_of_le_of_lt EM f
 .rw[e2];exact Nat.lt_of_le_of_lt (Nat.div_le_self _ _) i
def mR(p q:Rat):p+q=Rat.divInt (p.num*q.den+q.num*p.den) ((p.den*q.den:Nat):Int):=by
 have:=Rat.divInt_add_divInt p.num q.num (d₁:=p.den) (d₂:=q.den) (by have:=p.den_nz;ext) (by have:=q.den_nz;ext)
 rw[Rat.num_divInt_den,Rat.num_divInt_den]at this;rw[this];push_cast;rfl
def jM(p q:Rat):p*q=Rat.divInt (p.num*q.num) ((p.den*q.den:Nat):Int):=by
 have:=Rat.divInt_mul_divInt p.num q.num (d₁:=p.den) (d₂:=q.den)
 rw[Rat.num_divInt_den,Rat.num_divInt_den]at this;rw[this];push_cast;rfl
def cS{a b j k:Nat}(f:a<2^j)(i:b<2^k):a*b<2^(j+k):=by rw[Nat.pow_add];exact O_ f i
def Jq{a b c d:Int}{j k:Nat}(i:a.natAbs<2^j)(l:b.natAbs<2^k)(u:c.natAbs<2^k)(f:d.natAbs<2^j):(a*b+c*d).natAbs<2^(j+k+1):=by have e1:=cS i l;have e2:=cS u f;have e3:=Int.natAbs_add_le (a*b) (c*d);rw[C2,C2]at e3;rw[Nat.add_comm k j]at e2;rw[Pp];ext
def Jr(p q:Rat):sz (p+q)<=sz p+sz q+1:=by
 rw[mR];refine oN (KD p.den_nz q.den_nz) (by ext) ?_ ?_
 .exact Jq (bT p) (by simpa using aY q) (bT q) (by simpa using aY p)
 .have:=cS (aY p) (aY q)
  rw[Pp];ext
def sY(p q:Rat):sz (p*q)<=sz p+sz q:=by rw[jM];refine oN (KD p.den_nz q.den_nz) (by have:=uC p;ext) ?_ (cS (aY p) (aY q));rw[C2];exact cS (bT p) (bT q)
def yq(p:Rat):sz (-p)=sz p:=by unfold sz;rw[Rat.neg_num,Rat.neg_den,Int.natAbs_neg]
local macro_rules | `(tactic| simp! [$a,*]) => `(tactic| simp only [$a,*, Pb, af, aj, ak, am])
local macro_rules | `(tactic| dsimp! [$a,*]) => `(tactic| simp only [$a,*, Pb, aj])
def nS{t:Int}{b k:Nat}{s:d_}(B:b≠0)(j:b<2^k)(C:k<=950000):ce.p [.int t,.int (b:Int)] s=.ok (qD (Rat.divInt t b)) s:=by
 obtain⟨e1,e2⟩:=pZ t b B;have f:((b:Nat):Int)<2^k:=by
  have:=Int.ofNat_lt.mpr j
  simpa using this
 have i:0<(Nat.gcd t.natAbs b:Int):=by
  have:0<Nat.gcd t.natAbs b:=Rx _ (by ext)
  ext
 rw[uO (by rfl)];unfold fh;have e0:jn 4 [D.int t,.int (b:Int)]=[J (.int t),J (.int (b:Int)),Y,Y]:=rfl;have q:=EL (x:=J (.int t)) (y:=J (.int (b:Int))) (s:=s) k 2000000 (t.natAbs:Int) ((b:Int).natAbs:Int) (by ext) (by ext) (by simpa using f) (by ext);rw[e0];simp![aD,IJ,bz,x9,Pf,Pg,y6,y4,PU.aw];rw[xv jt];refine(congrArg (λz:PS=>(z.then _).fin) q).trans ?_;rw[Int.gcd_natCast_natCast,Int.natAbs_natCast];have u:=mM (a:=t) i;have l:=mM (a:=(b:Int)) i;rw[qD,e1,e2];simp[PR.bl,show ¬(b:Int)<0 by ext,u,l]
def vq{a:Int}{k:Nat}(h:a.natAbs<2^k)(f:k<=1000000):Builtin.Int.intBits a<=2^20:=by
 unfold Builtin.Int.intBits;rcases OX k with e|e
 .subst e
  have:a.natAbs=0:=by simpa using h
  rw[this];split<;>simp
 .have:=sW e h
  split<;>ext
def b8{a b:Int}{j k:Nat}(i:a.natAbs<2^j)(l:b.natAbs<2^k)(u:j<=1000000:=by ext)(f:k<=1000000:=by ext):bE.p (.int a) (.int b)=J (.int (a*b)):=b_ (IntMulOk.of_bits (vq i u) (vq l f))
def z0{x y:D}:ng [x,y] 0=J x:=rfl
def z1{x y:D}:ng [x,y] 1=J y:=rfl
def Js{p q:Rat}{s:d_}(h:sz p+sz q<=900000):iO.p [qD p,qD q] s=.ok (qD (p+q)) s:=by
 have y:=bT p;have i:=aY p;have u:=bT q;have f:=aY q;rw[yT (by rfl)];unfold ie;rw[show jn 2 [qD p,qD q]=[J (qD p),J (qD q)]from rfl];have l:=nS (t:=p.num*q.den+q.num*p.den) (b:=p.den*q.den) (s:=s) (KD p.den_nz q.den_nz) (cS (aY p) (aY q)) (by ext);rw[<-mR,KG]at l
 simp![bt,aI,aB,bf,aL,mw,z0,z1,Pf,b8 (b:=(q.den:Int)) (k:=sz q) y (by simpa using f),b8 (b:=(p.den:Int)) (k:=sz p) u (by simpa using i),fK,l,Pg,PU.bB,b8 (a:=(p.den:Int)) (b:=(q.den:Int)) (j:=sz p) (k:=sz q) (by simpa using i) (by simpa using f)]
def EN{p q:Rat}{s:d_}(h:sz p+sz q<=900000):gw.p [qD p,qD q] s=.ok (qD (p*q)) s:=by have y:=bT p;have u:=aY p;have f:=bT q;have i:=aY q;rw[wG (by rfl)];unfold gz;rw[show jn 2 [qD p,qD q]=[J (qD p),J (qD q)]from rfl];have l:=nS (t:=p.num*q.num) (b:=p.den*q.den) (s:=s) (KD p.den_nz q.den_nz) (cS (aY p) (aY q)) (by ext);rw[<-jM,KG]at l;simp![bt,aI,aB,bf,aL,mw,z0,z1,Pf,b8 y f,b8 (a:=(p.den:Int)) (b:=(q.den:Int)) (j:=sz p) (k:=sz q) (by simpa using u) (by simpa using i),l,Pg,PU.bB]
abbrev OH:Xt []:=xB (ac wo (aa 1) (xC (.int 0)))
abbrev OI:Xd []:=(aH (bc 2 (ac nM (aa 0) (aa 1))) (aH (bc 0 (aa 1)) (bc 1 (aa 2))))
def SA{x:Th}{a b:Int}{n:Nat}{s:d_}(f:0<b):cA OH.p OI.p (n+1) [J (.int a),J (.int b),x] s=cA OH.p OI.p n [J (.int b),J (.int (a % b)),J (.int (a % b))] s:=by rw[cA];simp[ud f,PR.bl,show ¬b=0 by ext]
def Rn{x:Th}{a:Int}{n:Nat}{s:d_}:cA OH.p OI.p (n+1) [J (.int a),J (.int 0),x] s=.nx [J (.int a),J (.int 0),x] s:=by rw[cA];simp[PR.bl]
def Jt{s:d_}:∀(k n:Nat)(a b:Int)(x:Th),0<=a->0<=b->b<2^k->2*k+1<=n->∃C,cA OH.p OI.p n [J (.int a),J (.int b),x] s=.nx [J (.int (Int.gcd a b)),J (.int 0),C] s:=by
 intro k
 induction k with
 |zero =>
  intro n a b x j i u F;obtain⟨m,rfl⟩:∃m,n=m+1:=⟨n-1,by ext⟩
  have:b=0:=by simp at u;ext
  subst this;exact⟨x,by rw[Rn,eN j]⟩
 |succ k E =>
  intro n a b x j i u F;obtain⟨m,rfl⟩:∃m,n=m+1+1:=⟨n-2,by ext⟩;by_cases e:b=0
  .subst e;exact⟨x,by rw[Rn,eN j]⟩
  .have f:0<b:=by ext
   rw[SA f,<-kN j i];have l:=KC a e;have y:=Ku a f;generalize a % b=r at l y ⊢;by_cases z:r=0
   .subst z;exact⟨_,by rw[Rn,eN i]⟩
   .obtain⟨B,G,H⟩:=tP (b:=b) (r:=r) (by ext) y;rw[SA (by ext),<-kN i l];refine E m r (b % r) _ l B ?_ (by ext);rw[Int.pow_succ]at u;ext
def No{a k:Nat}(h:a<2^k):((a:Nat):Int)<2^k:=by
 have:=Int.ofNat_lt.mpr h
 simpa using this
def Ag{a b k:Nat}{s:d_}(f:b<2^k)(i:k<=950000):bZ.p [.int (a:Int),.int (b:Int)] s=.ok (.int (Nat.gcd a b:Int)) s:=by rw[lV (by rfl)];unfold b7;obtain⟨j,q⟩:=Jt (s:=s) k 2000000 (a:Int) (b:Int) Y (by ext) (by ext) (No f) (by ext);rw[show jn 3 [D.int (a:Int),.int (b:Int)]=[J (.int (a:Int)),J (.int (b:Int)),Y]from rfl,aD,xv jt];refine(congrArg (λz:PS=>(z.then _).fin) q).trans ?_;simp
def vI{i:Int}{s:d_}:cE.p [.int i] s=.ok (.bl I) s:=by rw[uR (by rfl)];unfold eW;have e1:(bh ["int"]).p (.int i)=J (.bl I):=rfl;have e2:(bh ["bool"]).p (.int i)=J (.bl T):=rfl;rw[show jn 1 [D.int i]=[J (.int i)]from rfl];dsimp![bt,mF,eD,e1,e2,Pf,PR.bl,if_true,v7,NY,Pg,PU.bB]
def Ju{t b:Int}(a:b≠0):Rat.divInt t b=Rat.divInt (if b<0 then -t else t) (b.natAbs:Nat):=by
 split
 .have:((b.natAbs:Nat):Int) = -b:=by ext
  rw[this];exact(Rat.neg_divInt_neg t b).symm
 .have:((b.natAbs:Nat):Int)=b:=by ext
  rw[this]
def yC{t:Int}{g:Nat}(f:0<g)(hd:(g:Int) ∣ t):t.fdiv (-(g:Int))=(-t)/(g:Int):=by
 obtain⟨c,rfl⟩:=hd;have a:(g:Int)≠0:=by ext
 have e1:((g:Int)*c).fdiv (-(g:Int)) = -c:=by rw[show(g:Int)*c=(-(g:Int))*(-c) by rw[Int.neg_mul_neg],Int.mul_fdiv_cancel_left _ (by ext)]
 rw[e1,<-Int.mul_neg,Int.mul_ediv_cancel_left _ a]
def fW{t b:Int}{k:Nat}{s:d_}(u:b≠0)(E:b.natAbs<2^k)(B:k<=950000):bw.p [.int t,.int b] s=.ok (qD (Rat.divInt t b)) s:=by
 have i:b.natAbs≠0:=by ext
 have y:0<Nat.gcd t.natAbs b.natAbs:=Rx _ (by ext);have C:=Ag (a:=t.natAbs) (s:=s) E B;rw[Ju u];obtain⟨e1,e2⟩:=pZ (if b<0 then -t else t) b.natAbs i;have F:(if b<0 then -t else t).natAbs=t.natAbs:=by split<;>simp
 rw[F]at e1 e2;rw[sV (by rfl)];unfold d4;rw[show jn 3 [D.int t,.int b]=[J (.int t),J (.int b),Y]from rfl];simp![aD,bF,fu,cq,bY,aI,vI,PR.bl,AA,n7,if_false,Pg,aX,PU.aw,aB,bf,aL,eQ,dg,Pf,decide_eq_false u,bM,bz,x9,C,y6,y4,IH];have H:(Nat.gcd t.natAbs b.natAbs:Int) ∣ t:=Int.ofNat_dvd_left.mpr (Nat.gcd_dvd_left _ _);have G:(Nat.gcd t.natAbs b.natAbs:Int) ∣ b:=Int.ofNat_dvd_left.mpr (Nat.gcd_dvd_right _ _);by_cases z:b<0
 .rw[decide_eq_true z];have l:Ef.p (.int t) (.int (-(Nat.gcd t.natAbs b.natAbs:Int)))=J (.int ((-t)/(Nat.gcd t.natAbs b.natAbs:Int))):=by rw[tJ (by ext),yC y H]
  have f:Ef.p (.int b) (.int (-(Nat.gcd t.natAbs b.natAbs:Int)))=J (.int ((-b)/(Nat.gcd t.natAbs b.natAbs:Int))):=by rw[tJ (by ext),yC y G]
  have e3:(-b:Int)=(b.natAbs:Nat):=by ext
  rw[qD,e1,e2,b_ z];have j:eM.p (.int (Nat.gcd t.natAbs b.natAbs:Int))=J (.int (-(Nat.gcd t.natAbs b.natAbs:Int))):=rfl;simp[l,f,e3,j]
 .rw[decide_eq_false z];have l:=mM (a:=t) (b:=(Nat.gcd t.natAbs b.natAbs:Int)) (by ext);have f:=mM (a:=b) (b:=(Nat.gcd t.natAbs b.natAbs:Int)) (by ext);have e3:((b.natAbs:Nat):Int)=b:=by ext
  rw[qD,e1,e2,e_ z];simp[l,f,e3]
def Np{p q:Rat}{s:d_}(h:sz p+sz q<=900000):d6.p [qD p,qD q] s=.ok (qD (p+q)) s:=by
 have l:=bT p;have i:=bT q;have dp:=aY p;have a:=aY q;have e1:bE.p (.int p.num) (.int (q.den:Int))=J (.int (p.num*q.den)):=b8 (j:=sz p) (k:=sz q) l (by simpa using a);have e2:bE.p (.int q.num) (.int (p.den:Int))=J (.int (q.num*p.den)):=b8 (j:=sz q) (k:=sz p) i (by simpa using dp);have e3:bE.p (.int (p.den:Int)) (.int (q.den:Int))=J (.int ((p.den:Int)*q.den)):=b8 (j:=sz p) (k:=sz q) (by simpa using dp) (by simpa using a);have f:((p.den:Int)*q.den)≠0:=KH (by have:=p.den_nz;ext) (by have:=q.den_nz;ext);have dl:((p.den:Int)*q.den).natAbs<2^(sz p+sz q):=by rw[C2];exact cS (by simpa using dp) (by simpa using a)
 have u:=fW (t:=p.num*q.den+q.num*p.den) (s:=s) f dl (by ext);rw[Ez (by rfl)];unfold k7;rw[show jn 2 [qD p,qD q]=[J (qD p),J (qD q)]from rfl];simp![bt,aI,aB,bf,aL,mw,z0,z1,Pf,e1,e2,e3,fK,u,Pg,PU.bB];rw[mR p q,KG]
def Jv{p q:Rat}{s:d_}(h:sz p+sz q<=900000):dy.p [qD p,qD q] s=.ok (qD (p*q)) s:=by
 have l:=bT p;have i:=bT q;have dp:=aY p;have a:=aY q;have e1:bE.p (.int p.num) (.int q.num)=J (.int (p.num*q.num)):=b8 (j:=sz p) (k:=sz q) l i;have e3:bE.p (.int (p.den:Int)) (.int (q.den:Int))=J (.int ((p.den:Int)*q.den)):=b8 (j:=sz p) (k:=sz q) (by simpa using dp) (by simpa using a);have f:((p.den:Int)*q.den)≠0:=KH (by have:=p.den_nz;ext) (by have:=q.den_nz;ext);have dl:((p.den:Int)*q.den).natAbs<2^(sz p+sz q):=by rw[C2];exact cS (by simpa using dp) (by simpa using a)
 have u:=fW (t:=p.num*q.num) (s:=s) f dl (by ext);rw[zJ (by rfl)];unfold jy;rw[show jn 2 [qD p,qD q]=[J (qD p),J (qD q)]from rfl];simp![bt,aI,aB,bf,aL,mw,z0,z1,Pf,e1,e3,u,Pg,PU.bB];rw[jM p q,KG]
def EO(p q:Rat):p-q=Rat.divInt (p.num*q.den-q.num*p.den) ((p.den*q.den:Nat):Int):=by rw[Rat.sub_eq_add_neg,mR,Rat.neg_num,Rat.neg_den];congr 1;rw[Int.neg_mul,Int.sub_eq_add_neg]
def Jw{p q:Rat}{s:d_}(h:sz p+sz q<=900000):jG.p [qD p,qD q] s=.ok (qD (p-q)) s:=by
 have l:=bT p;have i:=bT q;have dp:=aY p;have a:=aY q;have e1:bE.p (.int p.num) (.int (q.den:Int))=J (.int (p.num*q.den)):=b8 (j:=sz p) (k:=sz q) l (by simpa using a);have e2:bE.p (.int q.num) (.int (p.den:Int))=J (.int (q.num*p.den)):=b8 (j:=sz q) (k:=sz p) i (by simpa using dp);have e3:bE.p (.int (p.den:Int)) (.int (q.den:Int))=J (.int ((p.den:Int)*q.den)):=b8 (j:=sz p) (k:=sz q) (by simpa using dp) (by simpa using a);have f:((p.den:Int)*q.den)≠0:=KH (by have:=p.den_nz;ext) (by have:=q.den_nz;ext);have dl:((p.den:Int)*q.den).natAbs<2^(sz p+sz q):=by rw[C2];exact cS (by simpa using dp) (by simpa using a)
 have u:=fW (t:=p.num*q.den-q.num*p.den) (s:=s) f dl (by ext);rw[zV (by rfl)];unfold jq;rw[show jn 2 [qD p,qD q]=[J (qD p),J (qD q)]from rfl];simp![bt,aI,aB,bf,aL,mw,z0,z1,Pf,e1,e2,e3,Eh,u,Pg,PU.bB];rw[EO p q,KG]
def EQ{p q:Rat}:p/q=Rat.divInt (p.num*q.den) ((p.den:Int)*q.num):=by rw[Rat.div_def,Rat.inv_def,jM];have a:=Rat.num_divInt_den p;have e:Rat.divInt p.num p.den*Rat.divInt (q.den:Int) q.num=Rat.divInt (p.num*q.den) ((p.den:Int)*q.num):=Rat.divInt_mul_divInt ..;rw[<-jM,<-e,a]
def Nq{p q:Rat}{s:d_}(a:q≠0)(h:sz p+sz q<=900000):ij.p [qD p,qD q] s=.ok (qD (p/q)) s:=by
 have u:=bT p;have f:=bT q;have dp:=aY p;have l:=aY q;have e1:bE.p (.int p.num) (.int (q.den:Int))=J (.int (p.num*q.den)):=b8 (j:=sz p) (k:=sz q) u (by simpa using l);have e3:bE.p (.int (p.den:Int)) (.int q.num)=J (.int ((p.den:Int)*q.num)):=b8 (j:=sz p) (k:=sz q) (by simpa using dp) f;have n0:q.num≠0:=λz=>a (Rat.num_eq_zero.mp z);have i:((p.den:Int)*q.num)≠0:=KH (by have:=p.den_nz;ext) n0;have dl:((p.den:Int)*q.num).natAbs<2^(sz p+sz q):=by rw[C2];exact cS (by simpa using dp) f
 have y:=fW (t:=p.num*q.den) (s:=s) i dl (by ext);rw[EA (by rfl)];unfold lU;rw[show jn 2 [qD p,qD q]=[J (qD p),J (qD q)]from rfl];simp![bt,aI,aB,bf,aL,mw,z0,z1,Pf,e1,e3,y,Pg,PU.bB];rw[EQ]
def Jx{s:d_}:∃(n:Nat)(M:d_),iN.p [.pen] s=.ok (.int (n:Int)) M/\(n<=6\/n=12):=by
 obtain⟨a,E,Q,S,G⟩:=lD (s:=s) (size:=16) (by decide) (by decide);rw[yR (by rfl)];unfold iK;rw[show jn 1 [D.pen]=[J .pen]from rfl,aD,bF];dsimp![bY,aB,aI,af,bf,aL,ak,G,eQ,dg,n7,if_false,Pf,Pl,Pg,decide_eq_true_eq];by_cases z:a=15
 .exact⟨12,E,by rw[b_ z];rfl,.inr rfl⟩
 .obtain⟨b,O,L,R,P⟩:=lD (s:=E) (size:=8) (by decide) (by decide);have H:∀{f B y u l i j C:D}{s:d_},(if [f,B,y,u,l,i,j,C].length<=100000 then PR.ok (D.lst [f,B,y,u,l,i,j,C]) s else .bad)=.ok (.lst [f,B,y,u,l,i,j,C]) s:=λ{f B y u l i j C s}=>b_ (by simp);obtain⟨m,F,em⟩:∃m:Nat,m<=6/\ng [D.int 4,.int 3,.int 5,.int 2,.int 6,.int 1,.int 0,.int 3] b=J (.int (m:Int)):=by
   obtain⟨k,rfl⟩:=ju L
   have:k<8:=by ext
   match k,this with
   |0,_=>exact⟨4,by decide,rfl⟩
   |1,_=>exact⟨3,by decide,rfl⟩
   |2,_=>exact⟨5,by decide,rfl⟩
   |3,_=>exact⟨2,by decide,rfl⟩
   |4,_=>exact⟨6,by decide,rfl⟩
   |5,_=>exact⟨1,by decide,rfl⟩
   |6,_=>exact⟨0,by decide,rfl⟩
   |7,_=>exact⟨3,by decide,rfl⟩
  refine⟨m,O,?_,.inl F⟩;rw[e_ z,aX,PU.aw];dsimp![bt,aB,gu,af,aI,bf,aL,ak,H,P,jW,em,Pf,Pg,PU.bB]
structure On(n:Nat)(ns:TR):Prop where
 n12:n<=12
 pm:ns.Perm (List.range n)
def On.len{n:Nat}{ns:TR}(o:On n ns):ns.length=n:=by have:=o.pm.length_eq;simpa using this
def On.nd{n:Nat}{ns:TR}(o:On n ns):ns.Nodup:=o.pm.symm.nodup NT
def On.lt{n:Nat}{ns:TR}(o:On n ns):∀x∈ns,x<n:=λx a=>by simpa using o.pm.mem_iff.mp a
abbrev inD'(x:Nat):D:=.int (x:Int)
abbrev li(ns:TR):D:=.lst (ns.map inD')
def ER{n:Nat}{s:d_}(F:n<=12):∃ns i,f8.p [.pen,.int (n:Int)] s=.ok (li ns) i/\On n ns:=by
 rw[xq (by rfl)];unfold gB;have e0:jn 4 [D.pen,.int (n:Int)]=[J .pen,J (.int (n:Int)),Y,Y]:=rfl;obtain⟨l,i,e,z,f,rfl,pm⟩:=fS (g:=(ki 3:Xg [2]).p) (b:=(B2 xE 2 (ab (ao cL (ab (aa 0) (ab (ac bX (aa 3) (xC (.int 1))) a_))) (ab (aa 3) a_)):Xd [2]).p)
  (λj env i=>∃z f,env=[J .pen,J (.int (n:Int)),J (li f),z]/\f.Perm (List.range j)) (cP 0 n) 0 [J .pen,J (.int (n:Int)),J (.lst []),Y] s ⟨Y,[],rfl,by simp⟩ (λj env i d ⟨z,f,y,pm⟩ hd=>by
   rw[AO]at pm ⊢;subst y;obtain⟨rfl,G⟩:=im hd;have B:f.length=j:=by have:=pm.length_eq;simpa using this
   obtain⟨d,u,C,H,E⟩:=lD (s:=i) (size:=(j:Int)+1) (by ext) (by ext);obtain⟨k,rfl⟩:=ju C;refine⟨[J .pen,J (.int (n:Int)),J (li f),J (.int (j:Int))],[J .pen,J (.int (n:Int)),J (li (f.take k++j::f.drop k)),J (.int (j:Int))],u,rfl,?_,_,f.take k++j::f.drop k,rfl,?_⟩
   .rw[jN (s1:=u) (as:=[.int (k:Int),.int (j:Int)]) (ds:=f.map inD') (ds':=(f.take k++j::f.drop k).map inD') (r:=.non) (by simp[E]) rfl (by
     rw[zH (by simp;ext) (by simp;ext)];simp)]
    rfl
   .have:(f.take k++j::f.drop k).Perm (j::f):=by
     have:=O5 (a:=j) (l₁:=f.take k) (l₂:=f.drop k)
     rwa [NL]at this
    refine this.trans ((pm.cons _).trans ?_);rw[Ph]
    exact(List.perm_append_singleton _ _).symm)
 rw[kB,AO]at pm;refine⟨f,i,?_,F,pm⟩;have st:(gZ 2 (dH a_):Xd [2]).p [J .pen,J (.int (n:Int)),Y,Y] s=.nx [J .pen,J (.int (n:Int)),J (.lst []),Y] s:=by simp[lI]
 rw[e0,aD,st,PU.aw,aD,gf,eZ,af];dsimp![am,ak];rw[m8 (by ext),BK,Pf,Pg,e,PU.aw,Eg (d:=li f) rfl,PU.bB]
def tr(n:Nat)(ns:TR)(k:Nat):TR:=(List.range n).filter λx=>decide (x∈ns.drop (k+1))
def cp{n:Nat}{ns:TR}{k x:Nat}(o:On n ns):x∈tr n ns k↔x∈ns.drop (k+1):=by unfold tr;rw[y_,decide_eq_true_eq,BQ];exact⟨λh=>h.2,λh=>⟨o.lt x (Ko h),h⟩⟩
def oq{n:Nat}{ns:TR}{k:Nat}(o:On n ns):(tr n ns k).Perm (ns.drop (k+1)) :=
 (OO (NT.filter _) (o.nd.sublist (F7 _ _))).mpr λx=>cp o
def pS{n:Nat}{ns:TR}{k:Nat}:(tr n ns k).Pairwise (·<·):=Kl.filter _
def lv{ns:TN}(a:ns.length<64):dU.p [.lst (ns.map .int)]=J (.lst ((gJ ns).map .int)):=by
 have e:∀ns:TN,i9 (ns.map .int)=J ns:=λns=>by
  induction ns with
  |nil=>rfl
  |cons i k f=>rw[nc,i9,f];rfl
 show(sA (ns.map .int)).map _=_;simp only[sA,e];rw[b_ a];rfl
def ES{n:Nat}{ns:TR}{k:Nat}(o:On n ns)(i:k<n):dU.p [.lst (fC (ns.map inD') (J ((k:Int)+1)) Y)]=J (li (tr n ns k)):=by
 have f:=o.len;have n12:=o.n12;have e1:fC (ns.map inD') (J ((k:Int)+1)) Y=((ns.drop (k+1)).map λ(x:Nat)=>(x:Int)).map .int:=by unfold fC;rw[HT.jR,wv,show(k:Int)+1=((k+1:Nat):Int) by ext,HT.mY,Kz (by ext),q7,<-KJ];exact CV (by simp)
 rw[e1,lv (by simp;ext)];have e2:gJ ((ns.drop (k+1)).map λ(x:Nat)=>(x:Int))=(tr n ns k).map λ(x:Nat)=>(x:Int) :=
  fX (ko _) (pS.map (S:=(·<=·)) _ (λa b h=>by ext)) ((gF _).trans ((oq o).symm.map _))
 rw[e2,q7];rfl
def lF{α:Type}{g:D->au->Option au}{t:au->d_->PR Bool}{e:au->d_->PR D}{s:d_}(S:au->Prop)(item i:α->D)(p:α->Bool):∀(l:List α)(env:au),S env ->
  (∀x∈l,∀env,S env->∃a,g (item x) env=J a/\S a/\t a s=.ok (p x) s/\(p x=I->e a s=.ok (i x) s))->dB g t e (l.map item) env s=.ok ((l.filter p).map i) s
 |[],env,z,f=>rfl
 |x::l,env,z,f=>by
  obtain⟨a,e1,u,e2,e3⟩:=f x (by simp) env z;have B:=lF S item i p l a u λy C=>f y (l7 _ C);rw[nc,dB,e1];dsimp only;rw[e2]
  cases j:p x with
  |true=>simp only[Pb,if_true,e3 j,B,OS j,nc]
  |false=>simp only[Pb,n7,if_false,B,OT (show ¬p x=I by simp[j])]
def lm{α:Type}{ws ws':TR}{env:au}{s s0:d_}{fm:TR}{i:Xi ws}{t:Xt ws'}{e:Xe ws'}{l:List α}(item a:α->D)(p:α->Bool)(F:i.p env s0=.ok (l.map item) s)(E:l.length<=100000)(f:∀x∈l,t.p (J (item x)::fm.map λi=>(env[i]?).getD Y) s=.ok (p x) s/\(p x=I->e.p (J (item x)::fm.map λi=>(env[i]?).getD Y) s=.ok (a x) s))(u:ws'.contains 0=T:=by exact ys rfl)(B:B1 1 fm ws=ws':=by exact ys rfl)(j:e.fz=I:=by exact ys rfl):
  (aU 1 fm i (ki 0 u) t e B j).p env s0=.ok (.lst ((l.filter p).map a)) s:=by
 rw[nj,F,Pb,b_ (by simpa using E)]
 have:=lF (g:=(ki 0 u:Xg ws').p) (t:=t.p) (e:=e.p) (s:=s) (λv=>∃z,v=z::fm.map λi=>(env[i]?).getD Y) item a p l (wm 1 fm env) ⟨Y,rfl⟩ λx C y ⟨z,j⟩=>by
  subst j;exact⟨_,rfl,⟨J (item x),rfl⟩,f x C⟩
 rw[this]
def zw{α:Type}{ws ws':TR}{env:au}{s s0:d_}{fm:TR}{i:Xi ws}{t:Xt ws'}{e:Xe ws'}{l:List α}(A B:α->D)(a:α->D)(p:α->Bool)(L:i.p env s0=.ok (l.map λx=>.tup [A x,B x]) s)(H:l.length<=100000)(f:∀x∈l,t.p (J (A x)::J (B x)::fm.map λi=>(env[i]?).getD Y) s=.ok (p x) s/\(p x=I->e.p (J (A x)::J (B x)::fm.map λi=>(env[i]?).getD Y) s=.ok (a x) s))(u:ws'.contains 0=T:=by exact ys rfl)(C:ws'.contains 1=T:=by exact ys rfl)(F:B1 2 fm ws=ws':=by exact ys rfl)(j:e.fz=I:=by exact ys rfl):
  (aU 2 fm i (Aa (qa (ki 0 u) (qa (ki 1 C) z_)) 2) t e F j).p env s0=.ok (.lst ((l.filter p).map a)) s:=by
 rw[nj,L,Pb,b_ (by simpa using H)]
 have:=lF (g:=(Aa (qa (ki 0 u) (qa (ki 1 C) z_)) 2:Xg ws').p) (t:=t.p) (e:=e.p) (s:=s) (λv=>∃y z,v=y::z::fm.map λi=>(env[i]?).getD Y) (λx=>.tup [A x,B x]) a p l (wm 2 fm env) ⟨Y,Y,rfl⟩ λx G E ⟨y,z,j⟩=>by
  subst j;exact⟨_,rfl,⟨J (A x),J (B x),rfl⟩,f x G⟩
 rw[this]
abbrev Pt:=Nat×Rat
abbrev ln(p:Pt):D:=.tup [.int (p.1:Int),qD p.2]
structure Wk where
 (v:Nat) (p:Rat) (r c:List Pt)
abbrev oh(w:Wk):D:=.tup [.int (w.v:Int),qD w.p,.tup (w.r.map ln),.tup (w.c.map ln)]
def iA(g:Nat->Nat->Rat)(i j:Nat)(q:Rat):Nat->Nat->Rat:=λa b=>if a=i/\b=j then q else g a b
def aZ(n:Nat)(g:Nat->Nat->Rat):List Rd:=(List.range n).map λi=>(Y,(List.range n).map λj=>qD (g i j))
def sD{n i:Nat}{g:Nat->Nat->Rat}(a:i<n):(aZ n g)[i]?=J (Y,(List.range n).map λj=>qD (g i j)):=by unfold aZ;simp[a]
def A1{n i j:Nat}{g:Nat->Nat->Rat}{q:Rat}(u:i<n)(y:j<n):(aZ n g).set i (Y,((List.range n).map λj=>qD (g i j)).set j (qD q))=aZ n (iA g i j q):=by
 unfold aZ;apply F8;intro a;by_cases f:a<n
 .by_cases e:i=a
  .subst e;rw[x6 (by simpa using u)];simp only[qo,Ks f,Fh,Option.some.injEq,Prod.mk.injEq,true_and];apply F8;intro b;by_cases l:b<n
   .by_cases e:j=b
    .subst e;rw[x6 (by simpa using y)];simp[l,iA]
    .rw[pu e];simp[l,iA,Ne.symm e]
   .rw[Ce (by simp;ext),Ce (by simp;ext)]
  .rw[pu e];simp only[qo,Ks f,Fh,Option.some.injEq,Prod.mk.injEq,true_and];refine CH λb _=>?_;simp[iA,Ne.symm e]
 .rw[Ce (by simp;ext),Ce (by simp;ext)]
def ET{n i:Nat}{g:Nat->Nat->Rat}(a:i<n):h_.p (fe (aZ n g)) (.int (i:Int))=J (.lst ((List.range n).map λj=>qD (g i j))):=by show ng ((aZ n g).map λr=>dl r.1 r.2) (i:Int)=_;exact L2.cC (by rw[qo,sD a];rfl)
def Nr{n i j:Nat}{wk:D}{g:Nat->Nat->Rat}{f x:Rat}{c:C8}{s:d_}(a:i<n)(l:j<n)(e4:c.c4=J (inD' i))(e5:c.c5=J (qD f))(u:c.c6=J (inD' j))(y:c.c7=J (qD x))(B:sz f+sz x<=900000)(E:sz (g i j)+sz (f*x)<=900000):
  oK (.int (n:Int)) wk (aZ n g) c s=J (aZ n (iA g i j (g i j+f*x)),s):=by
 have C:ng ((List.range n).map λj=>qD (g i j)) (j:Int)=J (qD (g i j)):=L2.cC (by simp[l]);have H:=EN (p:=f) (q:=x) (s:=s) B;have G:=Js (p:=g i j) (q:=f*x) (s:=s) E;have z:t6.p (mE (aZ n g) (.int (n:Int)) wk c) s=.ok (qD (g i j+f*x)) s:=by unfold t6 mE;rw[e4,e5,u,y];simp![aI,aB,ET a,Pf,jW,C,H,G]
 have L:wC (aZ n g).length (i:Int)=J i:=by unfold aZ;simp only[wv,NP];exact MM.jH a
 have F:wC ((List.range n).map λj=>qD (g i j)).length (j:Int)=J j:=by simp only[wv,NP];exact MM.jH l
 unfold oK;rw[z,e4,u];dsimp only;rw[L];dsimp only;rw[sD a];dsimp only;rw[F];dsimp only;rw[b_ (by rfl:flat (qD (g i j+f*x))=I),A1 a l]
def fy(g:Nat->Nat->Rat)(i:Nat)(f:Rat)(a:List Pt):Nat->Nat->Rat:=a.foldl (λg p=>iA g i p.1 (g i p.1+f*p.2)) g
def oE(g:Nat->Nat->Rat)(a rs:List Pt):Nat->Nat->Rat:=a.foldl (λg p=>fy g p.1 p.2 rs) g
def re{f:Rat}{i a b:Nat}(h:a≠i):∀{j:List Pt}{g:Nat->Nat->Rat},fy g i f j a b=g a b
 |[],g=>rfl
 |p::j,g=>by
  show fy (iA g i p.1 (g i p.1+f*p.2)) i f j a b=_;rw[re h];exact e_ λz=>h z.1
def FN{n i:Nat}{wk:D}{f:Rat}{s:d_}(u:i<n):∀(a:List Pt)(g:Nat->Nat->Rat)(c:C8),(∀p∈a,p.1<n/\sz f+sz p.2<=900000/\sz (g i p.1)+sz (f*p.2)<=900000)->(a.map (·.1)).Nodup->c.c4=J (inD' i)->c.c5=J (qD f) ->
  ∃l,CQ (.int (n:Int)) wk (a.map ln) (aZ n g) c s=J (aZ n (fy g i f a),l,s)
 |[],g,c,j,nd,e4,e5=>⟨c,rfl⟩
 |p::a,g,c,j,nd,e4,e5=>by
  obtain⟨G,E,C⟩:=j p (by simp);rw[nc,xk]at nd;have e:=Nr (wk:=wk) (c:={ c with c6:=J (inD' p.1),c7:=J (qD p.2)}) (s:=s) u G e4 e5 rfl rfl E C
  obtain⟨l,e2⟩:=FN u a (iA g i p.1 (g i p.1+f*p.2)) { c with c6:=J (inD' p.1),c7:=J (qD p.2)} (λq y=>by
   obtain⟨F,H,B⟩:=j q (l7 _ y);refine⟨F,H,?_⟩;have ne:¬q.1=p.1:=λz=>nd.1 (z▸mm.mpr ⟨q,y,rfl⟩)
   have:iA g i p.1 (g i p.1+f*p.2) i q.1=g i q.1:=e_ λz=>ne z.2
   rw[this];exact B) nd.2 e4 e5
  refine⟨l,?_⟩;rw[nc,CQ,e];exact e2
def FO{n v:Nat}{wk:D}{p:Rat}{rs:List Pt}{s:d_}(u:(((v,p)::rs).map (·.1)).Nodup):∀(a:List Pt)(g:Nat->Nat->Rat)(c:C8),(a.map (·.1)).Nodup->(∀q∈a,q.1<n/\∀r∈(v,p)::rs,r.1<n/\sz q.2+sz r.2<=900000/\sz (g q.1 r.1)+sz (q.2*r.2)<=900000) ->
  ∃L,CT (.int (n:Int)) wk (.int (v:Int)) (qD p) (rs.map ln) (a.map ln) (aZ n g) c s=J (aZ n (oE g a ((v,p)::rs)),L,s)
 |[],g,c,nd,i=>⟨c,rfl⟩
 |q::a,g,c,nd,i=>by
  obtain⟨B,H⟩:=i q (by simp);rw[nc,xk]at nd;obtain⟨y,e1⟩:=FN (wk:=wk) (s:=s) (f:=q.2) B ((v,p)::rs) g { c with c4:=J (inD' q.1),c5:=J (qD q.2)} H u rfl rfl
  obtain⟨M,e2⟩:=FO u a (fy g q.1 q.2 ((v,p)::rs)) y nd.2 (λx l=>by
   obtain⟨F,P⟩:=i x (l7 _ l);refine⟨F,λr E=>?_⟩;obtain⟨C,G,O⟩:=P r E;refine⟨C,G,?_⟩;have ne:x.1≠q.1:=λz=>nd.1 (z▸mm.mpr ⟨x,l,rfl⟩)
   rw[re ne];exact O)
  refine⟨M,?_⟩;rw[nc,CT];have j:CQ (.int (n:Int)) wk (.tup [.int (v:Int),qD p]::rs.map ln) (aZ n g) { c with c4:=J (inD' q.1),c5:=J (qD q.2)} s=J (aZ n (fy g q.1 q.2 ((v,p)::rs)),y,s):=e1;rw[j];exact e2
def kG(g:Nat->Nat->Rat)(w:Wk):Nat->Nat->Rat:=oE g ((w.v,1)::w.c) ((w.v,w.p)::w.r)
structure SD(w:Wk):Prop where
 r:(w.v::w.r.map (·.1)).Nodup
 c:(w.v::w.c.map (·.1)).Nodup
structure S_(n:Nat)(g:Nat->Nat->Rat)(w:Wk):Prop where
 d:SD w
 lr:w.r.length<=12
 lc:w.c.length<=12
 ok:∀q∈(w.v,(1:Rat))::w.c,q.1<n/\∀r∈(w.v,w.p)::w.r,r.1<n/\sz q.2+sz r.2<=900000/\sz (g q.1 r.1)+sz (q.2*r.2)<=900000
def EU(n:Nat):List Wk->(Nat->Nat->Rat)->Prop
 |[],_=>True
 |w::a,g=>S_ n g w/\EU n a (kG g w)
def FP{n:Nat}{wk:D}{s:d_}:∀(a:List Wk)(g:Nat->Nat->Rat)(c:C8),EU n a g ->
  ∃u,EF (.int (n:Int)) wk (a.map oh) (aZ n g) c s=J (aZ n (a.foldl kG g),u,s)
 |[],g,c,j=>⟨c,rfl⟩
 |w::a,g,c,j=>by
  obtain⟨h,l⟩:=j;obtain⟨i,e1⟩:=FO (wk:=wk) (s:=s) (v:=w.v) (p:=w.p) (rs:=w.r) h.d.r ((w.v,1)::w.c) g { c with c0:=J (.int (w.v:Int)),c1:=J (qD w.p),c2:=J (.tup (w.r.map ln)),c3:=J (.tup (w.c.map ln))} h.d.c h.ok;obtain⟨y,e2⟩:=FP a (kG g w) i l;refine⟨y,?_⟩;rw[nc,EF,b_ ⟨by have:=h.lr;simp;ext,by have:=h.lc;simp;ext⟩];have f:CT (.int (n:Int)) wk (.int (w.v:Int)) (qD w.p) (w.r.map ln) (.tup [.int (w.v:Int),.tup [.int 1,.int 1]]::w.c.map ln) (aZ n g) { c with c0:=J (.int (w.v:Int)),c1:=J (qD w.p),c2:=J (.tup (w.r.map ln)),c3:=J (.tup (w.c.map ln))} s=J (aZ n (kG g w),i,s):=e1;rw[f];exact e2
def bO(n:Nat)(f:Nat->Rat):List Pt:=((List.range n).filter λj=>!decide (f j=0)).map λj=>(j,f j)
def x4(n:Nat)(g:Nat->Nat->Rat):D:=.tup [.int (n:Int),.tup ((List.range n).map λi=>.tup ((bO n (g i)).map ln))]
def ua{a:Bool}{p q:Rat}:Av a (qD p) (qD q)=J (.bl (if a then !decide (p=q)else decide (p=q))):=by
 have e:(p.num=q.num/\(p.den:Int)=q.den)↔p=q:=⟨λh=>Rat.ext h.1 (by ext),λh=>by subst h;exact⟨rfl,rfl⟩⟩
 have:PyData.eqvAll [PyData.int p.num,.int p.den] [.int q.num,.int q.den]=decide (p=q):=by rw[show PyData.eqvAll [PyData.int p.num,.int p.den] [.int q.num,.int q.den]=decide ([p.num,(p.den:Int)]=[q.num,(q.den:Int)])from jc [p.num,(p.den:Int)] [q.num,(q.den:Int)]];exact decide_eq_decide.mpr (by simpa using e)
 simp only[Av,qD,nD,py,BX,Fh];rw[b_ ⟨⟨by simp[w6,vv],by simp[w6,vv]⟩,by simp[SeqAt.shaped,PyData.canLay0,PyData.canLayAll0,PyData.depth,PyData.depthAll],by simp[SeqAt.shaped,PyData.canLay0,PyData.canLayAll0,PyData.depth,PyData.depthAll]⟩];simp only[PyData.eqv,this]
def fH:∀{a:TU},(∀d∈a,flat d=I)->f_ a=I
 |[],_=>rfl
 |d::a,h=>by
  simp only[f_,BA];exact⟨h d (by simp),fH λx f=>h x (l7 _ f)⟩
def nV(a:List Pt):f_ (a.map ln)=I:=fH λd hd=>by
 obtain⟨p,_,rfl⟩:=mm.mp hd;rfl
def vZ(w:Wk):flat (oh w)=I:=by simp[flat,f_,nV]
def EV{n:Nat}{g:Nat->Nat->Rat}:flat (x4 n g)=I:=by
 have:f_ ((List.range n).map λi=>D.tup ((bO n (g i)).map ln))=I:=fH λd hd=>by
  obtain⟨i,_,rfl⟩:=mm.mp hd;simp[flat,nV]
 simp[x4,flat,f_,this]
def Jy{n:Nat}{f:Nat->Rat}:bK ((List.range n).map λj=>qD (f j))=(List.range n).map λj=>.tup [inD' j,qD (f j)]:=by
 apply F8;intro i;unfold bK;rw[qo,Kq,qo,qo];by_cases h:i<n
 .simp[h]
 .simp[h]
def Ro{n:Nat}{z:D}{g:Nat->Nat->Rat}{c:C8}{s:d_}(F:n<=12):sF.p (mE (aZ n g) (.int (n:Int)) z c) s=.ok (x4 n g) s:=by
 have u:∀{x y:D}{s:d_},(if [x,y].length<=100000 then PR.ok (D.tup [x,y]) s else .bad)=.ok (.tup [x,y]) s:=λ{x y s}=>b_ (by simp);have inn:∀(f:Nat->Rat)(s:d_),(nz cc (ab (aU 2 [] (bU iE (ab (aa 0) a_)) (ws':=[]) (Aa (qa (ki 0) (qa (ki 1) z_)) 2) (xB (ac wo (aa 1) (aO (ab (xC (.int 0)) (ab (xC (.int 1)) a_))))) (aO (ab (aa 0) (ab (aa 1) a_)))) a_):Xe []).p [J (.lst ((List.range n).map λj=>qD (f j)))] s=.ok (.tup ((bO n f).map ln)) s:=λf s=>by
  have q:=zw (ws:=[]) (ws':=[]) (env:=[J (.lst ((List.range n).map λj=>qD (f j)))]) (s:=s) (s0:=s) (fm:=[]) (i:=bU iE (ab (aa 0) a_)) (t:=xB (ac wo (aa 1) (aO (ab (xC (.int 0)) (ab (xC (.int 1)) a_))))) (e:=aO (ab (aa 0) (ab (aa 1) a_))) (l:=List.range n) (λj=>inD' j) (λj=>qD (f j)) (λj=>ln (j,f j)) (λj=>!decide (f j=0)) (by
   dsimp![eZ,af,ak,Mq,Pf,Jy]) (by simp;ext) (λj E=>⟨by
    simp![bY,aB,cx,bf,aL,u,eV];rw[show(D.tup [.int 0,.int 1])=qD 0 from rfl,ua];rfl,λ_=>by
    simp![cx,u]⟩)
  rw[bz,af,q];simp only[Pb,ak,cU,Pf,bO,q7];rfl
 have a:=lm (ws:=[]) (ws':=[]) (env:=mE (aZ n g) (.int (n:Int)) z c) (s:=s) (s0:=s) (fm:=[]) (i:=bo (aa 2)) (t:=n3) (e:=(nz cc (ab (aU 2 [] (bU iE (ab (aa 0) a_)) (ws':=[]) (Aa (qa (ki 0) (qa (ki 1) z_)) 2) (xB (ac wo (aa 1) (aO (ab (xC (.int 0)) (ab (xC (.int 1)) a_))))) (aO (ab (aa 0) (ab (aa 1) a_)))) a_))) (l:=List.range n) (λi=>.lst ((List.range n).map λj=>qD (g i j))) (λi=>.tup ((bO n (g i)).map ln)) (λ_=>I) (by
  rw[eT];show(PR.ok (fe (aZ n g)) s).bind _=_;rw[Pb];show PR.of (J ((aZ n g).map λr=>dl r.1 r.2)) s=_;rw[Pf];unfold aZ
  rw[q7];rfl) (by simp;ext) (λi C=>⟨rfl,λ_=>inn (g i) s⟩)
 unfold sF;rw[cx,af];show(((PR.ok (D.int (n:Int)) s).bind _).bind _)=_;rw[Pb,af,bz,af,a];simp only[Pb,ak,cU,Pf,u];have B:(List.range n).filter (λ_=>I)=List.range n:=NO.mpr (by simp);rw[B];rfl
def Jz{n:Nat}{a:List Wk}{s:d_}(j:n<=12)(l:a.length<=12)(f:EU n a λ_ _=>0):fM.p [.int (n:Int),.lst (a.map oh)] s=.ok (x4 n (a.foldl kG λ_ _=>0)) s:=by
 obtain⟨c,e⟩:=FP (wk:=.lst (a.map oh)) (s:=s) a (λ_ _=>0) ⟨Y,Y,Y,Y,Y,Y,Y,Y⟩ f;have i:aZ n (λ_ _=>0)=List.replicate n (Y,List.replicate n (.tup [.int 0,.int 1])):=by unfold aZ;rw[List.map_const',List.map_const',NP];rfl
 have fl:f_ (a.map oh)=I:=fH λd hd=>by
  obtain⟨w,_,rfl⟩:=mm.mp hd;exact vZ w
 show OG [.int (n:Int),.lst (a.map oh)] s=_;unfold OG;dsimp only;rw[b_ ⟨fl,by ext,by ext⟩,BK,<-i,e];dsimp only;rw[Ro j];dsimp only;rw[b_ EV]
def ky(a:TR):TN:=a.map λ(k:Nat)=>(k:Int)
def vl(a:TR)(f:Nat->Rat):TU:=a.map λk=>qD (f k)
structure Kf(ks:TR)(f:Nat->Rat):Prop where
 nd:ks.Nodup
 off:∀j,j∉ks->f j=0
def wT{f:Nat->Rat}{j:Nat}:∀{ks:TR},q_ (ky ks) (vl ks f) (j:Int)=if j∈ks then J (qD (f j))else Y
 |[]=>rfl
 |k::ks=>by
  have a:=wT (f:=f) (j:=j) (ks:=ks);show(if(k:Int)=(j:Int)then J (qD (f k))else q_ (ky ks) (vl ks f) (j:Int))=_;by_cases e:k=j
  .subst e;simp
  .rw[e_ (by ext),a];simp[Ne.symm e]
def dz(f:Nat->Rat)(j:Nat)(q:Rat):Nat->Rat:=λa=>if a=j then q else f a
def ins(a:TR)(j:Nat):TR:=if j∈a then a else a++[j]
def JA{f:Nat->Rat}{j:Nat}{q:Rat}{a:TR}(h:j∉a):vl a (dz f j q)=vl a f:=by unfold vl;refine CH λk i=>?_;simp[dz,show k≠j from λz=>h (z▸i)]
def za{f:Nat->Rat}{j:Nat}{q:Rat}:∀{a:TR},a.Nodup->i0 (ky a) (vl a f) (j:Int) (qD q)=(ky (ins a j),vl (ins a j) (dz f j q))
 |[],_=>by simp[ky,vl,i0,ins,dz]
 |k::a,nd=>by
  rw[xk]at nd;have l:=za (f:=f) (j:=j) (q:=q) nd.2;show(if(k:Int)=(j:Int)then((k:Int)::ky a,qD q::vl a f)else((k:Int)::(i0 (ky a) (vl a f) (j:Int) (qD q)).1,qD (f k)::(i0 (ky a) (vl a f) (j:Int) (qD q)).2))=_;by_cases e:k=j
  .subst e;rw[b_ rfl]
   have:ins (k::a) k=k::a:=by simp[ins]
   rw[this];show _=((k:Int)::ky a,qD (dz f k q k)::vl a (dz f k q));rw[JA nd.1];simp[dz]
  .rw[e_ (by ext),l];have i:ins (k::a) j=k::ins a j:=by
    unfold ins;by_cases m:j∈a
    .simp[m]
    .simp[m,Ne.symm e]
   rw[i];show _=((k:Int)::ky (ins a j),qD (dz f j q k)::vl (ins a j) (dz f j q));simp[dz,e]
def Kf.put{l:TR}{f:Nat->Rat}{j:Nat}{q:Rat}(h:Kf l f):Kf (ins l j) (dz f j q):=by
 unfold ins;constructor
 .split
  .exact h.nd
  .rename_i z
   rw[Kv];refine⟨h.nd,by simp,λa i b u e=>z ?_⟩;rw[Kt]at u;rw[<-u,<-e];exact i
 .intro a i;unfold dz
  split at i
  .rename_i z
   rw[e_ (λe=>i (by rw[e];exact z))];exact h.off a i
  .have:a∉l/\a≠j:=by simpa using i
   rw[e_ this.2];exact h.off a this.1
abbrev B4(ks:TR)(f:Nat->Rat):D:=.dic T (ky ks) (vl ks f)
def ss{a:TR}{f:Nat->Rat}{j:Nat}(h:Kf a f):(q_ (ky a) (vl a f) (j:Int)).getD (qD 0)=qD (f j):=by
 rw[wT];split
 .rfl
 .rename_i z;rw[h.off j z];rfl
def pT(f:Nat->Rat)(a:Rat)(i:List Pt):Nat->Rat:=i.foldl (λf p=>dz f p.1 (f p.1+a*p.2)) f
def sK(a:TR)(f:List Pt):TR:=f.foldl (λa p=>ins a p.1) a
def EW{ks:TR}{j:Nat}:(ins ks j).length<=ks.length+1:=by unfold ins;split<;>simp
abbrev SF:Xd [0]:=(kF 0 (aa 3) (ao d6 (ab (BY (aa 0) (ab (aa 3) (ab (Aj 0 1) a_))) (ab (ao dy (ab (aa 1) (ab (aa 4) a_))) a_))))
def FQ{a:Rat}{P:Th}{s:d_}:∀(l:List Pt)(i:TR)(f:Nat->Rat)(u y:Th),(∀p∈l,sz a+sz p.2<=900000/\sz (f p.1)+sz (a*p.2)<=900000)->(l.map (·.1)).Nodup->Kf i f->i.length+l.length<=90000 ->
  (∃E G,Ca (Aa (qa (ki 3) (qa (ki 4) z_)) 2:Xg [0]).p SF.p (l.map ln) [J (B4 i f),J (qD a),P,u,y] s=.nx [J (B4 (sK i l) (pT f a l)),J (qD a),P,E,G] s)/\Kf (sK i l) (pT f a l)/\(sK i l).length<=i.length+l.length
 |[],i,f,u,y,C,nd,B,L=>⟨⟨u,y,rfl⟩,B,i_ _⟩
 |p::l,i,f,u,y,C,nd,B,L=>by
  obtain⟨F,R⟩:=C p (by simp);rw[nc,xk]at nd;have S:i.length+(l.length+1)<=90000:=L;have W:=Jv (p:=a) (q:=p.2) (s:=s) F;have U:=Np (p:=f p.1) (q:=a*p.2) (s:=s) R;have M:=ss (j:=p.1) B;have Z:=EW (ks:=i) (j:=p.1)
  obtain⟨⟨E,G,e⟩,F,X⟩:=FQ (P:=P) (s:=s) l (ins i p.1) (dz f p.1 (f p.1+a*p.2)) (J (inD' p.1)) (J (qD p.2)) (λx H=>by
   obtain⟨O,Q⟩:=C x (l7 _ H);refine⟨O,?_⟩;have ne:¬x.1=p.1:=λz=>nd.1 (z▸mm.mpr ⟨x,H,rfl⟩)
   rw[show dz f p.1 (f p.1+a*p.2) x.1=f x.1 from e_ ne];exact Q) nd.2 B.put (by ext)
  refine⟨⟨E,G,?_⟩,F,pf X (by simp;ext)⟩;have b:SF.p [J (B4 i f),J (qD a),P,J (inD' p.1),J (qD p.2)] s=.nx [J (B4 (ins i p.1) (dz f p.1 (f p.1+a*p.2))),J (qD a),P,J (inD' p.1),J (qD p.2)] s:=by
   rw[Ep,Ax (v:=qD (f p.1+a*p.2)) (s1:=s) (s2:=s) (j:=(p.1:Int)) (ks:=ky i) (ds:=vl i f) (by
    simp![aI,rW,show ∀(e:au)(s:d_),(Aj 0 1:Xe [0]).p e s=.ok (D.tup [.int 0,.int 1]) s from λ_ _=>rfl];rw[show D.tup [.int 0,.int 1]=qD 0 from rfl,M]
    simp only[Pb,W,U]) (by rfl) rfl (by simp[ky];ext),za B.nd]
   rfl
  rw[nc,nQ (show(Aa (qa (ki 3) (qa (ki 4) z_)) 2:Xg [0]).p (ln p) [J (B4 i f),J (qD a),P,u,y]=J [J (B4 i f),J (qD a),P,J (inD' p.1),J (qD p.2)]from rfl),b];exact e
structure St where
 (K:Nat->TR) (F:Nat->Nat->Rat)
def An(n:Nat)(x:St):List Rd:=(List.range n).map λi=>(J (ky (x.K i)),vl (x.K i) (x.F i))
structure EX(n t z:Nat)(R:TR)(x:St):Prop where
 kf:∀i,i<n->Kf (x.K i) (x.F i)
 kl:∀i,(x.K i).length<=t
 sz:∀i∈R,∀j∈R,sz (x.F i j)<=z
def St.put(x:St)(i:Nat)(j:TR)(f:Nat->Rat):St:=⟨λa=>if a=i then j else x.K a,λa=>if a=i then f else x.F a⟩
def xQ{n i:Nat}{x:St}(a:i<n):(An n x)[i]?=J (J (ky (x.K i)),vl (x.K i) (x.F i)):=by unfold An;simp[a]
def JB{n i:Nat}{x:St}{j:TR}{f:Nat->Rat}(u:i<n):(An n x).set i (J (ky j),vl j f)=An n (x.put i j f):=by
 unfold An;apply F8;intro a;by_cases l:a<n
 .by_cases e:i=a
  .subst e;rw[x6 (by simpa using u)];simp[l,St.put]
  .rw[pu e];simp[l,St.put,Ne.symm e]
 .rw[Ce (by simp;ext),Ce (by simp;ext)]
def mD{n i:Nat}{x:St}(a:i<n):h_.p (fe (An n x)) (.int (i:Int))=J (B4 (x.K i) (x.F i)):=by show ng ((An n x).map λr=>dl r.1 r.2) (i:Int)=_;exact L2.cC (by rw[qo,xQ a];rfl)
def St.add(x:St)(i:Nat)(a:Rat)(f:List Pt):St:=x.put i (sK (x.K i) f) (pT (x.F i) a f)
def vp{a:TR}{f:Nat->Rat}:f_ (vl a f)=I:=fH λd hd=>by
 unfold vl at hd;obtain⟨k,_,rfl⟩:=mm.mp hd;rfl
def EY{n i t:Nat}{x:St}{a:Rat}{f:List Pt}{s:d_}(kf:∀i,i<n->Kf (x.K i) (x.F i))(kl:∀i,(x.K i).length<=t)(j:i<n)(l:∀p∈f,sz a+sz p.2<=900000/\sz (x.F i p.1)+sz (a*p.2)<=900000)(nd:(f.map (·.1)).Nodup)(H:f.length<=12)(L:t<=9000):
  mN (An n x) i (qD a) (.tup (f.map ln)) s=J (An n (x.add i a f),s)/\(∀b,b<n->Kf ((x.add i a f).K b) ((x.add i a f).F b))/\∀b,((x.add i a f).K b).length<=t+12:=by
 have G:=kl i;obtain⟨⟨u,E,e⟩,y,M⟩:=FQ (P:=J (.tup (f.map ln))) (s:=s) f (x.K i) (x.F i) Y Y l nd (kf i j) (by ext);refine⟨?_,λb B=>?_,λb=>?_⟩
 .unfold mN;rw[xQ j];dsimp only;have C:bC.p (jn 5 [dl (J (ky (x.K i))) (vl (x.K i) (x.F i)),qD a,.tup (f.map ln)]) s=.nx [J (B4 (sK (x.K i) f) (pT (x.F i) a f)),J (qD a),J (.tup (f.map ln)),u,E] s:=by
   unfold bC;rw[show jn 5 [dl (J (ky (x.K i))) (vl (x.K i) (x.F i)),qD a,.tup (f.map ln)]=[J (B4 (x.K i) (x.F i)),J (qD a),J (.tup (f.map ln)),Y,Y]from rfl,gf,eT];dsimp![am,show(D.tup (f.map ln)).items=J (f.map ln)from rfl,Pf,Pg];exact e
  rw[C];simp only[JW];rw[b_ ⟨vp,rfl,by simp[flat,nV]⟩,JB j];rfl
 .unfold St.add St.put;dsimp only;by_cases z:b=i
  .rw[b_ z,b_ z];exact y
  .rw[e_ z,e_ z];exact kf b B
 .unfold St.add St.put;dsimp only;by_cases z:b=i
  .rw[b_ z];ext
  .rw[e_ z];have:=kl b;ext
def B5(a:TR)(f:Nat->Rat):List Pt:=(a.filter λj=>!decide (f j=0)).map λj=>(j,f j)
def Nt{a:TR}(e:au)(s:d_):(Aj 0 1:Xe a).p e s=.ok (qD 0) s:=rfl
def FR{a:TR}{f:Nat->Rat}{j:Nat}(h:Kf a f)(i:f j≠0):ly.p (B4 a f) (.int (j:Int))=J (qD (f j)):=by show q_ (ky a) (vl a f) (j:Int)=_;rw[wT,b_ (Classical.byContradiction λz=>i (h.off j z))]
def EZ{a ls:TR}{f:Nat->Rat}{s:d_}(h:Kf a f)(C:ls.length<=100):eS.p [B4 a f,li ls] s=.ok (.tup ((B5 ls f).map ln)) s:=by
 have B:∀{x y:D}{s:d_},(if [x,y].length<=100000 then PR.ok (D.tup [x,y]) s else .bad)=.ok (.tup [x,y]) s:=λ{x y s}=>b_ (by simp)
 have q:=lm (ws:=[]) (ws':=[]) (env:=[J (B4 a f),J (li ls)]) (s:=s) (s0:=s) (fm:=[0]) (i:=bo (aa 1)) (t:=xB (ac wo (BY (aa 1) (ab (aa 0) (ab (Aj 0 1) a_))) (Aj 0 1))) (e:=aO (ab (aa 0) (ab (ac ly (aa 1) (aa 0)) a_))) (l:=ls) (λj=>inD' j) (λj=>ln (j,f j)) (λj=>!decide (f j=0)) (by
  dsimp![eT,am];rfl) (by ext) (λj E=>⟨by
   simp![bY,aB,rW,Nt,nc,F_,JW,Fg,eV];rw[ss h,ua];rfl,λz=>by
   have u:f j≠0:=by simpa using z
   simp![cx,aB,nc,F_,JW,Fg,FR h u,Pf,B]⟩)
 rw[uP (by rfl)];unfold fi;rw[show jn 2 [B4 a f,li ls]=[J (B4 a f),J (li ls)]from rfl,bt,bz,af,q];simp only[Pb,ak,cU,Pf,Pg,PU.bB,B5,q7];rfl
def JC{n t z v:Nat}{R:TR}{x:St}{a:TR}{s:d_}(h:EX n t z R x)(hv:v<n)(U:a.length<=100)(B:∀i∈a,i<n)(F:v∈R)(H:∀i∈a,i∈R)(M:z<=400000)(pv:x.F v v≠0):
  gh.p [fe (An n x),inD' v,li a] s=.ok (oh ⟨v,x.F v v,B5 a (x.F v),(a.filter λi=>!decide (x.F i v=0)).map λi=>(i,x.F i v/x.F v v)⟩) s:=by
 have W:∀{x y:D}{s:d_},(if [x,y].length<=100000 then PR.ok (D.tup [x,y]) s else .bad)=.ok (.tup [x,y]) s:=λ{x y s}=>b_ (by simp);have S:∀{x y z u:D}{s:d_},(if [x,y,z,u].length<=100000 then PR.ok (D.tup [x,y,z,u]) s else .bad)=.ok (.tup [x,y,z,u]) s:=λ{x y z u s}=>b_ (by simp)
 have q:=lm (ws:=[]) (ws':=[]) (env:=[J (fe (An n x)),J (inD' v),J (li a),J (qD (x.F v v)),Y]) (s:=s) (s0:=s) (fm:=[3,1,0]) (i:=bo (aa 2)) (t:=xB (ac wo (BY (ac h_ (aa 3) (aa 0)) (ab (aa 2) (ab (Aj 0 1) a_))) (Aj 0 1))) (e:=aO (ab (aa 0) (ab (ao ij (ab (ac ly (ac h_ (aa 3) (aa 0)) (aa 2)) (ab (aa 1) a_))) a_))) (l:=a) (λi=>inD' i) (λi=>ln (i,x.F i v/x.F v v)) (λi=>!decide (x.F i v=0)) (by
  dsimp![eT,am];rfl) (by ext) (λi C=>⟨by
   have f:=B i C;simp![bY,aB,rW,Nt,nc,F_,JW,RD,Fg,mD f,Pf,eV];rw[ss (h.kf i f),ua];rfl,λO=>by
   have f:=B i C;have E:x.F i v≠0:=by simpa using O
   have G:=Nq (p:=x.F i v) (q:=x.F v v) (s:=s) pv (by have:=h.sz i (H i C) v F;have:=h.sz v F v F;ext)
   simp![cx,aI,aB,nc,F_,JW,RD,Fg,mD f,Pf,FR (h.kf i f) E,G,W]⟩)
 have Q:=EZ (s:=s) (ls:=a) (h.kf v hv) U;have L:=ss (j:=v) (h.kf v hv);have e0:Av T (qD (x.F v v)) (qD 0)=J (.bl T):=by rw[ua];simp[pv]
 rw[xo (by rfl)];unfold gc;rw[show jn 5 [fe (An n x),inD' v,li a]=[J (fe (An n x)),J (inD' v),J (li a),Y,Y]from rfl];rw[aD,bM];simp![rW,aB,mD hv,Pf,Nt,L,Pg,y6,y4,PU.aw];rw[aD,bF];dsimp![bY,aB,am,Nt,eQ,e0,Pf,Pl,Pg,n7,if_false,aX,PU.aw];rw[aD,bM];rw[show(aU 1 [3,1,0] (bo (aa 2)) (ws':=[]) (ki 0) (xB (ac wo (BY (ac h_ (aa 3) (aa 0)) (ab (aa 2) (ab (Aj 0 1) a_))) (Aj 0 1))) (aO (ab (aa 0) (ab (ao ij (ab (ac ly (ac h_ (aa 3) (aa 0)) (aa 2)) (ab (aa 1) a_))) a_))):Xe []).p [J (fe (An n x)),J (inD' v),J (li a),J (qD (x.F v v)),Y] s=_ from q];simp only[Pg,y6,y4,PU.aw];simp![bt,cx,aI,aB,mD hv,Pf,Q,bz,cU,S,Pg,PU.bB,q7];have P:(((a.filter λi=>!decide (x.F i v=0)).map λi=>(i,x.F i v/x.F v v)):List Pt).map ln=(a.filter λi=>!decide (x.F i v=0)).map λi=>ln (i,x.F i v/x.F v v):=by rw[q7];rfl
 unfold oh;rw[P]
def wh(a:List Pt)(j:Nat):Rat:=((a.find? λp=>p.1==j).map (·.2)).getD 0
def iM{j:Nat}:wh [] j=0:=rfl
def cF{p:Pt}{a:List Pt}{j:Nat}:wh (p::a) j=if p.1=j then p.2 else wh a j:=by
 unfold wh;rw[NW];by_cases h:p.1=j
 .simp[h]
 .have e:(p.1==j)=T:=by simpa using h
  rw[e,e_ h]
def j9{a:List Pt}{j:Nat}(h:j∉a.map (·.1)):wh a j=0:=by
 induction a with
 |nil=>rfl
 |cons p a f =>
  rw[nc,mx,not_or]at h;rw[cF,e_ (λe=>h.1 e.symm),f h.2]
def wc{a:Rat}{j:Nat}:∀{i:List Pt}{f:Nat->Rat},(i.map (·.1)).Nodup->pT f a i j=f j+a*wh i j
 |[],f,_=>by show f j=_;rw[iM];grind
 |p::i,f,nd=>by
  rw[nc,xk]at nd;show pT (dz f p.1 (f p.1+a*p.2)) a i j=_;rw[wc nd.2,cF];unfold dz;by_cases e:p.1=j
  .subst e;rw[b_ rfl,b_ rfl,j9 nd.1];grind
  .rw[e_ (Ne.symm e),e_ e]
def qH{f:Rat}{i a b:Nat}:∀{j:List Pt}{g:Nat->Nat->Rat},(j.map (·.1)).Nodup->fy g i f j a b=g a b+if a=i then f*wh j b else 0
 |[],g,_=>by show g a b=_;rw[iM];split<;>grind
 |p::j,g,nd=>by
  rw[nc,xk]at nd;show fy (iA g i p.1 (g i p.1+f*p.2)) i f j a b=_;rw[qH nd.2,cF];unfold iA;by_cases l:a=i
  .subst l;by_cases u:b=p.1
   .subst u;rw[b_ ⟨rfl,rfl⟩,b_ rfl,b_ rfl,b_ rfl,j9 nd.1];grind
   .rw[e_ (λz=>u z.2),b_ rfl,b_ rfl,e_ (Ne.symm u)]
  .rw[e_ (λz=>l z.1),e_ l,e_ l]
def qU{rs:List Pt}(i:(rs.map (·.1)).Nodup){a b:Nat}:∀{cs:List Pt}{g:Nat->Nat->Rat},(cs.map (·.1)).Nodup->oE g cs rs a b=g a b+wh cs a*wh rs b
 |[],g,_=>by show g a b=_;rw[iM];grind
 |p::cs,g,nd=>by
  rw[nc,xk]at nd;show oE (fy g p.1 p.2 rs) cs rs a b=_;rw[qU i nd.2,qH i,cF];by_cases f:a=p.1
  .subst f;rw[b_ rfl,b_ rfl,j9 nd.1];grind
  .rw[e_ f,e_ (Ne.symm f)];grind
def cl(w:Wk)(i:Nat):Rat:=wh ((w.v,1)::w.c) i
def rw'(w:Wk)(j:Nat):Rat:=wh ((w.v,w.p)::w.r) j
def nC{n:Nat}{f:Nat->Rat}:(bO n f).map (·.1)=(List.range n).filter λj=>!decide (f j=0):=by unfold bO;rw[q7];exact(CH (g:=id) λ_ _=>rfl).trans (N0 _)
def Aq(n:Nat)(g:Nat->Nat->Rat):St:=⟨λi=>(List.range n).filter λj=>!decide (g i j=0),λi j=>if j<n then g i j else 0⟩
def AJ{n:Nat}{g:Nat->Nat->Rat}(E:n<=12):gi ((List.range n).map λi=>.tup ((bO n (g i)).map ln))=J (An n (Aq n g)):=by
 have one:∀i,Ms (.tup ((bO n (g i)).map ln))=J ((bO n (g i)).map λp=>((p.1:Int),qD p.2)):=λi=>by
  have C:∀f:List Pt,jz (f.map ln)=J (f.map λp=>((p.1:Int),qD p.2)):=λf=>by
   induction f with
   |nil=>rfl
   |cons p f u=>rw[nc,jz,u];rfl
  unfold Ms;dsimp only;rw[C];dsimp only;rw[b_];rw[q7]
  have:((bO n (g i)).map ((·.1)∘λp:Pt=>((p.1:Int),qD p.2)))=((bO n (g i)).map (·.1)).map λ(k:Nat)=>(k:Int):=by rw[q7];rfl
  rw[this,nC];exact(NT.filter _).map (λ(k:Nat)=>(k:Int)) (λa b h=>by ext)
 have gen:∀l:TR,(∀i∈l,i<n)->gi (l.map λi=>.tup ((bO n (g i)).map ln))=J (l.map λi=>(J (ky ((Aq n g).K i)),vl ((Aq n g).K i) ((Aq n g).F i))):=λl=>by
  induction l with
  |nil=>intro;rfl
  |cons i l u =>
   intro h;rw[nc,gi,one i,u λx B=>h x (l7 _ B)];dsimp only;have e1:((bO n (g i)).map λp=>((p.1:Int),qD p.2)).map (·.1)=ky ((Aq n g).K i):=by rw[q7];show _=((List.range n).filter λj=>!decide (g i j=0)).map _;rw[<-nC,q7];rfl
   have e2:((bO n (g i)).map λp=>((p.1:Int),qD p.2)).map (·.2)=vl ((Aq n g).K i) ((Aq n g).F i):=by
    rw[q7];unfold bO vl Aq;rw[q7];refine CH λj z=>?_
    have:j<n:=by simpa using(y_.mp z).1
    simp[this]
   rw[e1,e2,b_ vp,nc]
 exact gen _ λi y=>by simpa using y
def JD{n z:Nat}{R:TR}{g:Nat->Nat->Rat}(u:1<=z)(l:∀i j,sz (g i j)<=z):EX n n z R (Aq n g):=by
 refine⟨λi y=>⟨NT.filter _,λj f=>?_⟩,λi=>?_,λi _ j _=>?_⟩
 .unfold Aq at f ⊢;dsimp only at f ⊢;split
  .rename_i a
   refine Classical.byContradiction λz=>f ?_;exact y_.mpr ⟨BQ.mpr a,by simpa using z⟩
  .rfl
 .unfold Aq;dsimp only
  have:=CW (λj=>!decide (g i j=0)) (List.range n)
  simpa using this
 .unfold Aq;dsimp only;split
  .exact l i j
  .rw[show Law.sz 0=1 by decide +kernel];exact u
def hI(ns:TR)(k:Nat):Nat:=ns.getD k 0
def av(ns:TR)(g:Nat->Nat->Rat):Nat->Nat->Nat->Rat
 |0=>g
 |k+1=>λi j=>av ns g k i j-av ns g k i (hI ns k)/av ns g k (hI ns k) (hI ns k)*av ns g k (hI ns k) j
def l_(n:Nat)(ns:TR)(g:Nat->Nat->Rat)(k:Nat):Wk :=
 ⟨hI ns k,av ns g k (hI ns k) (hI ns k),B5 (tr n ns k) (av ns g k (hI ns k)),((tr n ns k).filter λi=>!decide (av ns g k i (hI ns k)=0)).map λi=>(i,av ns g k i (hI ns k)/av ns g k (hI ns k) (hI ns k))⟩
structure El(n z:Nat)(ns:TR)(g:Nat->Nat->Rat):Prop where
 o:On n ns
 off:∀i j,¬(i<n/\j<n)->g i j=0
 pv:∀k,k<n->av ns g k (hI ns k) (hI ns k)≠0
 si:∀k i j,k<=n->sz (av ns g k i j)<=z
 z0:z<=100000
def ia{n k:Nat}{ns:TR}(o:On n ns)(a:k<n):ns[k]?=J (hI ns k):=by
 have:=o.len
 unfold hI;rw[Fd,xg (by ext)];rfl
def cT{k v:Nat}{ns:TR}(a:ns[k]?=J v):ns.drop k=v::ns.drop (k+1):=by obtain⟨h,rfl⟩:=o_.mp a;exact NK h
def JE(q:Rat):sz q⁻¹<=sz q:=by
 by_cases h:q=0
 .subst h;rw[show(0:Rat)⁻¹=0 by simp];exact i_ _
 .have n0:q.num≠0:=λz=>h (Rat.num_eq_zero.mp z);rw[Rat.inv_def,Ju n0];refine oN (by ext) (uC q) ?_ (bT q)
  have:=aY q
  split<;>ext
def JF(p q:Rat):sz (p/q)<=sz p+sz q:=by rw[Rat.div_def];exact pf (sY p q⁻¹) (Nat.add_le_add_left (JE q) _)
def p8{f:Nat->Rat}{p:Nat->Bool}{j:Nat}:∀{ls:TR},wh ((ls.filter p).map λi=>(i,f i)) j=if j∈ls/\p j=I then f j else 0
 |[]=>by simp[iM]
 |l::ls=>by
  have u:=p8 (f:=f) (p:=p) (j:=j) (ls:=ls);by_cases a:p l=I
  .rw[OS a,nc,cF,u];by_cases e:l=j
   .subst e;simp[a]
   .simp[e,Ne.symm e]
  .rw[OT a,u];by_cases e:l=j
   .subst e;simp[a]
   .simp[Ne.symm e]
section
variable{n z:Nat}{ns:TR}{g:Nat->Nat->Rat}
def El.zero(h:El n z ns g):∀(k:Nat),k<=n->∀i j,(i∉ns.drop k\/j∉ns.drop k)->av ns g k i j=0
 |0,_,i,j,a=>by
  refine h.off i j λ⟨u,B⟩=>?_;rw[KI]at a;rcases a with q|q
  .exact q (h.o.pm.mem_iff.mpr (BQ.mpr u))
  .exact q (h.o.pm.mem_iff.mpr (BQ.mpr B))
 |k+1,E,i,j,a=>by
  have f:=El.zero h k (by ext);have F:=h.pv k (by ext);have C:=cT (ia h.o (show k<n by ext));show av ns g k i j-av ns g k i (hI ns k)/av ns g k (hI ns k) (hI ns k)*av ns g k (hI ns k) j=0;have l:∀x,x∉ns.drop (k+1)->x=hI ns k\/x∉ns.drop k:=λx y=>by
   by_cases e:x=hI ns k
   .exact .inl e
   .exact .inr (by rw[C,mx];exact λq=>q.elim e y)
  rcases a with q|q<;>rcases l _ q with e|e
  .rw[e];grind
  .rw[f i j (.inl e),f i _ (.inl e)];grind
  .rw[e];grind
  .rw[f i j (.inr e),f _ j (.inr e)];grind
def oO{k x:Nat}(o:On n ns)(a:k<n):x∈ns.drop k↔x=hI ns k\/x∈tr n ns k:=by rw[cT (ia o a),mx,cp o]
def rZ{k:Nat}(o:On n ns)(a:k<n):hI ns k∉tr n ns k:=λm=>by
 have nd:=o.nd.sublist (F7 k ns);rw[cT (ia o a),xk]at nd;exact nd.1 ((cp o).mp m)
def El.rw(h:El n z ns g){k j:Nat}(a:k<n):rw' (l_ n ns g k) j=av ns g k (hI ns k) j:=by
 unfold rw' l_ B5;dsimp only;rw[cF,p8];by_cases e:hI ns k=j
 .rw[b_ e,e]
 .rw[e_ e];by_cases m:j∈tr n ns k
  .by_cases q:av ns g k (hI ns k) j=0
   .simp[q]
   .simp[m,q]
  .rw[e_ λz=>m z.1];exact(h.zero k (by ext) _ j (.inr λq=>((oO h.o a).mp q).elim (λz=>e z.symm) m)).symm
def El.cl(h:El n z ns g){k i:Nat}(a:k<n):cl (l_ n ns g k) i=av ns g k i (hI ns k)/av ns g k (hI ns k) (hI ns k):=by
 have j:=h.pv k a;unfold Law.cl l_;dsimp only;rw[cF,p8 (f:=λi=>av ns g k i (hI ns k)/av ns g k (hI ns k) (hI ns k))];by_cases e:hI ns k=i
 .rw[b_ e,<-e];grind
 .rw[e_ e];by_cases m:i∈tr n ns k
  .by_cases q:av ns g k i (hI ns k)=0
   .simp[q];grind
   .simp[m,q]
  .rw[e_ λz=>m z.1,h.zero k (by ext) i _ (.inl λq=>((oO h.o a).mp q).elim (λz=>e z.symm) m)]
   grind
def tV{f:Nat->Rat}{a:TR}:(a.map λi=>((i,f i):Pt)).map (·.1)=a:=by rw[q7];exact(CH (g:=id) λ_ _=>rfl).trans (N0 _)
def SG{k:Nat}(o:On n ns)(a:k<n):SD (l_ n ns g k):=by
 have key:∀(p:Nat->Bool)(f:Nat->Rat),(hI ns k::(((tr n ns k).filter p).map λi=>((i,f i):Pt)).map (·.1)).Nodup:=λp f=>by
  rw[tV,xk];exact⟨λm=>rZ o a (y_.mp m).1,(pS.imp λh=>ww h).sublist List.filter_sublist⟩
 exact⟨key _ _,key _ _⟩
def p7{k:Nat}(o:On n ns):(tr n ns k).length<=12:=by
 have:=(oq (k:=k) o).length_eq
 have:=o.len
 have:=o.n12
 simp at *;ext
def yL{k x:Nat}(o:On n ns)(h:x∈tr n ns k):x<n:=o.lt x (Ko ((cp o).mp h))
def El.w_c(h:El n z ns g){k:Nat}(j:k<n):∀q∈(hI ns k,(1:Rat))::(l_ n ns g k).c,q.1<n/\sz q.2<=2*z:=λq a=>by
 have z1:=h.si k (hI ns k) (hI ns k) (by ext);have l:=uC (av ns g k (hI ns k) (hI ns k));rcases mx.mp a with rfl|a
 .refine⟨h.o.lt _ (AL (ia h.o j)),?_⟩;show sz 1<=_;rw[show sz 1=1 by decide +kernel];ext
 .obtain⟨i,f,rfl⟩:=mm.mp a;refine⟨yL h.o (y_.mp f).1,pf (JF _ _) ?_⟩
  have:=h.si k i (hI ns k) (by ext)
  ext
def El.w_r(h:El n z ns g){k:Nat}(l:k<n):∀q∈(hI ns k,(l_ n ns g k).p)::(l_ n ns g k).r,q.1<n/\sz q.2<=z:=λq a=>by
 rcases mx.mp a with rfl|a
 .exact⟨h.o.lt _ (AL (ia h.o l)),h.si k _ _ (by ext)⟩
 .have a:q∈((tr n ns k).filter λj=>!decide (av ns g k (hI ns k) j=0)).map λj=>(j,av ns g k (hI ns k) j):=a;obtain⟨i,f,rfl⟩:=mm.mp a;exact⟨yL h.o (y_.mp f).1,h.si k _ _ (by ext)⟩
def JG(p q:Rat):sz (p-q)<=sz p+sz q+1:=by rw[Rat.sub_eq_add_neg,<-yq q];exact Jr p (-q)
def El.mu(h:El n z ns g):∀(m k:Nat)(G:Nat->Nat->Rat),k+m=n->(∀i j,G i j=g i j-av ns g k i j) ->
  EU n ((List.range' k m).map (l_ n ns g)) G/\∀i j,((List.range' k m).map (l_ n ns g)).foldl kG G i j=g i j
 |0,k,G,E,l=>⟨trivial,λi j=>by
  show G i j=_;have M:=h.o.len
  rw[l,h.zero k (by ext) i j (.inl (by rw[RG (by ext)];exact CJ))];grind⟩
 |m+1,k,G,E,l=>by
  have f:k<n:=by ext
  have d:=SG (g:=g) h.o f;have nx:∀i j,kG G (l_ n ns g k) i j=g i j-av ns g (k+1) i j:=λi j=>by
   unfold kG;rw[qU (rs:=((l_ n ns g k).v,(l_ n ns g k).p)::(l_ n ns g k).r) d.r (cs:=((l_ n ns g k).v,1)::(l_ n ns g k).c) d.c];show G i j+Law.cl (l_ n ns g k) i*rw' (l_ n ns g k) j=_;rw[h.cl f,h.rw f,l];show _=g i j-(av ns g k i j-_)
   grind
  obtain⟨a,b⟩:=El.mu h m (k+1) (kG G (l_ n ns g k)) (by ext) nx;have z0:=h.z0;have B:=p7 (k:=k) h.o;refine⟨⟨⟨d,?_,?_,λq u=>⟨(h.w_c f q u).1,λr y=>⟨(h.w_r f r y).1,?_,?_⟩⟩⟩,a⟩,b⟩
  .unfold l_ B5;rw[wv];exact pf (CW _ _) B
  .unfold l_;rw[wv];exact pf (CW _ _) B
  .have:=(h.w_c f q u).2;have:=(h.w_r f r y).2;ext
  .have H:=(h.w_c f q u).2;have P:=(h.w_r f r y).2;have F:=sY q.2 r.2;have O:=JG (g q.1 r.1) (av ns g k q.1 r.1);have C:=h.si 0 q.1 r.1 (by ext);have L:=h.si k q.1 r.1 (by ext);have C:sz (g q.1 r.1)<=z:=C;rw[l];ext
def El.mult(h:El n z ns g){s:d_}:fM.p [.int (n:Int),.lst (((List.range n).map (l_ n ns g)).map oh)] s=.ok (x4 n g) s:=by
 obtain⟨a,b⟩:=h.mu n 0 (λ_ _=>0) (by ext) λi j=>by show(0:Rat)=g i j-g i j;grind
 rw[<-List.range_eq_range']at a b
 have:=Jz (s:=s) h.o.n12 (by simpa using h.o.n12) a
 rw[this];congr 2;funext i j;exact b i j
end
def AB{a:TR}{f g:Nat->Rat}(h:∀j∈a,f j=g j):B5 a f=B5 a g:=by
 unfold B5;have e:(a.filter λj=>!decide (f j=0))=a.filter λj=>!decide (g j=0):=O4 λj i=>by rw[h j i]
 rw[e];exact CH λj i=>by rw[h j (y_.mp i).1]
def St.add_F{x:St}{i a b:Nat}{q:Rat}{f:List Pt}(nd:(f.map (·.1)).Nodup):(x.add i q f).F a b=x.F a b+if a=i then q*wh f b else 0:=by
 unfold St.add St.put;dsimp only;by_cases e:a=i
 .subst e;rw[b_ rfl,b_ rfl,wc nd]
 .rw[e_ e,e_ e];grind
def St.adds(x:St)(a rs:List Pt):St:=a.foldl (λx p=>x.add p.1 (-p.2) rs) x
def xM{rs:List Pt}(i:(rs.map (·.1)).Nodup){a b:Nat}:∀{f:List Pt}{x:St},(f.map (·.1)).Nodup->(x.adds f rs).F a b=x.F a b-wh f a*wh rs b
 |[],x,_=>by show x.F a b=_;rw[iM];grind
 |p::f,x,nd=>by
  rw[nc,xk]at nd;show((x.add p.1 (-p.2) rs).adds f rs).F a b=_;rw[xM i nd.2,St.add_F i,cF];by_cases e:a=p.1
  .subst e;rw[b_ rfl,b_ rfl,j9 nd.1];grind
  .rw[e_ e,e_ (Ne.symm e)];grind
def Rq{rd:List Rd}{i a:D}{b:Bool}{k v st f:Th}{j:Int}{s:d_}:r9.p (iR rd i a (.dic b [] []) k v st (J (.int j)) f) s=.ok I s:=rfl
def Rr{rd:List Rd}{j f a:D}{k v st i:Th}{q:Rat}{s:d_}(h:sz q<=800000):mQ.p (iR rd j f a k v st i (J (qD q))) s=.ok (qD (-q)) s:=by
 have m:=Jw (p:=0) (q:=q) (s:=s) (by rw[show sz 0=1 by decide +kernel];ext);unfold mQ iR;simp![aI,Nt,m];congr 2
 grind
def JH{x:St}{i b:Nat}{a:Rat}{f:List Pt}(h:b≠i):(x.add i a f).F b=x.F b:=e_ h
def zd{n z:Nat}{sh od:D}{b:Bool}{k v:Th}{st:D}{rs:List Pt}{s:d_}(G:∀r∈rs,sz r.2<=z)(L:(rs.map (·.1)).Nodup)(lr:rs.length<=12)(S:z<=100000):∀(j:List Pt)(x:St)(t:Nat)(i f:Th),(j.map (·.1)).Nodup->(∀p∈j,p.1<n/\sz p.2<=2*z/\∀r∈rs,sz (x.F p.1 r.1)<=z)->(∀i,i<n->Kf (x.K i) (x.F i))->(∀i,(x.K i).length<=t)->t+12*j.length<=9000 ->
  (∃B y,ic sh od (.dic b [] []) k v st (.tup (rs.map ln)) (j.map ln) (An n x) i f s=J (An n (x.adds j rs),B,y,s))/\(∀i,i<n->Kf ((x.adds j rs).K i) ((x.adds j rs).F i))/\∀i,((x.adds j rs).K i).length<=t+12*j.length
 |[],x,t,i,f,l,u,kf,kl,M=>⟨⟨i,f,rfl⟩,kf,kl⟩
 |p::j,x,t,i,f,l,u,kf,kl,M=>by
  obtain⟨C,px,U⟩:=u p (by simp);rw[nc,xk]at l;have Z:t+12*(j.length+1)<=9000:=M
  obtain⟨W,a2,P⟩:=EY (s:=s) (a:=-p.2) kf kl C (λr h=>by
   have h1:=G r h;have H:=U r h;have O:=sY (-p.2) r.2;have h4:=yq p.2
   ext) L lr (by ext)
  obtain⟨⟨B,y,e⟩,H,O⟩:=zd (sh:=sh) (od:=od) (b:=b) (k:=k) (v:=v) (st:=st) (s:=s) G L lr S j (x.add p.1 (-p.2) rs) (t+12) (J (inD' p.1)) (J (qD p.2)) l.2 (λq E=>by
   obtain⟨R,X,b3⟩:=u q (l7 _ E);have ne:q.1≠p.1:=λz=>l.1 (z▸mm.mpr ⟨q,E,rfl⟩);rw[JH ne]
   exact⟨R,X,b3⟩) a2 P (by ext)
  refine⟨⟨B,y,?_⟩,H,λi=>by rw[B8,show t+12*(j.length+1)=t+12+12*j.length by ext];exact O i⟩;have Q:wC (An n x).length (p.1:Int)=J p.1:=by unfold An;simp only[wv,NP];exact MM.jH C
  rw[nc,ic,Rq];dsimp only;rw[Rr (by ext),Q];dsimp only;rw[W];exact e
def Rs{n k v t z:Nat}{ns:TR}{x:St}{sh:D}{b:Bool}{st i f:Th}{s:d_}(o:On n ns)(a:ns[k]?=J v)(h:EX n t z (ns.drop k) x)(y:z<=400000)(pv:x.F v v≠0):
  mL.p (iR (An n x) sh (li ns) (.dic b [] []) (J (inD' k)) (J (inD' v)) st i f) s=.ok (oh ⟨v,x.F v v,B5 (tr n ns k) (x.F v),((tr n ns k).filter λi=>!decide (x.F i v=0)).map λi=>(i,x.F i v/x.F v v)⟩) s:=by
 have E:=o.len;have n12:=o.n12;have C:k<n:=by have:=(o_.mp a).1;ext
 have u:(tr n ns k).length<=100:=by have:=(oq (k:=k) o).length_eq;simp at this;ext
 have lt:=ES o C;have l:=JC (s:=s) h (o.lt v (AL a)) u (λi j=>o.lt i (Ko ((cp o).mp j))) (by rw[cT a];simp) (λi j=>by rw[cT a];exact l7 _ ((cp o).mp j)) y pv;have B:(IR T).p (inD' v) (.dic b [] [])=J (.bl T):=rfl;unfold mL iR;rw[IG];simp![bY,aB,B,Pf,Pl,n7,if_false,aI,bz,sj,sv,su,bf,aL,fK,sn,lt,l]
def yZ{k v:Nat}{ns:TR}(f:ns[k]?=J v):(bK (ns.map inD')).drop k=.tup [inD' k,inD' v]::(bK (ns.map inD')).drop (k+1):=by
 have a:=o_.mp f;have l:k<(bK (ns.map inD')).length:=by simp[bK,a.1]
 have e:(bK (ns.map inD'))[k]?=J (.tup [inD' k,inD' v]):=by unfold bK;rw[qo,Kq,qo,f];simp
 rw[NK l];congr 1;rw[xg l]at e;exact Option.some.inj e
def El.run{n z:Nat}{ns:TR}{g:Nat->Nat->Rat}(h:El n z ns g){sh:D}{b:Bool}{s:d_}:∀(m k:Nat)(x:St)(t:Nat)(G:TU)(st i f:Th),k+m=n->(∀i,i<n->Kf (x.K i) (x.F i))->(∀i,(x.K i).length<=t)->t+150*m<=9000->G.length=k->(∀i j,i∈ns.drop k->j∈ns.drop k->x.F i j=av ns g k i j) ->
  hX sh (li ns) (.dic b [] []) ((bK (ns.map inD')).drop k) (An n x) G st i f s=J (G++((List.range' k m).map (l_ n ns g)).map oh,s)
 |0,k,x,t,G,st,i,f,hk,kf,kl,ht,hl,u=>by
  have ol:=h.o.len;rw[RG (by simp[bK,ol];simpa using Po hk.symm)];simp[hX]
 |m+1,k,x,t,G,st,i,f,hk,kf,kl,ht,hl,u=>by
  have o:=h.o;have n12:=o.n12;have z0:=h.z0;have l:k<n:=by ext
  have hv:=ia o l;have p0:=h.pv k l;have B:hI ns k∈ns.drop k:=(oO o l).mpr (.inl rfl);have C:∀j∈tr n ns k,j∈ns.drop k:=λj E=>(oO o l).mpr (.inr E);have so:EX n t z (ns.drop k) x:=⟨kf,kl,λi M j E=>by rw[u i j M E];exact h.si k i j (by ext)⟩;have e1:=Rs (sh:=sh) (b:=b) (st:=st) (i:=i) (f:=f) (s:=s) o hv so (by ext) (by rw[u _ _ B B];exact p0);have er:B5 (tr n ns k) (x.F (hI ns k))=B5 (tr n ns k) (av ns g k (hI ns k)):=AB λj E=>u _ j B (C j E);have ec:(((tr n ns k).filter λi=>!decide (x.F i (hI ns k)=0)).map λi=>(i,x.F i (hI ns k)/x.F (hI ns k) (hI ns k)))=(l_ n ns g k).c:=by
   unfold l_;dsimp only;have e:((tr n ns k).filter λi=>!decide (x.F i (hI ns k)=0))=(tr n ns k).filter λi=>!decide (av ns g k i (hI ns k)=0):=O4 λj E=>by rw[u j _ (C j E) B]
   rw[e];exact CH λj E=>by rw[u j _ (C j (y_.mp E).1) B,u _ _ B B]
  rw[er,ec,u _ _ B B]at e1;have e1:mL.p (iR (An n x) sh (li ns) (.dic b [] []) (J (inD' k)) (J (inD' (hI ns k))) st i f) s=.ok (oh (l_ n ns g k)) s:=e1;have d:=SG (g:=g) o l;have Z:=xk.mp d.r;have dc:=xk.mp d.c;have X:=p7 (k:=k) o;have lr:(l_ n ns g k).r.length<=12:=by unfold l_ B5;rw[wv];exact pf (CW _ _) X
  have lc:(l_ n ns g k).c.length<=12:=by unfold l_;rw[wv];exact pf (CW _ _) X
  have R:∀r∈(l_ n ns g k).r,r.1∈tr n ns k:=λr F=>by
   have F:r∈((tr n ns k).filter λj=>!decide (av ns g k (hI ns k) j=0)).map λj=>(j,av ns g k (hI ns k) j):=F;obtain⟨i,M,rfl⟩:=mm.mp F;exact(y_.mp M).1
  have Q:∀r∈(l_ n ns g k).c,r.1∈tr n ns k:=λr F=>by
   obtain⟨i,M,rfl⟩:=mm.mp F;exact(y_.mp M).1
  obtain⟨⟨P,O,e2⟩,k2,l2⟩:=zd (sh:=sh) (od:=li ns) (b:=b) (k:=J (inD' k)) (v:=J (inD' (hI ns k))) (st:=oh (l_ n ns g k)) (s:=s) (λr F=>(h.w_r l r (l7 _ F)).2) Z.2 lr z0 (l_ n ns g k).c x t i f dc.2 (λp W=>by
   obtain⟨a1,a2⟩:=h.w_c l p (l7 _ W)
   exact⟨a1,a2,λr F=>so.sz _ (C _ (Q p W)) _ (C _ (R r F))⟩) kf kl (by ext)
  have ih:=El.run h (sh:=sh) (b:=b) (s:=s) m (k+1) (x.adds (l_ n ns g k).c (l_ n ns g k).r) (t+150) (G++[oh (l_ n ns g k)]) (J (oh (l_ n ns g k))) P O (by ext) k2 (λi=>pf (l2 i) (by ext)) (by ext) (by simp[hl]) (λa c ha hc=>by
   have U:a∈tr n ns k:=(cp o).mpr ha;have lc:c∈tr n ns k:=(cp o).mpr hc;have ne:∀y,y∈tr n ns k->¬hI ns k=y:=λy hy e=>rZ o l (e▸hy);have L:=h.cl (i:=a) l;have H:=h.rw (j:=c) l;unfold Law.cl at L;unfold rw' at H;rw[cF]at L H;have L:=(e_ (ne a U)).symm.trans L;have H:=(e_ (ne c lc)).symm.trans H;rw[xM Z.2 dc.2,u a c (C a U) (C c lc),L,H]
   rfl)
  have ed:=yZ (k:=k) (v:=hI ns k) (ns:=ns) hv;rw[ed,hX,e1]
  show (if flat (oh (l_ n ns g k))=I/\G.length<1000/\flat (inD' k)=I/\flat (inD' (hI ns k))=I then (match ic sh (li ns) (.dic b [] []) (J (inD' k)) (J (inD' (hI ns k))) (oh (l_ n ns g k)) (.tup ((l_ n ns g k).r.map ln)) ((l_ n ns g k).c.map ln) (An n x) i f s with
   |some (S,P,O,s2)=>hX sh (li ns) (.dic b [] []) ((bK (ns.map inD')).drop (k+1)) S (G++[oh (l_ n ns g k)]) (J (oh (l_ n ns g k))) P O s2
   |none=>Y)else Y)=_
  rw[b_ ⟨vZ _,by ext,rfl,rfl⟩,e2];dsimp only;rw[ih];simp[List.range'_succ]
def vf{n x:Nat}{s:d_}(h:x<n):cD.p [.int (n:Int),inD' x] s=.ok (.bl I) s:=by rw[uL (by rfl)];unfold fj;rw[show jn 2 [.int (n:Int),inD' x]=[J (.int (n:Int)),J (inD' x)]from rfl];simp[vI,h]
def E0{n:Nat}{ns:TR}{s:d_}(o:On n ns):cZ.p [.tup [.int (n:Int),.tup []],li ns] s=.ok .non s:=by
 have G:=o.len;have n12:=o.n12
 have q:=lm (ws:=[]) (ws':=[]) (env:=[J (.tup [.int (n:Int),.tup []]),J (li ns)]) (s:=s) (s0:=s) (fm:=[0]) (i:=bo (aa 1)) (t:=n3) (e:=ao cD (ab (ac h_ (aa 1) (xC (.int 0))) (ab (aa 0) a_))) (l:=ns) (λj=>inD' j) (λ_=>.bl I) (λ_=>I) (by
  dsimp![eT,am];rfl) (by ext) (λj z=>⟨rfl,λ_=>by
   have f:h_.p (.tup [.int (n:Int),.tup []]) (.int 0)=J (.int (n:Int)):=rfl
   simp![aI,aB,bf,aL,nc,F_,JW,Fg,f,Pf,vf (o.lt j z)]⟩)
 have y:pH.p [.lst ((ns.filter λ_=>I).map λ_=>D.bl I)]=J (.bl I):=by
  have:∀l:TR,jd (l.map λ_=>D.bl I)=J (l.map λ_=>I):=λl=>by
   induction l with
   |nil=>rfl
   |cons a l B=>rw[nc,jd,B];rfl
  show((J ((ns.filter λ_=>I).map λ_=>D.bl I)).bind jd).map _=_;rw[JY,this,Fh];congr 2;simp
 have u:dU.p [li ns]=J (.lst ((List.range n).map inD')):=by
  have e1:li ns=.lst ((ns.map λ(x:Nat)=>(x:Int)).map .int):=by rw[q7];rfl
  rw[e1,lv (by simp;ext)];have e2:gJ (ns.map λ(x:Nat)=>(x:Int))=(List.range n).map λ(x:Nat)=>(x:Int) :=
   fX (ko _) (Kl.map (S:=(·<=·)) _ (λa b h=>by ext)) ((gF _).trans (o.pm.map _))
  rw[e2,q7];rfl
 have lr:Ow.p [.int (n:Int)]=J (.lst ((List.range n).map inD')):=by rw[Mo (by ext),BK];simp[cP]
 have E:Av T (.lst ((List.range n).map inD')) (.lst ((List.range n).map inD'))=J (.bl I):=by
  have e1:(List.range n).map inD'=((List.range n).map λ(x:Nat)=>(x:Int)).map .int:=by rw[q7];rfl
  rw[e1,nT];simp
 have F:fB.p [.tup [.int (n:Int),.tup []],li ns] s=.ok (.bl I) s:=by
  rw[uU (by rfl)];unfold eR;rw[show jn 2 [.tup [.int (n:Int),.tup []],li ns]=[J (.tup [.int (n:Int),.tup []]),J (li ns)]from rfl];have C:(bh ["list"]).p (li ns)=J (.bl I):=by simp[cW]
  have f:h_.p (.tup [.int (n:Int),.tup []]) (.int 0)=J (.int (n:Int)):=rfl;rw[aD,bF];dsimp![cq,bY,eD,am,C,Pf,Pl,AA,Pg,n7,if_false,aX,PU.aw];rw[aD,bF,cq,bY,bz,af,q];simp only[Pb,ak,y,Pf,Pl,AA,Pg,n7,if_false,aX,PU.aw];simp![bt,aB,bz,u,Pf,bf,aL,f,lr,eQ,E,Pg,PU.bB]
 rw[p9 (by rfl)];unfold cY;rw[show jn 2 [.tup [.int (n:Int),.tup []],li ns]=[J (.tup [.int (n:Int),.tup []]),J (li ns)]from rfl,bF];simp![cq,bY,aI,F,Pl,AA,Pg,n7,if_false,aX,PU.sZ]
def El.struck{n z:Nat}{ns:TR}{g:Nat->Nat->Rat}(h:El n z ns g){s:d_}:ir.p [x4 n g,li ns] s=.ok (.lst (((List.range n).map (l_ n ns g)).map oh)) s:=by
 have o:=h.o;have n12:=o.n12;have F:=o.len;have so:=JD (n:=n) (z:=z+1) (R:=ns) (g:=g) (by ext) (λi j=>by have:=h.si 0 i j (by ext);have:sz (g i j)<=z:=this;ext)
 have go:=h.run (sh:=x4 n g) (b:=T) (s:=s) n 0 (Aq n g) n [] Y Y Y (by ext) so.kf so.kl (by ext) rfl (λi j E a=>by
  have:j<n:=o.lt j (Ko a)
  unfold Aq;dsimp only
  rw[b_ this];rfl)
 rw[KI,NV,<-List.range_eq_range']at go;have u:f_ (ns.map inD')=I:=fH λd hd=>by
  obtain⟨x,_,rfl⟩:=mm.mp hd;rfl
 have C:kX.p [x4 n g,li ns,.dic T [] []] s=.ok (.lst (((List.range n).map (l_ n ns g)).map oh)) s:=by show(if f_ (ns.map inD')=I then OF [x4 n g,li ns,.dic T [] []] s else .bad)=_;rw[b_ u];unfold OF x4;dsimp only;rw[AJ n12];dsimp only;rw[b_ (by simp;ext)];unfold x4 at go;rw[go]
 have l:h_.p (x4 n g) (.int 0)=J (.int (n:Int)):=rfl;have B:∀{x y:D}{s:d_},(if [x,y].length<=100000 then PR.ok (D.tup [x,y]) s else .bad)=.ok (.tup [x,y]) s:=λ{x y s}=>b_ (by simp);have f:∀{s:d_},(if([]:TU).length<=100000 then PR.ok (D.tup []) s else .bad)=.ok (.tup []) s:=λ{s}=>b_ (by decide);rw[xP (by rfl)];unfold iq;rw[show jn 2 [x4 n g,li ns]=[J (x4 n g),J (li ns)]from rfl,aD,v3];simp![aI,cx,aB,bf,aL,l,Pf,f,B,E0 o,Pg,PU.aw];simp![bt,aI,IF,C,Pg,PU.bB]
def oX{n v:Int}:∀(f:TQ),(∀k∈f,∃a b:Int,k=[a,b]/\0<=a/\a<b/\b<n)->(((f.map kD).filter λx=>match x with|.tup [.int a,.int b]=>decide (b=v)|_=>T).map λx=>match x with|.tup [.int a,.int b]=>.int a|_=>.non)=(below v f).map D.int:=by
 intro f
 induction f with
 |nil=>intro _;rfl
 |cons k f l =>
  intro j;obtain⟨a,b,rfl,_⟩:=j k (by simp)
  have:=l λk i=>j k (l7 _ i)
  by_cases z:b=v<;>simp[below,kD,z]at this ⊢<;>exact this
def oV{n v:Int}:∀(f:TQ),(∀k∈f,∃a b:Int,k=[a,b]/\0<=a/\a<b/\b<n)->(((f.map kD).filter λx=>match x with|.tup [.int a,.int b]=>decide (a=v)|_=>T).map λx=>match x with|.tup [.int a,.int b]=>.int b|_=>.non)=(above v f).map D.int:=by
 intro f
 induction f with
 |nil=>intro _;rfl
 |cons k f l =>
  intro j;obtain⟨a,b,rfl,_⟩:=j k (by simp)
  have:=l λk i=>j k (l7 _ i)
  by_cases z:a=v<;>simp[above,kD,z]at this ⊢<;>exact this
def BH(v:Int)(a:TQ):TN:=below v a++above v a
def Td(f:TQ)(a b:Int):Prop:=[a,b]∈f\/[b,a]∈f
def Td.symm{f:TQ}{a b:Int}(h:Td f a b):Td f b a:=h.elim .inr .inl
inductive Wy(ks:TQ)(P:Int->Prop):Int->Int->Prop where
 |tie{a b:Int}:Td ks a b->Wy ks P a b
 |thru{a b c:Int}:Wy ks P a c->P c->Wy ks P c b->Wy ks P a b
def Wy.mono{f:TQ}{P Q:Int->Prop}(l:∀x,P x->Q x){a b:Int}(h:Wy f P a b):Wy f Q a b:=by
 induction h with
 |tie t=>exact .tie t
 |thru _ p _ i j=>exact .thru i (l _ p) j
def rY{n:Int}{f:TQ}(w:pk n f){a b:Int}(h:Td f a b):a≠b/\(0<=a/\a<n)/\0<=b/\b<n:=by rcases h with h|h<;>obtain⟨x,y,e,i,j,l⟩:=w.tie _ h<;>injection e with e1 e<;>injection e with e2 _<;>subst e1 e2<;>ext
def m4{n v x:Int}{i:TQ}(w:pk n i):x∈BH v i↔Td i v x:=by
 unfold BH Td below above;rw[wj,CY,CY];constructor
 .rintro (⟨k,f,e⟩|⟨k,f,e⟩)<;>obtain⟨a,b,rfl,_⟩:=w.tie k f
  .by_cases z:b=v
   .simp[z]at e;subst e z;exact .inr f
   .simp[z]at e
  .by_cases z:a=v
   .simp[z]at e;subst e z;exact .inl f
   .simp[z]at e
 .rintro (h|h)
  .exact .inr ⟨_,h,by simp⟩
  .exact .inl ⟨_,h,by simp⟩
def Ki(left:TN)(x:D):Bool:=match x with
 |.int i=>decide (i∈left)
 |_=>T
@[simp]theorem Nu{left:TN}{i:Int}:Ki left (.int i)=decide (i∈left):=rfl
theorem qP{left:TN}:∀(ns:TN),(((ns.map D.int).filter (Ki left)).map λx=>x)=(ns.filter λx=>decide (x∈left)).map D.int
 |[]=>rfl
 |i::ns=>by
  have a:=qP (left:=left) ns;rw[nc,List.filter_cons,List.filter_cons,Nu];by_cases z:i∈left<;>simp[z]at a ⊢<;>exact a
def AE{ns:TN}{j:Nat}(a:j<=ns.length):fC (ns.map D.int) (J (j:Int)) Y=(ns.drop j).map .int:=by unfold fC;rw[HT.jR,wv,HT.mY,Kz a,KJ];exact CV (by simp)
def JI{ns:TN}{k:Int}(a:0<=k):fC (ns.map D.int) Y (J k)=(ns.take k.toNat).map .int:=by
 obtain⟨j,rfl⟩:=ju a;unfold fC;rw[HT.jR,wv,HT.mY,BK,KI,Nat.sub_zero,List.map_take];by_cases z:j<=ns.length
 .rw[Kz z]
 .rw[Nat.min_eq_right (by ext),CV (by simp),CV (by simp;ext)]
abbrev qd(ks:TQ):D:=.tup (ks.map kD)
abbrev BO(ns:TR):TN:=ns.map λ(x:Nat)=>(x:Int)
def x5(v:Int)(a:TQ):TN:=above v a++below v a
def vg{n v x:Int}{a:TQ}(w:pk n a):x∈x5 v a↔Td a v x:=by
 have:=m4 (v:=v) (x:=x) w
 unfold BH at this;unfold x5;rw[wj]at this ⊢;exact⟨λh=>this.mp h.symm,λh=>(this.mpr h).symm⟩
def pE{n v:Int}{a:TQ}(w:pk n a):(x5 v a).Nodup/\(x5 v a).length<=12:=by
 obtain⟨nd,i⟩:=tW (v:=v) w;have pm:(below v a++above v a).Perm (x5 v a):=OV
 have:=List.Nodup.length_le_of_subset (l₂:=Cc 12) nd λx f=>by
  rw[ui]
  have:=i x f
  have:=w.n12
  ext
 exact⟨pm.nodup nd,by rw[<-pm.length_eq];simpa [Cc]using this⟩
def uv{n v:Int}{f:TQ}{s:d_}(w:pk n f):cN.p [qd f,.int v] s=.ok (.lst ((x5 v f).map .int)) s:=by
 have C:f.length<=66:=FH w.n12 w.tie w.nd;rw[xH (by rfl)];unfold iD;rw[show jn 2 [qd f,.int v]=[J (qd f),J (.int v)]from rfl]
 have z:=pe (ws:=[]) (ws':=[]) (env:=[J (qd f),J (.int v)]) (s:=s) (fm:=[1]) (i:=bo (aa 0)) (t:=xB (ac tu (aa 0) (aa 2))) (e:=aa 1) (ds:=f.map kD) (λx=>match x with|.tup [.int a,.int b]=>decide (a=v)|_=>T) (λx=>match x with|.tup [.int a,.int b]=>.int b|_=>.non) (by simp) (by simp;ext) (λx j=>by
   obtain⟨k,u,rfl⟩:=mm.mp j;obtain⟨a,b,rfl,_⟩:=w.tie k u
   exact⟨.int a,.int b,rfl,by simp[kD],λ_=>by simp[kD]⟩)
 have y:=pe (ws:=[]) (ws':=[]) (env:=[J (qd f),J (.int v)]) (s:=s) (fm:=[1]) (i:=bo (aa 0)) (t:=xB (ac tu (aa 1) (aa 2))) (e:=aa 0) (ds:=f.map kD) (λx=>match x with|.tup [.int a,.int b]=>decide (b=v)|_=>T) (λx=>match x with|.tup [.int a,.int b]=>.int a|_=>.non) (by simp) (by simp;ext) (λx j=>by
   obtain⟨k,u,rfl⟩:=mm.mp j;obtain⟨a,b,rfl,_⟩:=w.tie k u
   exact⟨.int a,.int b,rfl,by simp[kD],λ_=>by simp[kD]⟩)
 have z:=z.trans (congrArg (λl=>PR.ok (D.lst l) s) (oV f w.tie));have y:=y.trans (congrArg (λl=>PR.ok (D.lst l) s) (oX f w.tie));have B:=(pE (v:=v) w).2;unfold x5 at B ⊢;rw[BP]at B;rw[bt,aB,z,Pb,y,Pb,pY (by simp;ext)];simp
structure Se(n:Nat)(ks:TQ)(P:Int->Prop)(v:Int)(m:Nat)(fs:TN):Prop where
 nd:fs.Nodup
 bd:∀x∈fs,0<=x/\x<(n:Int)
 hd:fs[0]?=J v
 le:m<=fs.length
 so:∀x∈fs,x=v\/Wy ks P v x
 cl:∀i x,i<m->fs[i]?=J x->i=0\/P x->∀y,Td ks x y->y∈fs
def Se.len{n:Nat}{a:TQ}{P:Int->Prop}{v:Int}{m:Nat}{fs:TN}(h:Se n a P v m fs):fs.length<=n:=by
 have:=List.Nodup.length_le_of_subset (l₂:=Cc n) h.nd λx f=>ui.mpr (h.bd x f)
 simpa [Cc]using this
def Se.no{n:Nat}{f:TQ}{P:Int->Prop}{v x:Int}{m:Nat}{fs:TN}(h:Se n f P v m fs)(j:fs[m]?=J x)(c:¬(m=0\/P x)):Se n f P v (m+1) fs :=
 ⟨h.nd,h.bd,h.hd,(o_.mp j).1,h.so,λi y l a d z t=>by
  by_cases e:i=m
  .subst e;rw[j]at a;cases a;exact absurd d c
  .exact h.cl i y (by ext) a d z t⟩
def Se.step{n:Nat}{j:TQ}{P:Int->Prop}{v x:Int}{m:Nat}{fs:TN}(w:pk n j)(h:Se n j P v m fs)(l:fs[m]?=J x)(c:m=0\/P x):Se n j P v (m+1) (fs++(x5 x j).filter λy=>!decide (y∈fs)):=by
 have G:=(o_.mp l).1;have u:∀y,y∈(x5 x j).filter (λy=>!decide (y∈fs))↔Td j x y/\y∉fs:=λy=>by rw[y_,vg w];simp
 have C:∀y,Td j x y->y=v\/Wy j P v y:=λy t=>by
  rcases c with c|c
  .subst c;have e:=h.hd;rw[l]at e;cases e;exact .inr (.tie t)
  .rcases h.so x (AL l)with e|e
   .subst e;exact .inr (.tie t)
   .exact .inr (.thru e c (.tie t))
 refine⟨Kv.mpr ⟨h.nd,(pE w).1.filter _,λa E b B e=>?_⟩,λy f=>?_,?_,by simp;ext,λy f=>?_,λi y F f d z t=>?_⟩
 .subst e;exact((u a).mp B).2 E
 .rcases wj.mp f with f|f
  .exact h.bd y f
  .exact (rY w ((u y).mp f).1).2.2
 .rw[qi (by ext)];exact h.hd
 .rcases wj.mp f with f|f
  .exact h.so y f
  .exact C y ((u y).mp f).1
 .rw[qi (by ext)]at f;by_cases e:i=m
  .subst e;rw[l]at f;cases f;by_cases k:z∈fs
   .exact Bs _ k
   .exact u_ _ ((u z).mpr ⟨t,k⟩)
  .exact Bs _ (h.cl i y (by ext) f d z t)
def Se.all{n:Nat}{f:TQ}{P:Int->Prop}{v x:Int}{fs:TN}(h:Se n f P v fs.length fs)(z:x≠v):x∈fs↔Wy f P v x:=by
 refine⟨λm=>(h.so x m).resolve_left z,λwy=>?_⟩;have l:∀y,Td f v y->y∈fs:=h.cl 0 v (o_.mp h.hd).1 h.hd (.inl rfl);have key:∀a b,Wy f P a b->(∀y,Td f a y->y∈fs)->b∈fs/\(P b->∀y,Td f b y->y∈fs):=λa b wy=>by
  have ex:∀b,b∈fs->P b->∀y,Td f b y->y∈fs:=λb B p=>by
   obtain⟨i,u⟩:=B6.mp B;exact h.cl i b (o_.mp u).1 u (.inr p)
  induction wy with
  |tie t=>exact λH=>⟨H _ t,ex _ (H _ t)⟩
  |thru _ p _ i j=>exact λH=>j ((i H).2 p)
 exact(key v x wy l).1
abbrev OK:Xt [3]:=xB (ac IB (aa 4) (nz cM (ab (aa 3) a_)))
abbrev SH:Xt [3]:=(s_ (xB (ac tu (aa 4) (xC (.int 0)))) (xB (ac (BM T) (ac h_ (aa 3) (aa 4)) (Cp (aa 1) Cm (Co (aa 2))))))
abbrev Ta:Xe [3]:=(aU 1 [3] (bo (ao cN (ab (aa 0) (ab (ac h_ (aa 3) (aa 4)) a_)))) (ws':=[1]) (ki 0) (xB (ac (BM I) (aa 0) (aa 1))) (aa 0))
abbrev OL:Xd [3]:=(aH (ti SH (B2 t_ 3 (ab Ta a_)) iw)
 (bc 4 (ac bX (aa 4) (xC (.int 1)))))
abbrev Cd(ks:TQ)(qs:TN)(j:Nat)(fs:TN)(m:Nat):au:=[J (qd ks),J (.lst (qs.map .int)),J (.int (j:Int)),J (.lst (fs.map .int)),J (.int (m:Int))]
def JJ{n:Nat}{a:TQ}{qs:TN}{j:Nat}{v:Int}{s:d_}(w:pk n a)(n12:n<=12):∀(d N m:Nat)(fs:TN),n-m<=d->d+1<=N->Se n a (·∈qs.take j) v m fs ->
  ∃f,cA OK.p OL.p N (Cd a qs j fs m) s=.nx (Cd a qs j f f.length) s/\Se n a (·∈qs.take j) v f.length f:=by
 have stop:∀(N m:Nat)(fs:TN),¬m<fs.length->Se n a (·∈qs.take j) v m fs->∃f,cA OK.p OL.p (N+1) (Cd a qs j fs m) s=.nx (Cd a qs j f f.length) s/\Se n a (·∈qs.take j) v f.length f:=λN m fs M h=>by
  have:=h.le
  have em:m=fs.length:=by ext
  subst em;refine⟨fs,?_,h⟩;rw[cA]
  have:OK.p (Cd a qs j fs fs.length) s=.ok T s:=by simp
  rw[this,Pg,e_ (by simp)]
 intro d
 induction d with
 |zero =>
  intro N m fs hd hN h;obtain⟨N,rfl⟩:∃k,N=k+1:=⟨N-1,by ext⟩
  have:=h.len
  exact stop N m fs (by ext) h
 |succ d u =>
  intro N m fs hd hN h;obtain⟨N,rfl⟩:∃k,N=k+1:=⟨N-1,by ext⟩;have L:=h.len;by_cases em:m<fs.length
  .have l:fs[m]?=J fs[m]:=xg em;generalize fs[m]=x at l;have B:ng (fs.map D.int) (m:Int)=J (.int x):=L2.cC (by simp[l]);have ct:=JI (ns:=qs) (k:=(j:Int)) (by ext);rw[BK]at ct;have G:=k9 (neg:=T) (x:=x) (d:=.lst ((qs.take j).map .int)) (xs:=qs.take j) rfl;have F:OK.p (Cd a qs j fs m) s=.ok I s:=by simp[em]
   have to:SH.p (Cd a qs j fs m) s=.ok (decide (m=0\/x∈qs.take j)) s:=by
    by_cases z:m=0
    .simp[z]
    .have C:¬(m:Int)=0:=by ext
     dsimp![fu,bY,aB,am,bf,aL,eQ,dg,C,decide_false,n7,if_false,Pf,Pl,jW,B,sj,su,sv,sn,ct,wq,G,z,false_or]
   have E:=pE (v:=x) w
   have q:=wH (ws:=[3]) (ws':=[1]) (env:=Cd a qs j fs m) (s:=s) (fm:=[3]) (i:=bo (ao cN (ab (aa 0) (ab (ac h_ (aa 3) (aa 4)) a_)))) (t:=xB (ac (BM I) (aa 0) (aa 1))) (e:=aa 0) (ds:=(x5 x a).map .int) (λd=>!Ki fs d) (λd=>d) (by
     simp![eT,aI,aB,jW,B,Pf,uv w,qS]) (by rw[wv];ext) (λd hd=>by
     obtain⟨i,H,rfl⟩:=mm.mp hd
     exact⟨by simp[k9 (d:=.lst (fs.map .int)) rfl,Ki],λ_=>by simp⟩)
   have e3:(((x5 x a).map D.int).filter (λd=>!Ki fs d)).map (λd=>d)=((x5 x a).filter λy=>!decide (y∈fs)).map .int:=by rw[List.filter_map,q7];rfl
   rw[e3]at q;have fl:((x5 x a).filter λy=>!decide (y∈fs)).length<=12:=pf (CW _ _) E.2;rw[cA,F,Pg,b_ rfl];by_cases c:m=0\/x∈qs.take j
   .have bb:OL.p (Cd a qs j fs m) s=.nx (Cd a qs j (fs++(x5 x a).filter λy=>!decide (y∈fs)) (m+1)) s:=by
     rw[aD,bF,to,Pg,b_ (by simp[c]),jN (s1:=s) (as:=[.lst (((x5 x a).filter λy=>!decide (y∈fs)).map .int)]) (ds:=fs.map .int) (ds':=(fs++(x5 x a).filter λy=>!decide (y∈fs)).map .int) (r:=.non) (by rw[af,q];rfl) rfl (by rw[qN (by simp;ext),KA]),PU.aw];simp
    rw[bb];exact u N (m+1) _ (by ext) (by ext) (h.step w l c)
   .have bb:OL.p (Cd a qs j fs m) s=.nx (Cd a qs j fs (m+1)) s:=by
     rw[aD,bF,to,Pg,e_ (by simpa using c),aX,PU.aw];simp
    rw[bb];exact u N (m+1) _ (by ext) (by ext) (h.no l c)
  .exact stop N m fs em h
def Nv{n:Nat}{ks:TQ}{qs:TN}{j:Nat}{v:Int}{s:d_}(w:pk n ks)(n12:n<=12)(G:qs.length<=12)(bd:∀x∈qs,0<=x/\x<(n:Int))(f:qs[j]?=J v)(B:v∉qs.drop (j+1)):∃l:TN,dI.p [qd ks,.lst (qs.map .int),.int (j:Int)] s=.ok (.lst (l.map .int)) s/\l.Sublist qs/\∀x:Int,x∈l↔x∈qs.drop (j+1)/\Wy ks (·∈qs.take j) v x:=by
 have F:j<qs.length:=(o_.mp f).1;have E:=bd _ (AL f);obtain⟨fs,e,h⟩:=JJ (j:=j) (v:=v) (s:=s) (qs:=qs) w n12 n 2000000 0 [v] (by ext) (by ext) ⟨by simp,λx a=>by rw[Kt.mp a];exact E,rfl,by simp,λx a=>.inl (Kt.mp a),λi x y=>by ext⟩;have H:=h.len;have u:=AE (ns:=qs) (j:=j+1) (by ext);push_cast at u
 have q:=wH (ws:=[3]) (ws':=[1]) (env:=Cd ks qs j fs fs.length) (s:=s) (fm:=[3]) (i:=bo (Cp (aa 1) (Co (ac bX (aa 2) (xC (.int 1)))) Cm)) (t:=xB (ac (BM T) (aa 0) (aa 1))) (e:=aa 0) (ds:=(qs.drop (j+1)).map .int) (Ki fs) (λx=>x) (by simp[u]) (by simp;ext) (λx a=>by
   obtain⟨i,y,rfl⟩:=mm.mp a
   exact⟨by simp[k9 (d:=.lst (fs.map .int)) rfl],λ_=>by simp⟩)
 rw[qP]at q;refine⟨(qs.drop (j+1)).filter λx=>decide (x∈fs),?_,List.filter_sublist.trans (F7 _ _),λx=>?_⟩
 .rw[wN (by rfl)];unfold gA;rw[show jn 5 [qd ks,.lst (qs.map .int),.int (j:Int)]=[J (qd ks),J (.lst (qs.map .int)),J (.int (j:Int)),Y,Y]from rfl];have C:ng (qs.map D.int) (j:Int)=J (.int v):=L2.cC (by simp[f]);rw[aD,lZ];simp![gu,aB,jW,C,Pf,B8,NX,show(0+1:Nat)<=100000 by decide,if_true,lI,Pg,y6,y4,PU.aw,aD,bM,bf,aL];rw[xv jt];refine(congrArg (λz:PS=>(z.then _).fin) e).trans ?_;rw[PU.aw,bt,q];rfl
 .rw[y_,decide_eq_true_iff];exact and_congr_right λa=>h.all λz=>B (z▸a)
def JK{a p:Rat}(f:0<p)(j:a<=0):a/p<=0:=by
 have e:a/p*p=a:=by grind
 refine Classical.byContradiction λh=>?_;have i:0<a/p:=by grind
 have:=Rat.mul_pos i f
 grind
def Rt{a p:Rat}(j:0<p)(i:a<0):a/p<0:=by
 have e:a/p*p=a:=by grind
 refine Classical.byContradiction λh=>?_;have f:0<=a/p:=by grind
 have:=Rat.mul_nonneg f (by grind:(0:Rat)<=p)
 grind
def wJ{a b:Rat}(i:a<=0)(f:b<=0):0<=a*b:=by
 have:=Rat.mul_nonneg (by grind:(0:Rat) <= -a) (by grind:(0:Rat) <= -b)
 grind
def Nw{a b:Rat}(i:a<0)(f:b<0):0<a*b:=by
 have:=Rat.mul_pos (by grind:(0:Rat) < -a) (by grind:(0:Rat) < -b)
 grind
def xW{f:Nat->Rat}:∀{l:TR},(∀j∈l,f j<=0)->(l.map f).sum<=0
 |[],_=>by simp
 |j::l,h=>by
  have:=xW (l:=l) λx a=>h x (l7 _ a)
  have:=h j (by simp)
  rw[nc,F9];grind
def vM{f h:Nat->Rat}{c:Rat}:∀{l:TR},(l.map λj=>f j-c*h j).sum=(l.map f).sum-c*(l.map h).sum
 |[]=>by simp only[F_,List.sum_nil];grind
 |j::l=>by
  rw[nc,F9,vM,nc,F9,nc,F9];grind
def Ap{f:TQ}{P:Int->Prop}{v a b:Int}(h:Wy f (λx=>P x\/x=v) a b):Wy f P a b\/(Wy f P a v/\Wy f P v b):=by
 induction h with
 |tie t=>exact .inl (.tie t)
 |thru _ p _ i j =>
  rcases p with p|p
  .rcases i with i|⟨l,y⟩<;>rcases j with j|⟨z,u⟩
   .exact .inl (.thru i p j)
   .exact .inr ⟨.thru i p z,u⟩
   .exact .inr ⟨l,.thru y p j⟩
   .exact .inr ⟨l,u⟩
  .subst p;exact .inr ⟨i.elim id (·.1),j.elim id (·.2)⟩
def E1{f:TQ}{P:Int->Prop}{a b:Int}(i:∀x,¬P x)(h:Wy f P a b):Td f a b:=by
 cases h with
 |tie t=>exact t
 |thru _ p _=>exact absurd p (i _)
structure Sg(ks:TQ)(ns:TR)(g:Nat->Nat->Rat)(k:Nat):Prop where
 sy:∀i j,av ns g k i j=av ns g k j i
 np:∀i j,i∈ns.drop k->j∈ns.drop k->i≠j->av ns g k i j<=0
 rs:∀i,i∈ns.drop k->0<((ns.drop k).map (av ns g k i)).sum
 wy:∀i j,i∈ns.drop k->j∈ns.drop k->i≠j->(av ns g k i j≠0↔Wy ks (·∈BO (ns.take k)) (i:Int) (j:Int))
def Sg.pv{n k:Nat}{z:TQ}{ns:TR}{g:Nat->Nat->Rat}(o:On n ns)(y:k<n)(h:Sg z ns g k):0<av ns g k (hI ns k) (hI ns k):=by
 have i:=cT (ia o y);have a:hI ns k∈ns.drop k:=by rw[i];simp
 have:=h.rs _ a
 rw[i,nc,F9]at this;have q:=xW (f:=av ns g k (hI ns k)) (l:=ns.drop (k+1)) λj u=>h.np _ j a (by rw[i];exact l7 _ u) λe=>by
  have nd:=o.nd.sublist (F7 k ns);rw[i,xk]at nd;exact nd.1 (e▸u)
 grind
def Sg.step{n k:Nat}{E:TQ}{ns:TR}{g:Nat->Nat->Rat}(o:On n ns)(O:k<n)(h:Sg E ns g k):Sg E ns g (k+1):=by
 have H:=cT (ia o O);have G:=h.pv o O;have u:hI ns k∈ns.drop k:=by rw[H];simp
 have up:∀x,x∈ns.drop (k+1)->x∈ns.drop k:=λx C=>by rw[H];exact l7 _ C
 have ne:∀x,x∈ns.drop (k+1)->x≠hI ns k:=λx C e=>by
  have nd:=o.nd.sublist (F7 k ns);rw[H,xk]at nd;exact nd.1 (e▸C)
 have st:∀i j,av ns g (k+1) i j=av ns g k i j-av ns g k i (hI ns k)/av ns g k (hI ns k) (hI ns k)*av ns g k (hI ns k) j:=λi j=>rfl;have M:∀i,i∈ns.drop (k+1)->av ns g k i (hI ns k)<=0:=λi l=>h.np i _ (up i l) u (ne i l);have Q:∀j,j∈ns.drop (k+1)->av ns g k (hI ns k) j<=0:=λj B=>h.np _ j u (up j B) (Ne.symm (ne j B));refine⟨λi j=>?_,λi j l B e=>?_,λi l=>?_,λi j l B e=>?_⟩
 .rw[st,st,h.sy i j,h.sy i (hI ns k),h.sy (hI ns k) j];grind
 .have a:=h.np i j (up i l) (up j B) e;have b:=wJ (JK G (M i l)) (Q j B);rw[st];grind
 .have a:=h.rs i (up i l);have b:=h.rs _ u;rw[H,nc,F9]at a b;have e:((ns.drop (k+1)).map (av ns g (k+1) i)).sum=((ns.drop (k+1)).map (av ns g k i)).sum-av ns g k i (hI ns k)/av ns g k (hI ns k) (hI ns k)*((ns.drop (k+1)).map (av ns g k (hI ns k))).sum:=vM;rw[e];have c:=JK G (M i l);have d:av ns g k i (hI ns k)/av ns g k (hI ns k) (hI ns k)*av ns g k (hI ns k) (hI ns k)=av ns g k i (hI ns k):=by grind
  generalize av ns g k i (hI ns k)/av ns g k (hI ns k) (hI ns k)=c0 at c d e ⊢;generalize ((ns.drop (k+1)).map (av ns g k (hI ns k))).sum=s1 at b e ⊢;generalize ((ns.drop (k+1)).map (av ns g k i)).sum=s2 at a e ⊢;have f:=wJ c (show -(av ns g k (hI ns k) (hI ns k)+s1)<=0 by grind)
  grind
 .have wi:=h.wy i _ (up i l) u (ne i l);have W:=h.wy _ j u (up j B) (Ne.symm (ne j B));have P:=h.wy i j (up i l) (up j B) e;have a:=h.np i j (up i l) (up j B) e;have U:=M i l;have X:=Q j B;have F:∀x:Int,x∈BO (ns.take (k+1))↔x∈BO (ns.take k)\/x=(hI ns k:Int):=λx=>by
   rw[List.take_add_one,ia o O];simp[BO]
  have Z:Wy E (·∈BO (ns.take (k+1))) (i:Int) (j:Int)↔Wy E (·∈BO (ns.take k)) (i:Int) (j:Int)\/(Wy E (·∈BO (ns.take k)) (i:Int) (hI ns k:Int)/\Wy E (·∈BO (ns.take k)) (hI ns k:Int) (j:Int)):=by
   constructor
   .intro q;exact Ap (q.mono λx C=>(F x).mp C)
   .rintro (q|⟨S,R⟩)
    .exact q.mono λx C=>(F x).mpr (.inl C)
    .exact .thru (S.mono λx C=>(F x).mpr (.inl C)) ((F _).mpr (.inr rfl)) (R.mono λx C=>(F x).mpr (.inl C))
  rw[Z,<-P,<-wi,<-W,st];constructor
  .intro q;refine Classical.byContradiction λz=>q ?_;have z1:av ns g k i j=0:=Classical.byContradiction λy=>z (.inl y);have L:av ns g k i (hI ns k)=0\/av ns g k (hI ns k) j=0:=Classical.byContradiction λy=>z (.inr ⟨λw=>y (.inl w),λw=>y (.inr w)⟩);rcases L with L|L<;>rw[z1,L]<;>grind
  .rintro (q|⟨S,R⟩)
   .have b:=wJ (JK G U) X
    grind
   .have b:=Nw (Rt G (show av ns g k i (hI ns k)<0 by grind)) (show av ns g k (hI ns k) j<0 by grind)
    grind
def Sg.all{n:Nat}{a:TQ}{ns:TR}{g:Nat->Nat->Rat}(o:On n ns)(h:Sg a ns g 0):∀k,k<=n->Sg a ns g k
 |0,_=>h
 |k+1,f=>(Sg.all o h k (by ext)).step o (by ext)
def Ov(e:Nat)(A:Nat->Nat->Rat):Prop:=∃E:Nat,E≠0/\E<2^e/\∀i j,∃a:Int,A i j=Rat.divInt a E/\a.natAbs<2^e
def Ov.sz{e:Nat}{A:Nat->Nat->Rat}(u:0<e)(h:Ov e A)(i j:Nat):sz (A i j)<=e:=by obtain⟨E,e0,e1,h⟩:=h;obtain⟨a,l,f⟩:=h i j;rw[l];exact oN e0 u f e1
def Ov.step{e v:Nat}{A:Nat->Nat->Rat}(h:Ov e A)(hv:A v v≠0):Ov (2*e+1) λi j=>A i j-A i v/A v v*A v j:=by
 obtain⟨E,e0,e1,h⟩:=h;obtain⟨b,u,l⟩:=h v v;have R:((E:Int):Rat)≠0:=by
  have:(E:Int)≠0:=by ext
  exact_mod_cast this
 have B:b≠0:=λz=>hv (by rw[u,z];simp);have S:(b:Rat)≠0:=by exact_mod_cast B
 have Q:2^(2*e+1)=2^e*2^e+2^e*2^e:=by rw[Pp,Nat.two_mul,Nat.pow_add];ext
 have f:∀x y:Int,x.natAbs<2^e->y.natAbs<2^e->(x*y).natAbs<2^e*2^e:=λx y G O=>by
  rw[C2];exact O_ G O
 refine⟨E*b.natAbs,KD e0 (by ext),?_,λi j=>?_⟩
 .have:=O_ e1 l
  ext
 .obtain⟨a,F,M⟩:=h i j;obtain⟨c,H,C⟩:=h i v;obtain⟨d,L,hd⟩:=h v j;have key:A i j-A i v/A v v*A v j=Rat.divInt (a*b-c*d) ((E:Int)*b):=by
   rw[F,u,H,L];simp only[Rat.divInt_eq_div];push_cast
   grind
  have P:=f a b M l;have U:=f c d C hd;refine⟨if(E:Int)*b<0 then -(a*b-c*d)else a*b-c*d,?_,?_⟩
  .show A i j-A i v/A v v*A v j=_;rw[key,Ju (KH (by ext) B),C2,Int.natAbs_natCast]
  .split<;>ext
def ex:Nat->Nat
 |0=>5
 |k+1=>2*ex k+1
def Nx:∀k,k<=12->0<ex k/\ex k<=30000:=by decide
def FS{n:Nat}{ns:TR}{g:Nat->Nat->Rat}(a:Ov 5 g)(pv:∀k,k<n->av ns g k (hI ns k) (hI ns k)≠0):∀k,k<=n->Ov (ex k) (av ns g k)
 |0,_=>a
 |k+1,f=>(FS a pv k (by ext)).step (pv k (by ext))
def FT(k f:TN):Prop:=∃a b c d:Int,k=[a,b]/\f=[c,d]/\(a<c\/(a=c/\b<d))
def E2{k f:TN}(h:FT k f):bD f k=T:=by
 obtain⟨a,b,c,d,rfl,rfl,h⟩:=h;simp only[bD];by_cases z:c=a
 .rw[b_ z]
  have:¬d=b:=by ext
  rw[e_ this];simp;ext
 .rw[e_ z];simp;ext
def JL{k f:TN}(h:FT k f):k≠f:=by
 obtain⟨a,b,c,d,rfl,rfl,h⟩:=h;intro e;injection e with e1 e
 injection e with e2 _
 ext
def qB{g:D->au->Option au}{t:au->d_->PR Bool}{e:au->d_->PR D}(S:au->Prop)(f:D->D):∀(l:TU)(env:au)(s:d_),S env ->
  (∀x∈l,∀env s,S env->∃a,g x env=J a/\S a/\∃b u,t a s=.ok b u/\(b=I->e a u=.ok (f x) u))->∃(xs:TU)(G:d_),dB g t e l env s=.ok (xs.map f) G/\xs.Sublist l
 |[],env,s,C,i=>⟨[],s,rfl,List.Sublist.refl _⟩
 |x::l,env,s,C,i=>by
  obtain⟨a,e1,z,b,u,e2,e3⟩:=i x (by simp) env s C;have j:=λy F=>i y (l7 x F);obtain⟨r,E,e5,B⟩:=qB S f l a u z j;rw[dB,e1];dsimp only;rw[e2,Pb]
  cases b with
  |true=>exact⟨x::r,E,by simp only[if_true,e3 rfl,Pb,e5];rfl,B.cons_cons x⟩
  |false=>exact⟨r,E,by simp only[n7,if_false,e5],B.cons x⟩
def xV{ws ws':TR}{env:au}{s s0:d_}{fm:TR}{i:Xi ws}{t:Xt ws'}{e:Xe ws'}{ds:TU}(f:D->D)(H:i.p env s=.ok ds s0)(G:ds.length<=100000)(a:∀x∈ds,∀s,∃b j,t.p (J x::fm.map λi=>(env[i]?).getD Y) s=.ok b j/\(b=I->e.p (J x::fm.map λi=>(env[i]?).getD Y) j=.ok (f x) j))(y:ws'.contains 0=T:=by exact ys rfl)(C:B1 1 fm ws=ws':=by exact ys rfl)(l:e.fz=I:=by exact ys rfl):
  ∃(xs:TU)(u:d_),(aU 1 fm i (ki 0 y) t e C l).p env s=.ok (.lst (xs.map f)) u/\xs.Sublist ds:=by
 obtain⟨r,u,e1,F⟩:=qB (g:=(ki 0 y:Xg ws').p) (t:=t.p) (e:=e.p) (λv=>∃z,v=z::fm.map λi=>(env[i]?).getD Y) f ds (wm 1 fm env) s0 ⟨Y,rfl⟩ λx E B s ⟨z,l⟩=>by
  subst l;obtain⟨b,j,e2,e3⟩:=a x E s;exact⟨_,rfl,⟨J x,rfl⟩,b,j,e2,e3⟩
 refine⟨r,u,?_,F⟩;rw[nj,H,Pb,b_ G,e1]
abbrev Tb:Xe [3]:=(aU 1 [4,0,2] (bU Mj (ab (ac bX (aa 4) (xC (.int 1))) (ab (aa 1) a_))) (ws':=[]) (ki 0) (xB (ac tu (ao cL (ab (aa 2) (ab (aa 3) a_))) (xC (.int 0)))) (aO (ab (aa 1) (ab (aa 0) a_))))
def JM{n:Nat}{m:Int}{s:d_}(hn:n<=12)(Q:0<m)(h1:m<=7):∃f B,ip.p [.pen,.int n,.int m] s=.ok (qd f) B/\pk n f:=by
 obtain⟨O,B,e,G,f,rfl,lt,tie,kl⟩:=fS (g:=(ki 4:Xg [3]).p) (b:=(B2 t_ 3 (ab Tb a_):Xd [3]).p)
  (λa env B=>∃G f,env=[J .pen,J (.int n),J (.int m),J (.lst ((f:TQ).map kD)),G]/\f.Pairwise FT/\(∀k∈f,∃x y:Int,k=[x,y]/\0<=x/\x<y/\y<n/\x<a)/\f.length<=12*a) (cP 0 n) 0 [J .pen,J (.int n),J (.int m),J (.lst []),Y] s ⟨Y,[],rfl,.nil,by simp,by simp⟩ (λa env B d ⟨G,f,W,lt,tie,kl⟩ hd=>by
   rw[AO]at tie kl ⊢;subst W;obtain⟨rfl,ha⟩:=im hd
   obtain⟨xs,C,c,sub⟩:=xV (ws:=[3]) (ws':=[]) (env:=[J .pen,J (.int n),J (.int m),J (.lst (f.map kD)),J (.int (a:Int))]) (s:=B) (s0:=B) (fm:=[4,0,2]) (i:=bU Mj (ab (ac bX (aa 4) (xC (.int 1))) (ab (aa 1) a_))) (t:=xB (ac tu (ao cL (ab (aa 2) (ab (aa 3) a_))) (xC (.int 0)))) (e:=aO (ab (aa 1) (ab (aa 0) a_))) (ds:=cP ((a:Int)+1) (n-1-a)) (λx=>.tup [.int (a:Int),x]) (by
     simp![eZ,aB,bf,aL,fK,Pf]
     rw[Mp ⟨by ext,by ext⟩,show((n:Int)-((a:Int)+1)).toNat=n-1-a by ext,Pf]) (by rw[kB];ext) (λx R s=>by
     obtain⟨d,C,_,_,S⟩:=lD (s:=s) (size:=m) Q (by ext);refine⟨decide (d=0),C,?_,λ_=>?_⟩
     .show (xB (ac tu (ao cL (ab (aa 2) (ab (aa 3) a_))) (xC (.int 0))):Xt []).p [J x,J (.int (a:Int)),J .pen,J (.int m)] s=_;simp[S]
     .show (aO (ab (aa 1) (ab (aa 0) a_)):Xe []).p [J x,J (.int (a:Int)),J .pen,J (.int m)] C=_
      simp)
   have X:cP ((a:Int)+1) (n-1-a)=(List.range (n-1-a)).map λi=>.int ((a:Int)+1+(i:Nat)):=rfl;rw[X]at sub;obtain⟨l,L,rfl⟩:=List.sublist_map_iff.mp sub;have U:l.Pairwise (·<·):=Kl.sublist L;have ll:l.length<=n-1-a:=by have:=L.length_le;simpa using this
   have e2:(l.map λi=>D.int ((a:Int)+1+(i:Nat))).map (λx=>D.tup [.int (a:Int),x])=(l.map λi:Nat=>[(a:Int),(a:Int)+1+i]).map kD:=by rw[q7,q7];rfl
   rw[e2]at c;refine⟨[J .pen,J (.int n),J (.int m),J (.lst (f.map kD)),J (.int (a:Int))],[J .pen,J (.int n),J (.int m),J (.lst ((f++l.map λi:Nat=>[(a:Int),(a:Int)+1+i]).map kD)),J (.int (a:Int))],C,rfl,?_,_,_,rfl,?_,?_,?_⟩
   .rw[jN (s1:=C) (as:=[.lst ((l.map λi:Nat=>[(a:Int),(a:Int)+1+i]).map kD)]) (ds:=f.map kD) (ds':=(f++l.map λi:Nat=>[(a:Int),(a:Int)+1+i]).map kD) (r:=.non) (by rw[af,c];rfl) rfl (by rw[qN (by simp;ext),KA])];rfl
   .refine NM.mpr ⟨lt,?_,λk u Z E=>?_⟩
    .rw[C0];exact U.imp λ{i j} h=>⟨_,_,_,_,rfl,rfl,.inr ⟨rfl,by ext⟩⟩
    .obtain⟨x,y,rfl,_,_,_,R⟩:=tie k u;obtain⟨i,_,rfl⟩:=mm.mp E;exact⟨_,_,_,_,rfl,rfl,.inl (by ext)⟩
   .intro k u;rcases wj.mp u with u|u
    .obtain⟨x,y,rfl,F,H,M,b4⟩:=tie k u;exact⟨x,y,rfl,F,H,M,by ext⟩
    .obtain⟨i,P,rfl⟩:=mm.mp u
     have:=BQ.mp (L.subset P)
     exact⟨_,_,rfl,by ext,by ext,by ext,by ext⟩
   .rw[BP,wv];ext)
 refine⟨f,B,?_,⟨by ext,by ext,λk u=>?_,lt.imp E2,lt.imp JL⟩⟩
 .rw[zb (by rfl)];unfold iB;rw[show jn 5 [D.pen,.int n,.int m]=[J .pen,J (.int n),J (.int m),Y,Y]from rfl,aD,lZ];simp only[gu,ak,Pb,NX,wB,if_true,lI,Pg,y6,y4,PU.aw];rw[aD,gf,eZ,af];dsimp![am,ak];rw[m8 (by ext),BK,Pf,Pg];refine(congrArg (λz:PS=>(z.then _).fin) e).trans ?_;simp![PU.aw,bt,bz,cU,Pf,Pg,PU.bB]
 .obtain⟨x,y,rfl,F,H,M,_⟩:=tie k u;exact⟨x,y,rfl,F,H,M⟩
def jh(k:Nat)(d:D):Prop:=∃x,py d=J x/\w6 d<=k/\x.canLay0=I/\x.depth<=k
def og{i:Int}{k:Nat}:jh k (.int i):=⟨.int i,rfl,by simp[w6],rfl,by simp[PyData.depth]⟩
def zX{k:Nat}{a:TU}(h:∀d∈a,jh k d):∃xs,BX a=J xs/\vv a<=k/\PyData.canLayAll0 xs=I/\PyData.depthAll xs<=k:=by
 induction a with
 |nil=>exact⟨[],rfl,by simp[vv],rfl,by simp[PyData.depthAll]⟩
 |cons d a l =>
  obtain⟨xs,u,C,f,y⟩:=l λd hd=>h d (l7 _ hd);obtain⟨x,j,z,i,B⟩:=h d (by simp);exact⟨x::xs,by simp[BX,u,j],by simp only[vv];ext,by simp[PyData.canLayAll0,f,i],by simp only[PyData.depthAll];ext⟩
def ig{k:Nat}{a:TU}(h:∀d∈a,jh k d):jh (k+1) (.tup a):=by obtain⟨xs,i,l,f,j⟩:=zX h;exact⟨.tuple xs,by simp[py,i],by simp only[w6];ext,by simpa [PyData.canLay0]using f,by simp only[PyData.depth];ext⟩
def AT{k:Nat}{t b:Int}:jh (k+1) (nD t b):=ig λd hd=>by
 simp only[mx,CJ,or_false]at hd;rcases hd with rfl|rfl<;>exact og
def yG{d:D}{a:Bool}(h:jh 60 d):Av a d d=J (.bl (!a)):=by obtain⟨x,j,i,f,l⟩:=h;unfold Av;rw[j];dsimp only;rw[b_ ⟨⟨i,i⟩,iY f (by ext),iY f (by ext)⟩,SeqAt.eqv_refl x f];cases a<;>rfl
instance {ks:TQ} {a b:Int}:Decidable (Td ks a b):=inferInstanceAs (Decidable (_\/_))
def gS(n:Nat)(a:TQ)(i j:Nat):Rat:=if i<n/\j<n then(if i=j then(n:Rat)else if Td a (i:Int) (j:Int)then -1 else 0)else 0
def oG{n i j:Nat}{a:TQ}(w:pk n a)(f:i<n)(l:j<n):gS n a i j≠0↔j=i\/Td a (i:Int) (j:Int):=by
 unfold gS;rw[b_ ⟨f,l⟩];by_cases e:i=j
 .have n0:(n:Rat)≠0:=by
   have:(n:Int)≠0:=by ext
   exact_mod_cast this
  rw[b_ e];exact⟨λ_=>.inl e.symm,λ_=>n0⟩
 .rw[e_ e];by_cases t:Td a (i:Int) (j:Int)
  .rw[b_ t];exact⟨λ_=>.inr t,λ_=>by decide⟩
  .rw[e_ t];exact⟨λz=>absurd rfl z,λz=>z.elim (λq=>absurd q.symm e) λq=>absurd q t⟩
def yj{n:Nat}:qD (n:Rat)=.tup [.int (n:Int),.int 1]:=by simp[qD,nD]
def FU:qD (-1)=.tup [.int (-1),.int 1]:=rfl
def yV{n v:Nat}{s:d_}(h:v<n):du.p [.int (n:Int),inD' v] s=.ok .non s:=by rw[pI (by rfl)];unfold c9;rw[show jn 2 [.int (n:Int),inD' v]=[J (.int (n:Int)),J (inD' v)]from rfl,bF];simp![cq,bY,aI,vf h,Pl,AA,Pg,n7,if_false,aX,PU.sZ]
def nk{n v:Int}{a:TQ}(w:pk n a):(BH v a).length<=12:=by
 have:=(pE (v:=v) w).2
 unfold x5 at this;unfold BH;rw[BP]at this ⊢;ext
def Ny{n v:Nat}{f:TQ}{s:d_}(w:pk n f)(hv:v<n):cr.p [.tup [.int (n:Int),qd f],inD' v] s=.ok (.lst ((BH v f).map .int)) s:=by
 have F:f.length<=66:=FH w.n12 w.tie w.nd;have E:h_.p (.tup [.int (n:Int),qd f]) (.int 0)=J (.int (n:Int)):=rfl;have B:h_.p (.tup [.int (n:Int),qd f]) (.int 1)=J (qd f):=rfl;rw[rP (by rfl)];unfold dN;rw[show jn 4 [.tup [.int (n:Int),qd f],inD' v]=[J (.tup [.int (n:Int),qd f]),J (inD' v),Y,Y]from rfl]
 have z:=pe (ws:=[]) (ws':=[]) (env:=[J (.tup [.int (n:Int),qd f]),J (inD' v),Y,Y]) (s:=s) (fm:=[1]) (i:=bo (ac h_ (aa 0) (xC (.int 1)))) (t:=xB (ac tu (aa 1) (aa 2))) (e:=aa 0) (ds:=f.map kD) (λx=>match x with|.tup [.int a,.int b]=>decide (b=(v:Int))|_=>T) (λx=>match x with|.tup [.int a,.int b]=>.int a|_=>.non) (by simp[B]) (by simp;ext) (λx j=>by
   obtain⟨k,u,rfl⟩:=mm.mp j;obtain⟨a,b,rfl,_⟩:=w.tie k u
   exact⟨.int a,.int b,rfl,by simp[kD],λ_=>by simp[kD]⟩)
 have z:=z.trans (congrArg (λl=>PR.ok (D.lst l) s) (oX f w.tie))
 have y:=pe (ws:=[]) (ws':=[]) (env:=[J (.tup [.int (n:Int),qd f]),J (inD' v),J (.lst ((below v f).map .int)),Y]) (s:=s) (fm:=[1]) (i:=bo (ac h_ (aa 0) (xC (.int 1)))) (t:=xB (ac tu (aa 0) (aa 2))) (e:=aa 1) (ds:=f.map kD) (λx=>match x with|.tup [.int a,.int b]=>decide (a=(v:Int))|_=>T) (λx=>match x with|.tup [.int a,.int b]=>.int b|_=>.non) (by simp[B]) (by simp;ext) (λx j=>by
   obtain⟨k,u,rfl⟩:=mm.mp j;obtain⟨a,b,rfl,_⟩:=w.tie k u
   exact⟨.int a,.int b,rfl,by simp[kD],λ_=>by simp[kD]⟩)
 have y:=y.trans (congrArg (λl=>PR.ok (D.lst l) s) (oV f w.tie));have C:=nk (v:=(v:Int)) w;unfold BH at C ⊢;rw[BP]at C;rw[aD,v3];simp![aI,aB,bf,aL,E,Pf,yV hv,Pg,PU.aw];rw[aD,bM,z,Pg];simp only[y6,y4,PU.aw];rw[aD,bM,y,Pg];simp only[y6,y4,PU.aw];rw[bt,aB];dsimp![am];rw[pY (by simp;ext)];simp
def g7(m p:Nat):TR:=p::(List.range m).map λi=>if i<p then i else i+1
def yt:∀m,m<13->∀p,p<m+1->wA (g7 m p)=I:=by decide +kernel
def Ab{a:TN}{b:Int}(h:a.Pairwise (·<·))(nb:b∉a)(u:a.length<13):ff (b::a):=by
 obtain⟨p,y,q⟩:=zi h nb;refine⟨g7 a.length p,yt _ u p (by ext),by simp[g7],λi j f l=>?_⟩;have e:∀i,i<a.length->(g7 a.length p).getD (i+1) 0=if i<p then i else i+1:=λi f=>by
  unfold g7;rw[F5,Fd,qo,Ks f];rfl
 have e0:(g7 a.length p).getD 0 0=p:=rfl;rw[B8]at f l
 cases i with
 |zero =>
  cases j with
  |zero=>rw[Kr,e0];ext
  |succ j =>
   have:=q j (by ext)
   rw[Kr,F5,e0,e j (by ext)]
   split<;>ext
 |succ i =>
  cases j with
  |zero =>
   have:=q i (by ext)
   rw[Kr,F5,e0,e i (by ext)]
   split<;>ext
  |succ j =>
   rw[F5,F5,e i (by ext),e j (by ext),Ex h (by ext) (by ext)]
   split<;>split<;>ext
abbrev CU(n v:Nat)(ks:TQ):TU:=ln (v,(n:Rat))::(BH v ks).map λx=>.tup [.int x,qD (-1)]
def JN{n v:Int}{f:TQ}(w:pk n f):(BH v f).Pairwise (·<·):=by have nd:(BH v f).Nodup:=(tW w).1;have le:(BH v f).Pairwise (·<=·):=Ek w;refine(F1.mpr λi j l u lt=>?_);have a:=F1.mp le i j l u lt;have b:=F1.mp nd i j l u lt;ext
def FV{n v:Int}{a:TQ}(w:pk n a):v∉BH v a:=λm=>(rY w ((m4 w).mp m)).1 rfl
def AX{n:Nat}{f:Nat->Rat}:((bO n f).map ln).Pairwise λa b=>xu a<=xu b:=by
 unfold bO;rw[q7,C0];exact(Kl.filter _).imp λ{a b} h=>by
  show((a:Nat):Int)<=((b:Nat):Int);ext
def Nz{n v:Nat}{i:TQ}(w:pk n i)(hv:v<n):lP.p [.lst (CU n v i)]=J (.lst ((bO n (gS n i v)).map ln)):=by
 have n12:=w.n12;have Q:=nk (v:=(v:Int)) w;have keys:(CU n v i).map xu=(v:Int)::BH v i:=by show(v:Int)::((BH v i).map _).map xu=_;rw[q7];congr 1;exact(CH (g:=id) λ_ _=>rfl).trans (N0 _)
 have nd:((CU n v i).map xu).Nodup:=by rw[keys,xk];exact⟨FV w,(tW w).1⟩
 have so:SortT.ff ((CU n v i).map xu):=by rw[keys];exact Ab (JN w) (FV w) (by ext)
 have pm:((bO n (gS n i v)).map ln).Perm (CU n v i):=by
  have u:∀d,d∈(bO n (gS n i v)).map ln↔d∈CU n v i:=λd=>by
   constructor
   .intro h;obtain⟨p,y,rfl⟩:=mm.mp h;obtain⟨j,z,rfl⟩:=mm.mp y;obtain⟨C,H⟩:=y_.mp z;have l:=BQ.mp C;have E:gS n i v j≠0:=by simpa using H
    rcases(oG w hv l).mp E with e|t
    .subst e
     have:gS n i j j=n:=by unfold gS;rw[b_ ⟨hv,hv⟩,b_ rfl]
     rw[this];exact x_
    .have ne:¬v=j:=λe=>(rY w t).1 (by rw[e])
     have:gS n i v j = -1:=by unfold gS;rw[b_ ⟨hv,l⟩,e_ ne,b_ t]
     rw[this];exact l7 _ (mm.mpr ⟨(j:Int),(m4 w).mpr t,rfl⟩)
   .intro h;rcases mx.mp h with rfl|h
    .refine mm.mpr ⟨(v,gS n i v v),mm.mpr ⟨v,y_.mpr ⟨BQ.mpr hv,?_⟩,rfl⟩,?_⟩
     .have:=(oG w hv hv).mpr (.inl rfl);simpa using this
     .have:gS n i v v=n:=by unfold gS;rw[b_ ⟨hv,hv⟩,b_ rfl]
      rw[this]
    .obtain⟨x,B,rfl⟩:=mm.mp h;have t:=(m4 w).mp B;obtain⟨P,_,O,R⟩:=rY w t;obtain⟨j,rfl⟩:=ju O;have l:j<n:=by ext
     have ne:¬v=j:=λe=>P (by rw[e]);have e1:gS n i v j = -1:=by unfold gS;rw[b_ ⟨hv,l⟩,e_ ne,b_ t]
     refine mm.mpr ⟨(j,gS n i v j),mm.mpr ⟨j,y_.mpr ⟨BQ.mpr l,?_⟩,rfl⟩,by rw[e1]⟩
     have:=(oG w hv l).mpr (.inr t);simpa using this
  have F:((bO n (gS n i v)).map ln).Nodup:=by
   unfold bO;rw[q7];refine C0.mpr ((Kl.filter _).imp λ{a b} h e=>?_);injection e with e
   injection e with e _
   injection e with e
   have e:((a:Nat):Int)=((b:Nat):Int):=e;ext
  have L:(CU n v i).Nodup:=List.Pairwise.of_map xu (λa b h e=>h (by rw[e])) nd;exact(OO F L).mpr u
 have M:=oW (f:=xu) pm nd AX;simp only[lP,show(D.lst (CU n v i)).items=J (CU n v i)from rfl,JY];have G:∀d∈CU n v i,(gU d).isSome=I:=λd hd=>by
  rcases mx.mp hd with rfl|hd
  .rfl
  .obtain⟨x,_,rfl⟩:=mm.mp hd;rfl
 rw[b_ ⟨G,nd,so,by simp;ext⟩,<-M]
abbrev Tc:Xd [2]:=(B2 tx 2 (ab (nz cc (ab (nz lP (ab (ac bX (dH (ab (aO (ab (aa 3) (ab (aa 1) a_))) a_)) (aU 1 [] (bo (ao cr (ab (aa 0) (ab (aa 3) a_)))) (ws':=[]) (ki 0) n3 (aO (ab (aa 0) (ab (aO (ab (r_ eM (xC (.int 1))) (ab (xC (.int 1)) a_))) a_))))) a_)) a_)) a_))
abbrev BI(n:Nat)(g:Nat->Nat->Rat)(i:Nat):D:=.tup ((bO n (g i)).map ln)
def yO{n:Nat}{a:TQ}{s:d_}(w:pk n a):gD.p [.tup [.int (n:Int),qd a]] s=.ok (x4 n (gS n a)) s:=by
 have n12:=w.n12;have l:∀{x y:D}{s:d_},(if [x,y].length<=100000 then PR.ok (D.tup [x,y]) s else .bad)=.ok (.tup [x,y]) s:=λ{x y s}=>b_ (by simp);have E:∀{x:D}{s:d_},(if [x].length<=100000 then PR.ok (D.lst [x]) s else .bad)=.ok (.lst [x]) s:=λ{x s}=>b_ (by simp);have u:h_.p (.tup [.int (n:Int),qd a]) (.int 0)=J (.int (n:Int)):=rfl;obtain⟨B,f,e,z,rfl,rfl⟩:=fS (g:=(ki 3:Xg [2]).p) (b:=Tc.p)
  (λj env f=>∃z,env=[J (.tup [.int (n:Int),qd a]),J (qD (n:Rat)),J (.lst ((List.range j).map (BI n (gS n a)))),z]/\f=s) (cP 0 n) 0 [J (.tup [.int (n:Int),qd a]),J (qD (n:Rat)),J (.lst []),Y] s ⟨Y,rfl,rfl⟩ (λv env f d ⟨z,C,F⟩ hd=>by
   subst F;rw[AO]at C ⊢;subst C;obtain⟨rfl,hv⟩:=im hd
   have q:=wH (ws:=[2]) (ws':=[]) (env:=[J (.tup [.int (n:Int),qd a]),J (qD (n:Rat)),J (.lst ((List.range v).map (BI n (gS n a)))),J (inD' v)]) (s:=f) (fm:=[]) (i:=bo (ao cr (ab (aa 0) (ab (aa 3) a_)))) (t:=n3) (e:=aO (ab (aa 0) (ab (aO (ab (r_ eM (xC (.int 1))) (ab (xC (.int 1)) a_))) a_))) (ds:=(BH v a).map .int) (λ_=>I) (λd=>.tup [d,qD (-1)]) (by
    simp![eT,aI,Ny w hv,qS,Pf]) (by have:=nk (v:=(v:Int)) w;simp;ext) (λd hd=>⟨rfl,λ_=>by
    rw[FU]
    have:eM.p (.int 1)=J (.int (-1)):=rfl
    dsimp![cx,af,eD,bf,aL,this,Pf,ak,l]⟩)
   have G:(((BH v a).map D.int).filter (λ_=>I)).map (λd=>D.tup [d,qD (-1)])=(BH v a).map λx=>.tup [.int x,qD (-1)]:=by rw[NO.mpr (by simp),q7];rfl
   rw[G]at q;have L:=nk (v:=(v:Int)) w;refine⟨[J (.tup [.int (n:Int),qd a]),J (qD (n:Rat)),J (.lst ((List.range v).map (BI n (gS n a)))),J (inD' v)],[J (.tup [.int (n:Int),qd a]),J (qD (n:Rat)),J (.lst ((List.range (v+1)).map (BI n (gS n a)))),J (inD' v)],f,rfl,?_,J (inD' v),rfl,rfl⟩
   rw[jN (s1:=f) (as:=[BI n (gS n a) v]) (ds:=(List.range v).map (BI n (gS n a))) (ds':=(List.range (v+1)).map (BI n (gS n a))) (r:=.non) (by
    rw[af,bz,af,bz,af,aB];have H:(dH (ab (aO (ab (aa 3) (ab (aa 1) a_))) a_):Xe [2]).p [J (.tup [.int (n:Int),qd a]),J (qD (n:Rat)),J (.lst ((List.range v).map (BI n (gS n a)))),J (inD' v)] f=.ok (.lst [ln (v,(n:Rat))]) f:=by simp![gu,cx,l,E]
    rw[H,Pb,q,Pb,pY (by simp;ext),Pf];simp only[Pb,ak,List.singleton_append];rw[Nz w hv]
    simp only[Pf,Pb,cU]) rfl (by rw[qR (by simp;ext),Ph,KA];rfl)]
   rfl)
 rw[kB,AO]at e;rw[w9 (by rfl)];unfold gE;rw[show jn 4 [.tup [.int (n:Int),qd a]]=[J (.tup [.int (n:Int),qd a]),Y,Y,Y]from rfl,aD,bM];dsimp![cx,af,aB,bf,aL,u,Pf,ak,l,Pg,y6,y4,PU.aw];rw[aD,lZ];simp only[gu,ak,Pb,NX,wB,if_true,lI,Pg,y6,y4,PU.aw];rw[aD,gf,eZ,af];dsimp![aB,am,bf,aL,u,Pf,ak];rw[m8 (by ext),BK,Pf,Pg,<-yj];refine(congrArg (λz:PS=>(z.then _).fin) e).trans ?_;rw[PU.aw];simp![bt,cx,aB,bf,aL,u,Pf,bz,cU,l,Pg,PU.bB];rfl
def E3(k:Nat)(d:D):Prop:=∀s,(cK k).p [d,d] s=.ok (.bl I) s
def pD{k:Nat}{i:Int}:E3 (k+1) (.int i):=λs=>by
 rw[qG (by rfl)];unfold fF;simp[jn,cW,PR.bl,Mf]
def E4{k:Nat}{f:TU}(d:D){s:d_}(E:f.length<=1000)(C:(bU iZ (ab (aa 0) (ab (aa 1) a_)):Xi []).p [J d,J d] s=.ok (iQ f f) s)(h:∀x∈f,E3 k x):
  (nz pH (ab (aU 2 [] (bU iZ (ab (aa 0) (ab (aa 1) a_))) (ws':=[]) (Aa (qa (ki 0) (qa (ki 1) z_)) 2) n3 (ao (cK k) (ab (aa 0) (ab (aa 1) a_)))) a_):Xe []).p [J d,J d] s=.ok (.bl I) s:=by
 have c:=pe (ws:=[]) (ws':=[]) (env:=[J d,J d]) (s:=s) (fm:=[]) (i:=bU iZ (ab (aa 0) (ab (aa 1) a_))) (t:=n3) (e:=ao (cK k) (ab (aa 0) (ab (aa 1) a_))) (ds:=iQ f f) (λ_=>I) (λ_=>.bl I) C (by simp[iQ];ext) (λx u=>by
  obtain⟨p,j,rfl⟩:=mm.mp u;have e:p.1=p.2:=by rw[List.zip_eq_zipWith,List.zipWith_self]at j;obtain⟨x,_,rfl⟩:=mm.mp j;rfl
  have y:=h p.1 (NU j).1 s;rw[<-e]
  exact⟨_,_,rfl,rfl,λ_=>by simp[y]⟩)
 rw[yJ]at c;have z:pH.p [.lst ((iQ f f).map λ_=>.bl I)]=J (.bl I):=by
  have:∀l:TU,jd (l.map λ_=>D.bl I)=J (l.map λ_=>I):=λl=>by
   induction l with
   |nil=>rfl
   |cons a l B=>rw[nc,jd,B];rfl
  show((J ((iQ f f).map λ_=>D.bl I)).bind jd).map _=_;rw[JY,this,Fh];congr 2;simp
 rw[bz,af,c];simp only[Pb,ak,z,Pf]
def uc{k:Nat}{a:TU}(u:a.length<=1000)(h:∀x∈a,E3 k x):E3 (k+1) (.tup a):=λs=>by
 rw[qG (by rfl)];unfold fF;rw[show jn 2 [D.tup a,.tup a]=[J (.tup a),J (.tup a)]from rfl];have c:=E4 (D.tup a) (s:=s) u (by simp) h;have l:(xB (ac (Mf T) (aa 1) (xC .non)):Xt []).p [J (.tup a),J (.tup a)] s=.ok T s:=rfl;have j:(xB (r_ (bh ["list","tuple"]) (aa 1)):Xt []).p [J (.tup a),J (.tup a)] s=.ok I s:=by simp[cW,PR.bl]
 have i:(s_ (bn (xB (r_ (bh ["list","tuple"]) (aa 0)))) (xB (ac wo (r_ (bh ["list"]) (aa 0)) (r_ (bh ["list"]) (aa 1)))):Xt []).p [J (.tup a),J (.tup a)] s=.ok T s:=by simp[cW,PR.bl]
 have f:(ac tu (nz cM (ab (aa 0) a_)) (nz cM (ab (aa 1) a_)):Xe []).p [J (.tup a),J (.tup a)] s=.ok (.bl I) s:=by simp
 rw[aD,bF,l];simp only[Pg,n7,if_false,aX,PU.aw];rw[aD,bF,j];simp only[Pg,if_true];rw[aD,bF,i];simp only[Pg,n7,if_false,aX,PU.aw];rw[bt,mF];rw[f,Pl,Pb,b_ rfl,c];rfl
def tY{k:Nat}{a b:D}(i:E3 k a)(j:E3 k b):E3 (k+1) (.tup [a,b]):=uc (by simp) λx f=>by
 simp only[mx,CJ,or_false]at f;rcases f with rfl|rfl
 .exact i
 .exact j
def JO{k:Nat}{l:List Pt}(h:l.length<=1000):E3 (k+4) (.tup (l.map ln)):=uc (by rw[wv];exact h) λx a=>by
 obtain⟨p,_,rfl⟩:=mm.mp a;exact tY pD (tY pD pD)
def NA{k n:Nat}{g:Nat->Nat->Rat}(f:n<=12):E3 (k+6) (x4 n g):=tY pD (uc (by simp;ext) λx a=>by
 obtain⟨i,_,rfl⟩:=mm.mp a;refine JO ?_
 have:(bO n (g i)).length<=n:=by
  unfold bO;rw[wv]
  have:=CW (λj=>!decide (g i j=0)) (List.range n)
  simpa using this
 ext)
abbrev Te:Xe [2]:=(aU 1 [3,0,4] (bU CN (ab (aa 0) a_)) (ws':=[]) (ki 0) (s_ (xB (ac tu (aa 0) (aa 1))) (xB (ac (BM T) (aa 0) (aa 3)))) (aO (ab (aa 0) (ab (ac h_ (dH (ab (aO (ab (r_ eM (xC (.int 1))) (ab (xC (.int 1)) a_))) (ab (aO (ab (nz qw (ab (xC (.int 1)) (ab (aa 2) a_))) (ab (xC (.int 1)) a_))) a_))) (nz lC (ab (ac tu (aa 0) (aa 1)) a_))) a_))))
abbrev Tf:Xd [2]:=(aH (bc 4 (ao cN (ab (aa 1) (ab (aa 3) a_)))) (B2 tx 2 (ab (nz cc (ab Te a_)) a_)))
def NB{n:Nat}{a:TQ}{s:d_}(w:pk n a):jw.p [.int (n:Int),qd a] s=.ok (x4 n (gS n a)) s:=by
 have n12:=w.n12;have G:∀{x y:D}{s:d_},(if [x,y].length<=100000 then PR.ok (D.tup [x,y]) s else .bad)=.ok (.tup [x,y]) s:=λ{x y s}=>b_ (by simp);have Q:∀{x y:D}{s:d_},(if [x,y].length<=100000 then PR.ok (D.lst [x,y]) s else .bad)=.ok (.lst [x,y]) s:=λ{x y s}=>b_ (by simp);obtain⟨M,f,e,z,y,rfl,rfl⟩:=fS (g:=(ki 3:Xg [2]).p) (b:=Tf.p)
  (λj env f=>∃z y,env=[J (.int (n:Int)),J (qd a),J (.lst ((List.range j).map (BI n (gS n a)))),z,y]/\f=s) (cP 0 n) 0 [J (.int (n:Int)),J (qd a),J (.lst []),Y,Y] s ⟨Y,Y,rfl,rfl⟩ (λi env f d ⟨z,y,P,X⟩ hd=>by
   subst X;rw[AO]at P ⊢;subst P;obtain⟨rfl,u⟩:=im hd
   have q:=lm (ws:=[2]) (ws':=[]) (env:=[J (.int (n:Int)),J (qd a),J (.lst ((List.range i).map (BI n (gS n a)))),J (inD' i),J (.lst ((x5 i a).map .int))]) (s:=f) (s0:=f) (fm:=[3,0,4]) (i:=bU CN (ab (aa 0) a_)) (t:=s_ (xB (ac tu (aa 0) (aa 1))) (xB (ac (BM T) (aa 0) (aa 3)))) (e:=aO (ab (aa 0) (ab (ac h_ (dH (ab (aO (ab (r_ eM (xC (.int 1))) (ab (xC (.int 1)) a_))) (ab (aO (ab (nz qw (ab (xC (.int 1)) (ab (aa 2) a_))) (ab (xC (.int 1)) a_))) a_))) (nz lC (ab (ac tu (aa 0) (aa 1)) a_))) a_))) (l:=List.range n) (λj=>inD' j) (λj=>ln (j,gS n a i j)) (λj=>!decide (gS n a i j=0)) (by
     dsimp![eZ,af,ak];rw[m8 (by ext),BK,Pf]
     simp[cP]) (by simp;ext) (λj U=>by
     have L:=BQ.mp U;have Z:=k9 (neg:=T) (x:=(j:Int)) (d:=.lst ((x5 i a).map .int)) (xs:=x5 i a) rfl;have B:=oG w u L;have R:=vg (v:=(i:Int)) (x:=(j:Int)) w;constructor
     .show (s_ (xB (ac tu (aa 0) (aa 1))) (xB (ac (BM T) (aa 0) (aa 3))):Xt []).p [J (inD' j),J (inD' i),J (.int (n:Int)),J (.lst ((x5 i a).map .int))] f=_;by_cases z:j=i
      .have:gS n a i j≠0:=B.mpr (.inl z)
       simp[z]at this ⊢;simp[this]
      .have E:¬(j:Int)=(i:Int):=by ext
       have e1:decide ((j:Int)∈x5 i a)=!decide (gS n a i j=0):=by rw[<-decide_not];exact decide_eq_decide.mpr (R.trans ⟨λt=>B.mpr (.inr t),λh=>(B.mp h).resolve_left z⟩)
       dsimp![fu,bY,aB,am,eQ,dg,E,decide_false,n7,if_false,Pf,Pl,wq,Z,e1]
     .intro W;have F:gS n a i j≠0:=by simpa using W
      show(aO (ab (aa 0) (ab (ac h_ (dH (ab (aO (ab (r_ eM (xC (.int 1))) (ab (xC (.int 1)) a_))) (ab (aO (ab (nz qw (ab (xC (.int 1)) (ab (aa 2) a_))) (ab (xC (.int 1)) a_))) a_))) (nz lC (ab (ac tu (aa 0) (aa 1)) a_))) a_)):Xe []).p [J (inD' j),J (inD' i),J (.int (n:Int)),J (.lst ((x5 i a).map .int))] f=_;have O:eM.p (.int 1)=J (.int (-1)):=rfl;have H:(if(n:Int)>1 then(n:Int)else 1)=n:=by split<;>ext
      by_cases z:j=i
      .subst z
       have:gS n a j j=n:=by unfold gS;rw[b_ ⟨u,u⟩,b_ rfl]
       rw[this,ln,yj];have C:h_.p (.lst [.tup [.int (-1),.int 1],.tup [.int (n:Int),.int 1]]) (.int 1)=J (.tup [.int (n:Int),.int 1]):=rfl;simp![cx,eD,bf,aL,O,Pf,G,Q,bz,uX,H,gu,aB,eQ,dg,decide_true,n7,if_false,ut,if_true,C]
      .have t:=(B.mp F).resolve_left z
       have:gS n a i j = -1:=by unfold gS;rw[b_ ⟨u,L⟩,e_ (Ne.symm z),b_ t]
       rw[this,ln,FU];have E:¬(j:Int)=(i:Int):=by ext
       have C:h_.p (.lst [.tup [.int (-1),.int 1],.tup [.int (n:Int),.int 1]]) (.int 0)=J (.tup [.int (-1),.int 1]):=rfl
       simp![cx,eD,bf,aL,O,Pf,G,Q,bz,uX,H,gu,aB,eQ,dg,E,decide_false,n7,if_false,ut,C])
   refine⟨[J (.int (n:Int)),J (qd a),J (.lst ((List.range i).map (BI n (gS n a)))),J (inD' i),y],[J (.int (n:Int)),J (qd a),J (.lst ((List.range (i+1)).map (BI n (gS n a)))),J (inD' i),J (.lst ((x5 i a).map .int))],f,rfl,?_,_,_,rfl,rfl⟩;rw[aD,bM];simp![aI,uv w,Pg,y6,y4,PU.aw]
   rw[jN (s1:=f) (as:=[BI n (gS n a) i]) (ds:=(List.range i).map (BI n (gS n a))) (ds':=(List.range (i+1)).map (BI n (gS n a))) (r:=.non) (by
    have S:BI n (gS n a) i=.tup (((List.range n).filter λj=>!decide (gS n a i j=0)).map λj=>ln (j,gS n a i j)):=by unfold BI bO;rw[q7];rfl
    rw[af,bz,af,q,S]
    simp only[Pb,ak,cU,Pf]) rfl (by rw[qR (by simp;ext),Ph,KA];rfl)]
   rfl)
 rw[kB,AO]at e;rw[A9 (by rfl)];unfold jJ;rw[show jn 5 [.int (n:Int),qd a]=[J (.int (n:Int)),J (qd a),Y,Y,Y]from rfl,aD,lZ];simp only[gu,ak,Pb,NX,wB,if_true,lI,Pg,y6,y4,PU.aw];rw[aD,gf,eZ,af];dsimp![am,ak];rw[m8 (by ext),BK,Pf,Pg];refine(congrArg (λz:PS=>(z.then _).fin) e).trans ?_;rw[PU.aw];simp![bt,cx,bz,cU,Pf,G,Pg,PU.bB];rfl
def nP{i:Int}{s:d_}:bH.p [.int i] s=.ok (.bl I) s:=by rw[wn (by rfl)];unfold f9;have e1:(bh ["int"]).p (.int i)=J (.bl I):=rfl;have e2:(bh ["bool"]).p (.int i)=J (.bl T):=rfl;rw[show jn 1 [D.int i]=[J (.int i)]from rfl];dsimp![bt,mF,eD,e1,e2,Pf,PR.bl,if_true,v7,NY,Pg,PU.bB]
def FW{q:Rat}{s:d_}(B:q≠0)(C:sz q<=900000):bx.p [qD q] s=.ok (.bl I) s:=by
 have i:h_.p (qD q) (.int 0)=J (.int q.num):=rfl;have a:h_.p (qD q) (.int 1)=J (.int (q.den:Int)):=rfl;have j:(bh ["tuple"]).p (qD q)=J (.bl I):=rfl;have l:cM.p [qD q]=J (.int 2):=rfl;have n0:¬q.num=0:=λz=>B (Rat.num_eq_zero.mp z);have u:=q.den_nz;have f:=nS (t:=q.num) (b:=q.den) (s:=s) u (aY q) (by ext);rw[Rat.num_divInt_den]at f;rw[qm (by rfl)];unfold dh;rw[show jn 1 [qD q]=[J (qD q)]from rfl,aD,bF];dsimp![fu,cq,bY,eD,j,Pf,Pl,AA,n7,if_false,aB,bz,af,ak,l,bf,aL,eV,dg,decide_true,if_true,i,a,aI,nP,Pg,aX,PU.aw];have y:Kb.p (.int (q.den:Int)) (.int 0)=J (.bl I):=by
  have:(0:Int)<q.den:=by ext
  show J (D.bl (decide _))=_;simp;ext
 dsimp![bt,mF,aB,bf,aL,i,a,Pf,eV,dg,n0,decide_false,NY,if_true,Pl,y,aI,af,ak,f,eQ,ua,decide_true,n7,if_false,Pg,PU.bB]
structure OM(ls:TR)(ps:List Pt):Prop where
 ris:(ps.map (·.1)).Pairwise (·<·)
 inn:∀p∈ps,p.1∈ls/\p.2≠0/\sz p.2<=900000
abbrev SI:Xd []:=(aH (ti (s_ (bn (xB (r_ (bh ["tuple"]) (aa 3)))) (s_ (xB (ac wo (nz cM (ab (aa 3) a_)) (xC (.int 2)))) (s_ (bn (xB (ao bH (ab (ac h_ (aa 3) (xC (.int 0))) a_)))) (xB (ac (BM I) (ac h_ (aa 3) (xC (.int 0))) (aa 1)))))) (aK (xC (.bl T))) iw)
 (aH (ti (s_ (xB (ac Ka (ac h_ (aa 3) (xC (.int 0))) (aa 2))) (bn (xB (ao bx (ab (ac h_ (aa 3) (xC (.int 1))) a_))))) (aK (xC (.bl T))) iw)
 (bc 2 (ac h_ (aa 3) (xC (.int 0))))))
def FX{P:Th}{ls:TR}{s:d_}:∀(f:List Pt)(a:Int)(z:Th),OM ls f->(∀p∈f,a<(p.1:Int))->∃y j,Ca (ki 3:Xg []).p SI.p (f.map ln) [P,J (li ls),J (.int a),z] s=.nx [P,J (li ls),y,j] s
 |[],a,z,_,_=>⟨_,_,rfl⟩
 |p::f,a,z,h,H=>by
  obtain⟨C,G,L⟩:=h.inn p (by simp);have u:=Cf.mp h.ris;obtain⟨y,j,e⟩:=FX (P:=P) (ls:=ls) (s:=s) f (p.1:Int) (J (ln p)) ⟨u.2,λq i=>h.inn q (l7 _ i)⟩ λq i=>by
   have:p.1<q.1:=u.1 q.1 (mm.mpr ⟨q,i,rfl⟩)
   ext
  have l:h_.p (ln p) (.int 0)=J (.int (p.1:Int)):=rfl;have B:h_.p (ln p) (.int 1)=J (qD p.2):=rfl;have E:(bh ["tuple"]).p (ln p)=J (.bl I):=rfl;have F:cM.p [ln p]=J (.int 2):=rfl;have O:=H p (by simp);have le:Ka.p (.int (p.1:Int)) (.int a)=J (.bl T):=by show J (D.bl (decide _))=_;simp;ext
  have M:Kc I (.int (p.1:Int)) (li ls)=J (.bl T):=by
   rw[k9 (xs:=ls.map λ(x:Nat)=>(x:Int)) (by rw[q7];rfl)]
   have:(p.1:Int)∈ls.map λ(x:Nat)=>(x:Int):=mm.mpr ⟨p.1,C,rfl⟩
   simp only[this,decide_true,AA,if_true]
  refine⟨y,j,?_⟩;rw[nc,nQ (show(ki 3:Xg []).p (ln p) [P,J (li ls),J (.int a),z]=J [P,J (li ls),J (.int a),J (ln p)]from rfl)];have b:SI.p [P,J (li ls),J (.int a),J (ln p)] s=.nx [P,J (li ls),J (.int (p.1:Int)),J (ln p)] s:=by rw[aD,bF];simp![fu,cq,bY,eD,E,Pf,Pl,AA,n7,if_false,aB,bz,F,bf,aL,eV,dg,decide_true,if_true,l,aI,nP,wq,M,Pg,aX,PU.aw];rw[aD,bF];simp![fu,cq,bY,Pf,Pl,AA,n7,if_false,aB,bf,aL,l,B,le,aI,FW G L,Pg,aX,PU.aw];dsimp![bM,aB,am,bf,aL,l,Pf,Pg,y6,y4]
  rw[b];exact e
def xU{f:TR}{a:List Pt}{s:d_}(h:OM f a):bI.p [.tup (a.map ln),li f] s=.ok (.bl I) s:=by obtain⟨y,z,e⟩:=FX (P:=J (.tup (a.map ln))) (s:=s) a (-1) Y h (λp _=>by ext);have i:(bh ["tuple"]).p (.tup (a.map ln))=J (.bl I):=rfl;have j:eM.p (.int 1)=J (.int (-1)):=rfl;rw[p5 (by rfl)];unfold dm;rw[show jn 4 [.tup (a.map ln),li f]=[J (.tup (a.map ln)),J (li f),Y,Y]from rfl,aD,bF];dsimp![cq,bY,eD,i,Pf,Pl,AA,Pg,n7,if_false,aX,PU.aw];rw[aD,bM];simp only[eD,bf,aL,Pb,j,Pf,Pg,y6,y4,PU.aw];rw[aD,gf,eT];dsimp![rB,Pf,Pg];refine(congrArg (λz:PS=>(z.then _).fin) e).trans ?_;rfl
def JP{ns:TR}{k:Nat}(a:k<ns.length):fC (ns.map inD') (J ((k:Int)+1)) Y=(ns.drop (k+1)).map inD':=by unfold fC;rw[HT.jR,wv,show(k:Int)+1=((k+1:Nat):Int) by ext,HT.mY,Kz (by ext),<-KJ];exact CV (by simp)
structure SJ(ns:TR)(k:Nat)(w:Wk):Prop where
 v:ns[k]?=J w.v
 p:w.p≠0/\sz w.p<=900000
 r:OM (ns.drop (k+1)) w.r
 c:OM (ns.drop (k+1)) w.c
abbrev Tg:Xd []:=(aH (bc 4 (ac h_ (aa 0) (aa 2)))
 (aH (ti (s_ (bn (xB (r_ (bh ["tuple"]) (aa 4)))) (s_ (xB (ac wo (nz cM (ab (aa 4) a_)) (xC (.int 4)))) (s_ (bn (xB (ao bH (ab (ac h_ (aa 4) (xC (.int 0))) a_)))) (xB (ac wo (ac h_ (aa 4) (xC (.int 0))) (aa 3)))))) (aK (xC (.bl T))) iw)
 (aH (ti (s_ (bn (xB (ao bx (ab (ac h_ (aa 4) (xC (.int 1))) a_)))) (bn (xB (ao bI (ab (ac h_ (aa 4) (xC (.int 2))) (ab (Cp (aa 1) (Co (ac bX (aa 2) (xC (.int 1)))) Cm) a_)))))) (aK (xC (.bl T))) iw)
 (ti (bn (xB (ao bI (ab (ac h_ (aa 4) (xC (.int 3))) (ab (Cp (aa 1) (Co (ac bX (aa 2) (xC (.int 1)))) Cm) a_))))) (aK (xC (.bl T))) iw))))
def NC{ns:TR}{ws:List Wk}{s:d_}(U:ws.length=ns.length)(L:ns.length<=12)(E:∀(k:Nat) w,ws[k]?=J w->SJ ns k w):d7.p [.lst (ws.map oh),li ns] s=.ok (.bl I) s:=by
 obtain⟨y,f,e,u,i,a,rfl,rfl⟩:=fS (g:=(Aa (qa (ki 2) (qa (ki 3) z_)) 2:Xg []).p) (b:=Tg.p)
  (λj env f=>∃u i a,env=[J (.lst (ws.map oh)),J (li ns),u,i,a]/\f=s) (bK (ns.map inD')) 0 [J (.lst (ws.map oh)),J (li ns),Y,Y,Y] s ⟨Y,Y,Y,rfl,rfl⟩ (λk env f d ⟨u,i,a,M,R⟩ hd=>by
   subst R;subst M;obtain⟨v,hv,rfl⟩:∃v,ns[k]?=J v/\d=.tup [inD' k,inD' v]:=by
    unfold bK at hd;rw[qo,Kq,qo]at hd
    cases q:ns[k]? with
    |none=>rw[q]at hd;cases hd
    |some v=>rw[q]at hd;simp at hd;exact⟨v,rfl,hd.symm⟩
   have O:=(o_.mp hv).1;obtain⟨w,B⟩:∃w,ws[k]?=J w:=⟨ws[k]'(by ext),xg _⟩;have ok:=E k w B;have S:w.v=v:=by have:=ok.v;rw[hv]at this;injection this with this;exact this.symm
   have e0:ng (ws.map oh) (k:Int)=J (oh w):=L2.cC (by simp[B]);have l:(bh ["tuple"]).p (oh w)=J (.bl I):=rfl;have P:cM.p [oh w]=J (.int 4):=rfl;have Q:h_.p (oh w) (.int 0)=J (.int (w.v:Int)):=rfl;have C:h_.p (oh w) (.int 1)=J (qD w.p):=rfl;have G:h_.p (oh w) (.int 2)=J (.tup (w.r.map ln)):=rfl;have F:h_.p (oh w) (.int 3)=J (.tup (w.c.map ln)):=rfl;have ct:=JP O;refine⟨[J (.lst (ws.map oh)),J (li ns),J (inD' k),J (inD' v),a],[J (.lst (ws.map oh)),J (li ns),J (inD' k),J (inD' v),J (oh w)],f,rfl,?_,_,_,_,rfl,rfl⟩;rw[aD,bM];dsimp![aB,am,jW,e0,Pf,Pg,y6,y4,PU.aw];rw[aD,bF];simp![fu,cq,bY,eD,l,Pf,Pl,AA,n7,if_false,aB,bz,P,bf,aL,eV,dg,decide_true,if_true,Q,aI,nP,S,Pg,aX,PU.aw];rw[aD,bF];simp![fu,cq,bY,Pf,Pl,AA,n7,if_false,aB,bf,aL,C,G,aI,FW ok.p.1 ok.p.2,sj,sv,su,fK,sn,ct,xU ok.r,Pg,aX,PU.aw];rw[bF]
   simp![cq,bY,Pf,Pl,AA,n7,if_false,aB,bf,aL,F,aI,sj,sv,su,fK,sn,ct,xU ok.c,Pg,aX])
 have l:(bh ["list"]).p (.lst (ws.map oh))=J (.bl I):=rfl;have H:cM.p [.lst (ws.map oh)]=J (.int (ns.length:Int)):=by show J (D.int _)=_;simp[U]
 have W:cM.p [li ns]=J (.int (ns.length:Int)):=by show J (D.int _)=_;simp
 rw[uh (by rfl)];unfold d5;rw[show jn 5 [.lst (ws.map oh),li ns]=[J (.lst (ws.map oh)),J (li ns),Y,Y,Y]from rfl,aD,bF];simp![fu,cq,bY,eD,l,Pf,Pl,AA,n7,if_false,aB,bz,H,W,eV,dg,decide_true,if_true,Pg,aX,PU.aw];rw[aD,gf,eZ,af];dsimp![am,ak,Mq,Pf,Pg];refine(congrArg (λz:PS=>(z.then _).fin) e).trans ?_;rfl
def FY{n i j:Nat}{ks:TQ}(e:i≠j):gS n ks i j<=0 /\ -1<=gS n ks i j:=by
 unfold gS;by_cases h:i<n/\j<n
 .rw[b_ h,e_ e];by_cases t:Td ks (i:Int) (j:Int)
  .rw[b_ t];constructor<;>decide
  .rw[e_ t];constructor<;>decide
 .rw[e_ h];constructor<;>decide
def ND{n i:Nat}{f:TQ}(a:i<n):gS n f i i=n:=by unfold gS;rw[b_ ⟨a,a⟩,b_ rfl]
def yK{n i:Nat}{ks:TQ}(a:i<n):∀(l:TR),l.Nodup->(if i∈l then(n:Rat)+1 else 0)<=(l.map (gS n ks i)).sum+((l.length:Nat):Rat)
 |[],_=>by
  rw[e_ CJ];show(0:Rat)<=0+((0:Nat):Rat)
  decide +kernel
 |j::l,nd=>by
  rw[xk]at nd;have f:=yK (ks:=ks) a l nd.2;rw[nc,F9,B8];push_cast;by_cases e:j=i
  .subst e;rw[e_ nd.1]at f;rw[b_ x_,ND a]
   grind
  .have g:=(FY (n:=n) (ks:=ks) (Ne.symm e)).2
   have:(if i∈j::l then(n:Rat)+1 else 0)=if i∈l then(n:Rat)+1 else 0:=by simp[Ne.symm e]
   rw[this]
   grind
def wZ{n:Nat}{a:TQ}{ns:TR}(w:pk n a)(o:On n ns):Sg a ns (gS n a) 0:=by
 refine⟨λi j=>?_,λi j _ _ e=>(FY e).1,λi f=>?_,λi j f l e=>?_⟩
 .show gS n a i j=gS n a j i;unfold gS;by_cases e:i=j
  .subst e;rfl
  .have t:Td a (i:Int) (j:Int)↔Td a (j:Int) (i:Int):=⟨Td.symm,Td.symm⟩;simp only[e,Ne.symm e,if_false,t,And.comm]
 .rw[KI]at f ⊢
  have:=yK (ks:=a) (o.lt i f) ns o.nd
  rw[b_ f,o.len]at this;show 0<(ns.map (gS n a i)).sum
  grind
 .rw[KI]at f l;show gS n a i j≠0↔_;rw[oG w (o.lt i f) (o.lt j l)];constructor
  .exact λh=>.tie (h.resolve_left (Ne.symm e))
  .exact λh=>.inr (E1 (λx u=>by simp[BO]at u) h)
def NE{n:Nat}{f:TQ}(l:n<=12):Ov 5 (gS n f):=by
 refine⟨1,by decide,by decide,λi j=>?_⟩;have key:∀a:Int,a.natAbs<2^5->gS n f i j=(a:Rat)->∃a:Int,gS n f i j=Rat.divInt a ((1:Nat):Int)/\a.natAbs<2^5:=λa h e=>⟨a,by rw[e,Rat.divInt_eq_div];show(a:Rat)=(a:Rat)/1;grind,h⟩;by_cases h:i<n/\j<n
 .by_cases e:i=j
  .refine key (n:Int) (by ext) ?_;unfold gS;rw[b_ h,b_ e];rfl
  .by_cases t:Td f (i:Int) (j:Int)
   .refine key (-1) (by decide) ?_;unfold gS;rw[b_ h,e_ e,b_ t];rfl
   .refine key 0 (by decide) ?_;unfold gS;rw[b_ h,e_ e,e_ t];rfl
 .refine key 0 (by decide) ?_;unfold gS;rw[e_ h];rfl
def NF{n:Nat}{f:TQ}{ns:TR}(w:pk n f)(o:On n ns):El n 30000 ns (gS n f):=by
 have n12:=o.n12;have pv:∀k,k<n->av ns (gS n f) k (hI ns k) (hI ns k)≠0:=λk a=>by
  have:=((wZ w o).all o k (by ext)).pv o a
  grind
 refine⟨o,λi j h=>by unfold gS;rw[e_ h],pv,λk i j a=>?_,by decide⟩;have e:=Nx k (by ext);exact pf ((FS (NE n12) pv k a).sz e.1 i j) e.2
def fl(n:Nat)(ns:TR)(g:Nat->Nat->Rat)(k:Nat):TR:=(tr n ns k).filter λj=>!decide (av ns g k (hI ns k) j=0)
def NG{n k:Nat}{ns:TR}{g:Nat->Nat->Rat}:(l_ n ns g k).r.map (·.1)=fl n ns g k:=tV (f:=av ns g k (hI ns k))
def NH{n k:Nat}{ns:TR}{g:Nat->Nat->Rat}(sy:∀i j,av ns g k i j=av ns g k j i):(l_ n ns g k).c.map (·.1)=fl n ns g k:=by refine(tV (f:=λi=>av ns g k i (hI ns k)/av ns g k (hI ns k) (hI ns k))).trans ?_;unfold fl;exact O4 λj _=>by rw[sy]
def oJ{n k:Nat}{ns:TR}{g:Nat->Nat->Rat}:(fl n ns g k).Pairwise (·<·):=pS.filter _
def JQ{n z:Nat}{ns:TR}{g:Nat->Nat->Rat}(h:El n z ns g)(sy:∀k,k<=n->∀i j,av ns g k i j=av ns g k j i):∀(k:Nat) w,((List.range n).map (l_ n ns g))[k]?=J w->SJ ns k w:=λk w e=>by
 have f:k<n:=by
  have:=(o_.mp e).1
  simpa using this
 rw[qo,Ks f]at e;have e:l_ n ns g k=w:=by injection e
 subst e;have z0:=h.z0;have B:=h.pv k f;refine⟨ia h.o f,⟨B,?_⟩,⟨by rw[NG];exact oJ,λp a=>?_⟩,⟨by rw[NH (sy k (by ext))];exact oJ,λp a=>?_⟩⟩
 .have:=h.si k (hI ns k) (hI ns k) (by ext)
  show sz (av ns g k (hI ns k) (hI ns k))<=_;ext
 .have b:=(h.w_r f p (l7 _ a)).2;have a:p∈((tr n ns k).filter λj=>!decide (av ns g k (hI ns k) j=0)).map λj=>(j,av ns g k (hI ns k) j):=a;obtain⟨j,l,rfl⟩:=mm.mp a;obtain⟨u,y⟩:=y_.mp l;exact⟨(cp h.o).mp u,by simpa using y,by dsimp only at b ⊢;ext⟩
 .have b:=(h.w_c f p (l7 _ a)).2;obtain⟨j,l,rfl⟩:=mm.mp a;obtain⟨u,y⟩:=y_.mp l;have C:av ns g k j (hI ns k)≠0:=by simpa using y
  refine⟨(cp h.o).mp u,λq=>C ?_,by dsimp only at b ⊢;ext⟩;have q:av ns g k j (hI ns k)/av ns g k (hI ns k) (hI ns k)=0:=q
  have:av ns g k j (hI ns k)/av ns g k (hI ns k) (hI ns k)*av ns g k (hI ns k) (hI ns k)=av ns g k j (hI ns k):=by grind
  rw[q]at this
  grind
def oM{ns:TR}:li ns=.lst ((BO ns).map .int):=by show D.lst _=_;rw[BO,q7];rfl
def At{n k:Nat}{u:TQ}{ns:TR}{g:Nat->Nat->Rat}{s:d_}(w:pk n u)(o:On n ns)(B:k<n)(E:Sg u ns g k):
  ∃z:TN,dI.p [qd u,li ns,.int (k:Int)] s=.ok (.lst (z.map .int)) s/\dU.p [.lst (z.map .int)]=J (li (fl n ns g k)):=by
 have n12:=o.n12;have L:=o.len;have hv:=ia o B;have nd:(BO ns).Nodup:=o.nd.map _ (λa b h=>by ext);have i:=cT hv
 obtain⟨z,e1,sub,mem⟩:=Nv (n:=n) (ks:=u) (qs:=BO ns) (j:=k) (v:=(hI ns k:Int)) (s:=s) w n12 (by simp;ext) (λx G=>by
  obtain⟨y,f,rfl⟩:=mm.mp G
  have:=o.lt y f
  ext) (by rw[BO,qo,hv];rfl) (by
  rw[BO,<-KJ];intro m;obtain⟨y,f,e⟩:=mm.mp m;have l:=o.nd.sublist (F7 k ns);rw[i,xk]at l;have e:y=hI ns k:=by ext
  exact l.1 (e▸f))
 rw[<-oM]at e1;refine⟨z,e1,?_⟩;have F:=sub.length_le;rw[lv (by simp at F;ext),oM];congr 3;refine fX (ko _) (oJ.map (S:=(·<=·)) _ (λa b h=>by ext)) ((gF _).trans ?_);refine(OO (nd.sublist sub) ((oJ.imp λh=>ww h).map _ (λa b h=>by ext))).mpr λx=>?_;rw[mem x,BO,<-KJ,<-List.map_take];constructor
 .rintro⟨m,wy⟩;obtain⟨y,f,rfl⟩:=mm.mp m;refine mm.mpr ⟨y,y_.mpr ⟨(cp o).mpr f,?_⟩,rfl⟩;have ne:hI ns k≠y:=λe=>rZ o B (e▸(cp o).mpr f)
  have:=(E.wy (hI ns k) y (by rw[i];simp) (by rw[i];exact l7 _ f) ne).mpr wy
  simpa using this
 .intro m;obtain⟨y,f,rfl⟩:=mm.mp m;obtain⟨C,H⟩:=y_.mp f;have f:=(cp o).mp C;have ne:hI ns k≠y:=λe=>rZ o B (e▸C);refine⟨mm.mpr ⟨y,f,rfl⟩,(E.wy (hI ns k) y (by rw[i];simp) (by rw[i];exact l7 _ f) ne).mp ?_⟩;simpa using H
abbrev Ru(c:Int):Xe []:=aU 2 [] (bo (ac h_ (ac h_ (aa 6) (aa 7)) (xC (.int c)))) (ws':=[]) (Aa (qa (ki 0) (qa (ki 1) z_)) 2) n3 (aa 0)
abbrev SK:Xd []:=(aH (bc 8 (nz dU (ab (ao dI (ab (aa 2) (ab (aa 3) (ab (aa 7) a_)))) a_)))
 (ti (s_ (xB (ac wo (Ru 2) (aa 8))) (xB (ac wo (Ru 3) (aa 8)))) (aK (xC (.bl T))) iw))
def vy{env:au}{c:Int}{f:List Wk}{k:Nat}{w:Wk}{a:List Pt}{s:d_}(u:env[6]?=J (J (.lst (f.map oh))))(j:env[7]?=J (J (inD' k)))(y:f[k]?=J w)(z:h_.p (oh w) (.int c)=J (.tup (a.map ln)))(B:a.length<=100):
  (Ru c).p env s=.ok (li (a.map (·.1))) s:=by
 have e0:ng (f.map oh) (k:Int)=J (oh w):=L2.cC (by simp[y])
 have q:=zw (ws:=[]) (ws':=[]) (env:=env) (s:=s) (s0:=s) (fm:=[]) (i:=bo (ac h_ (ac h_ (aa 6) (aa 7)) (xC (.int c)))) (t:=n3) (e:=aa 0) (l:=a) (λp=>inD' p.1) (λp=>qD p.2) (λp=>inD' p.1) (λ_=>I) (by
  rw[eT,aB,aB,vQ u,Pb,vQ j,Pb,jW,e0,Pf,Pb]
  simp only[bf,aL,Pb,z,Pf,rB]) (by ext) (λp _=>⟨rfl,λ_=>rfl⟩)
 refine q.trans ?_;rw[NO.mpr (by simp)];show _=PR.ok (D.lst ((a.map (·.1)).map inD')) s;rw[q7];rfl
def Rv{n k:Nat}{a:TQ}{ns:TR}{l f F:Th}{s:d_}(w:pk n a)(o:On n ns)(z:k<n):
  SK.p [J .pen,J (.int (n:Int)),J (qd a),J (li ns),l,f,J (.lst (((List.range n).map (l_ n ns (gS n a))).map oh)),J (inD' k),F] s=.nx [J .pen,J (.int (n:Int)),J (qd a),J (li ns),l,f,J (.lst (((List.range n).map (l_ n ns (gS n a))).map oh)),J (inD' k),J (li (fl n ns (gS n a) k))] s:=by
 have u:=(wZ w o).all o k (by ext);obtain⟨H,e1,e2⟩:=At (s:=s) w o z u;have B:((List.range n).map (l_ n ns (gS n a)))[k]?=J (l_ n ns (gS n a) k):=by rw[qo,Ks z];rfl
 have G:=p7 (k:=k) o;have lr:(l_ n ns (gS n a) k).r.length<=100:=by unfold l_ B5;rw[wv];have:=CW (λj=>!decide (av ns (gS n a) k (hI ns k) j=0)) (tr n ns k);ext
 have lc:(l_ n ns (gS n a) k).c.length<=100:=by unfold l_;rw[wv];have:=CW (λi=>!decide (av ns (gS n a) k i (hI ns k)=0)) (tr n ns k);ext
 have C:=vy (env:=[J .pen,J (.int (n:Int)),J (qd a),J (li ns),l,f,J (.lst (((List.range n).map (l_ n ns (gS n a))).map oh)),J (inD' k),J (li (fl n ns (gS n a) k))]) (c:=2) (s:=s) rfl rfl B rfl lr;have y:=vy (env:=[J .pen,J (.int (n:Int)),J (qd a),J (li ns),l,f,J (.lst (((List.range n).map (l_ n ns (gS n a))).map oh)),J (inD' k),J (li (fl n ns (gS n a) k))]) (c:=3) (s:=s) rfl rfl B rfl lc;rw[NG]at C;rw[NH u.sy]at y;have E:Av I (li (fl n ns (gS n a) k)) (li (fl n ns (gS n a) k))=J (.bl T):=by rw[oM,nT];simp
 rw[aD,bM];simp![bz,aI,e1,e2,Pf,Pg,y6,y4,PU.aw];rw[bF,fu,bY,aB,C,Pb];dsimp![am,eV,E,Pf,Pl,n7,if_false];rw[bY,aB,y,Pb];dsimp![am,eV,E,Pf,Pl,Pg,n7,if_false,aX]
def E5{n:Nat}{g:Nat->Nat->Rat}:jh 60 (x4 n g):=by
 have f:∀p:Pt,jh 2 (ln p):=λp=>ig (k:=1) λd hd=>by
  simp only[mx,CJ,or_false]at hd;rcases hd with rfl|rfl
  .exact og
  .exact AT
 have mono:∀{k m:Nat}{d:D},k<=m->jh k d->jh m d:=λ{k m d} h ⟨x,a,b,c,e⟩=>⟨x,a,pf b h,c,pf e h⟩;refine mono (show 5<=60 by decide) (ig (k:=4) λd hd=>?_);simp only[mx,CJ,or_false]at hd;rcases hd with rfl|rfl
 .exact og
 .refine ig (k:=3) λd hd=>?_;obtain⟨i,_,rfl⟩:=mm.mp hd;refine ig (k:=2) λd hd=>?_;obtain⟨p,_,rfl⟩:=mm.mp hd;exact f p
def E6{s:d_}:∃l,dJ.p [.pen] s=.ok (.bl I) l:=by
 obtain⟨n,s1,U,hn⟩:=Jx (s:=s);have n12:n<=12:=by ext
 obtain⟨a,s2,a0,a9,S⟩:=lD (s:=s1) (size:=4) (by decide) (by decide);have m1:bE.p (.int 2) (.int (if decide ((n:Int)=12)=I then 1 else 0))=J (.int (2*(if decide ((n:Int)=12)=I then 1 else 0))):=b8 (j:=4) (k:=4) (by decide) (by split<;>decide);obtain⟨f,W,G,w⟩:=JM (n:=n) (m:=1+a+2*(if decide ((n:Int)=12)=I then 1 else 0)) (s:=s2) n12 (by split<;>ext) (by split<;>ext);obtain⟨ns,i,Q,o⟩:=ER (n:=n) (s:=W) n12;have R:=o.len;have u:=NF w o;have st:=u.struck (s:=i);have mu:=u.mult (s:=i);have X:=NC (s:=i) (ns:=ns) (ws:=(List.range n).map (l_ n ns (gS n f))) (by simp[R]) (by ext) (JQ u λk C=>((wZ w o).all o k C).sy);have Z:∀{x y:D}{s:d_},(if [x,y].length<=100000 then PR.ok (D.tup [x,y]) s else .bad)=.ok (.tup [x,y]) s:=λ{x y s}=>b_ (by simp);have cl:=Ej (x:=ns.map inD') (by simp;ext);have M:jS.p [x4 n (gS n f),x4 n (gS n f)] i=.ok (.bl I) i:=NA (k:=2) n12 i;have H:Av I (li ns) (li ns)=J (.bl T):=by rw[oM,nT];simp
 have L:Av T (x4 n (gS n f)) (x4 n (gS n f))=J (.bl I):=yG E5;refine⟨i,?_⟩;rw[xy (by rfl)];unfold gp;rw[show jn 9 [D.pen]=[J .pen,Y,Y,Y,Y,Y,Y,Y,Y]from rfl];rw[aD,bM];dsimp![aI,af,ak,U,Pg,y6,y4,PU.aw];rw[aD,bM];simp![aI,aB,bf,aL,S,fK,Pf,bz,eQ,dg,n7,if_false,ut,m1,G,Pg,y6,y4,PU.aw];rw[aD,bM];simp![aI,Q,Pg,y6,y4,PU.aw];rw[aD,bM];simp![bz,cl,Pf,Pg,y6,y4,PU.aw];rw[aD,bM];simp![aI,cx,Z,yO w,Pg,y6,y4,PU.aw];rw[aD,bF];simp![cq,bY,aI,NB w,M,Pl,AA,Pg,n7,if_false,aX,PU.aw];rw[aD,bM];simp![aI,st,Pg,y6,y4,PU.aw];rw[aD,bF];simp![fu,cq,bY,aB,aI,eV,H,Pf,X,Pl,AA,Pg,n7,if_false,aX,PU.aw];obtain⟨F,l,e,B,E,rfl,rfl⟩:=fS (g:=(ki 7:Xg []).p) (b:=SK.p)
  (λj env l=>∃B E,env=[J .pen,J (.int (n:Int)),J (qd f),J (li ns),J (li ns),J (x4 n (gS n f)),J (.lst (((List.range n).map (l_ n ns (gS n f))).map oh)),B,E]/\l=i) (cP 0 n) 0 [J .pen,J (.int (n:Int)),J (qd f),J (li ns),J (li ns),J (x4 n (gS n f)),J (.lst (((List.range n).map (l_ n ns (gS n f))).map oh)),Y,Y] i ⟨Y,Y,rfl,rfl⟩ (λk env l d ⟨B,E,O,P⟩ hd=>by
   subst P;subst O;obtain⟨rfl,C⟩:=im hd
   exact⟨_,_,l,rfl,Rv w o C,_,_,rfl,rfl⟩)
 rw[aD,gf,eZ,af];dsimp![am,ak];rw[m8 (by ext),BK,Pf,Pg];refine(congrArg (λz:PS=>(z.then _).fin) e).trans ?_;rw[PU.aw,bt,aB];simp![aI,mu,eQ,L,Pf,Pg,PU.bB]
def w8{H:MH}{p:Nat}{s:d_}(pn:be H p s):∃a,lW [.loc p] H=.ok (.bl I) a/\∀m:Nat,m<H.length->m≠p->a[m]?=H[m]?:=by obtain⟨l,e⟩:=E6 (s:=s);have k:=dJ.ok (q:=p) (h:=H) (O:=[p]) (vs:=[.loc p]) (ds:=[.pen]) (s:=s) (λo j=>by rw[Kt.mp j];exact aE pn) (by simp) pn ⟨_,_,rfl,rfl,rfl⟩;rw[e]at k;obtain⟨v,a,e1,kb,f,r,_⟩:=k;rw[show v=.bl I from r]at e1;exact⟨a,e1,λm i ne=>kb.keep m i ne⟩
def wz{lo:Int}{c:Nat}{x:PV}(h:x∈aW lo c):∃i:Int,x=.int i/\lo<=i/\i<lo+c:=by unfold aW at h;obtain⟨k,a,rfl⟩:=mm.mp h;rw[BQ]at a;exact⟨_,rfl,by ext,by ext⟩
def u6{ns:TN}{k:Nat}(a:k<ns.length):ng (ns.map PV.int) (k:Int)=J (.int ns[k]):=L2.cC (by simp[a])
def sJ{h:MH}:sw (.int 10) (.int 18) h=.ok (.int (10^18)) h:=sO (by decide)
def Ai{h:MH}:sw (.int 10) (.int 15) h=.ok (.int (10^15)) h:=sO (by decide)
def A6{h:MH}{ns:TN}{k:Nat}(hk:k<64):∃m c:Int,hV [.frl (ns.map .int),.int k] h=.ok (.loc h.length) (h++[.lst [.int m,.int c,.int 0]]):=by
 unfold hV;have F:∀{i:Int}{h:MH},j3 (.int 7919) (.int i) h=.ok (.int (7919*i)) h:=g9 (by decide);have Q:∀{i:Int}{h:MH},j3 (.int 48271) (.int i) h=.ok (.int (48271*i)) h:=g9 (by decide);have X:∀{i:Int}{h:MH},j3 (.int 40009) (.int i) h=.ok (.int (40009*i)) h:=g9 (by decide);have L:∀{a b c:PV}{h:MH},se [a,b,c] h=.ok (.loc h.length) (h++[.lst [a,b,c]]):=pA (by simp)
 have fin:∀cell:Int,∃m c:Int,(cw (Cj (mB (az Cv (qr A4 (ag (ah 2) hG)) (az sw (mC (.int 10)) (mC (.int 18))))) (cR (gK (ag (mC (.int 1)) (ag (qr A4 (ag (ah 2) hG)) (ag (mC (.int 0)) hG))))) pj)
   (cR (gK (ag (mC (.int 0)) (ag (az jj (az mn (ah 2) (mC (.int 2147483587))) (az j3 (mC (.int 40009)) (ah 1))) (ag (mC (.int 0)) hG)))))) [J (.frl (ns.map .int)),J (.int k),J (.int cell)] h=.rt (.loc h.length) (h++[.lst [.int m,.int c,.int 0]]):=λcell=>by
  by_cases z:(10:Int)^18<=(if cell<0 then -cell else cell)
  .exact⟨1,(if cell<0 then -cell else cell),by simp[sJ,L,z,-Int.reducePow]⟩
  .exact⟨0,cell.fmod 2147483587+40009*k,by simp[sJ,L,z,X,fD,-Int.reducePow]⟩
 have u:∀cell:Int,∃m c:Int,((cw (Cj (mB (az Cv (qr A4 (ag (ah 2) hG)) (az sw (mC (.int 10)) (mC (.int 18))))) (cR (gK (ag (mC (.int 1)) (ag (qr A4 (ag (ah 2) hG)) (ag (mC (.int 0)) hG))))) pj)
   (cR (gK (ag (mC (.int 0)) (ag (az jj (az mn (ah 2) (mC (.int 2147483587))) (az j3 (mC (.int 40009)) (ah 1))) (ag (mC (.int 0)) hG)))))) [J (.frl (ns.map .int)),J (.int k),J (.int cell)] h).fin=.ok (.loc h.length) (h++[.lst [.int m,.int c,.int 0]]):=λcell=>by
  obtain⟨m,c,q⟩:=fin cell;exact⟨m,c,by rw[q];rfl⟩
 have j:∀cell:Int,(cw (bS 2 (az jj (az j3 (mC (.int 7919)) (ah 1)) (mC (.int 11))))
 (Cj (mB (az Ct (ah 1) (qr zT (ag (qr qp (ag (ah 0) hG)) (ag (mC (.int 63)) hG))))) (bS 2 (az ba (ah 0) (ah 1))) (Cj (mB (az Cu (qr qp (ag (ah 0) hG)) (mC (.int 0)))) (bS 2 (az jj (az mn (az ba (ah 0) (az mn (ah 1) (qr zT (ag (qr qp (ag (ah 0) hG)) (ag (mC (.int 63)) hG))))) (az sw (mC (.int 10)) (mC (.int 15)))) (az j3 (mC (.int 48271)) (ah 1)))) pj))) [J (.frl (ns.map .int)),J (.int k),Y] h=.nx [J (.frl (ns.map .int)),J (.int k),J (.int cell)] h ->
   ∃m c:Int,cB 3 2 x3 [.frl (ns.map .int),.int k] h=.ok (.loc h.length) (h++[.lst [.int m,.int c,.int 0]]):=λcell q=>by
  obtain⟨m,c,W⟩:=u cell;refine⟨m,c,(fG (by rfl)).trans ?_⟩;rw[<-W];unfold x3;simp only[dX]at q ⊢;have e0:bq 3 [PV.frl (ns.map .int),PV.int k]=[J (.frl (ns.map .int)),J (.int k),Y]:=rfl;rw[e0];generalize (bS 2 (az jj (az j3 (mC (.int 7919)) (ah 1)) (mC (.int 11)))) [J (.frl (ns.map .int)),J (.int k),Y] h=R at q ⊢
  cases R with
  |nx Z G =>
   simp only[MM.aw,dX]at q ⊢;rw[q];rfl
  |_=>cases q
 have y:∃f:Nat,(if(63:Int)<(ns.length:Int)then(63:Int)else(ns.length:Int))=(f:Int)/\f<=ns.length/\(0<ns.length->0<f):=by
  by_cases z:(63:Int)<(ns.length:Int)
  .exact⟨63,by rw[b_ z];rfl,by ext,by ext⟩
  .exact⟨ns.length,by rw[e_ z],by ext,by ext⟩
 obtain⟨f,H,C,l⟩:=y;by_cases G:k<f
 .refine j (ns[k]'(by ext)) ?_;simp[F,H,G,u6 (show k<ns.length by ext)]
 .by_cases B:0<ns.length
  .have E:(f:Int)≠0:=by have:=l B;ext
   have M:k % f<ns.length:=xj (Nat.mod_lt _ (l B)) C;have U:(k:Int).fmod (f:Int)=((k % f:Nat):Int):=by rw[NJ _ (by ext)];rfl
   refine j ((ns[k % f]'M).fmod (10^15)+48271*k) ?_;have P:((10:Int)^15)≠0:=by decide
   have O:=u6 M;rw[Int.natCast_emod]at O;simp[F,H,G,B,fD E,U,O,Ai,fD P,Q,-Int.reducePow]
  .have S:ns=[]:=Rz.mp (by ext);refine j (7919*k+11) ?_;have z:¬((k:Int)<(f:Int)):=by ext
   simp[F,H,z,B]
def E7{h:MH}{n:Nat}{o a:MO}(e:h[n]?=J a):(h.set n o)[n]?=J o:=x6 (o_.mp e).1
def tE{ns:TN}{it:MIt}{n:Nat}(i:∀h,it.ok h):∀(xs:TL)(m:Nat)(z:Tj)(h:MH),(∀x∈xs,∃k:Nat,x=.int (k:Int)/\k<64)->h[n]?=J (.lst (List.replicate m (.bl I)))->m+xs.length<=100->∃f,z6 it n (mh 0) n_ (eX lW (ag (eX hV (ag (ah 1) (ag (ah 0) hG))) hG)) xs [z,J (.frl (ns.map .int))] h=.ok () f/\f[n]?=J (.lst (List.replicate (m+xs.length) (.bl I)))
 |[],m,z,h,j,e,u=>⟨h,mI (i h),e⟩
 |x::xs,m,z,h,j,e,u=>by
  have F:m+(xs.length+1)<=100:=u;obtain⟨k,rfl,C⟩:=j x (by simp);obtain⟨a,b,E⟩:=A6 (h:=h) (ns:=ns) (k:=k) C;obtain⟨l,L,kb⟩:=w8 (H:=h++[.lst [.int a,.int b,.int 0]]) (p:=h.length) (s:=(a,b,0)) (by show(h++[MO.lst [.int a,.int b,.int 0]])[h.length]?=J (.lst [.int a,.int b,.int 0]);exact Fx);have M:n<h.length:=(o_.mp e).1;have e3:l[n]?=J (.lst (List.replicate m (.bl I))):=by rw[kb n (by simp;ext) (by ext)];exact LU e
  obtain⟨f,q,B⟩:=tE (ns:=ns) i xs (m+1) (J (.int (k:Int))) (l.set n (.lst (List.replicate m (.bl I)++[.bl I]))) (λy G=>j y (l7 _ G)) (by rw[E7 e3,List.replicate_succ']) (by ext);refine⟨f,?_,by rw[B,B8,show m+1+xs.length=m+(xs.length+1) by ext]⟩;rw[m5 (Z:=[z,J (.frl (ns.map .int))]) (Z1:=[J (.int (k:Int)),J (.frl (ns.map .int))]) (h1:=h) (h2:=h) (v:=.bl I) (h3:=l) (ys:=List.replicate m (.bl I)) (i h) rfl rfl (by simp -implicitDefEqProofs [E,L]) e3 (by simp;ext)];exact q
def CF(ns:TN)(H:ns.length<=63):∃u,B3 [.frl (ns.map .int)] []=.ok (.bl I) u:=by
 unfold B3;rw[fG (by rfl)];unfold CD;rw[show bq 1 [PV.frl (ns.map .int)]=[J (.frl (ns.map .int))]from rfl];obtain⟨c,G,B⟩:∃c:Nat,c<=63/\(ag (qr BD (ag (mC (.int 1)) (ag (qr zT (ag (qr qp (ag (ah 0) hG)) (ag (mC (.int 8)) hG))) hG))) hG) [J (.frl (ns.map .int))] []=.ok [.int (c:Int)] []:=by
  have e:(ag (qr BD (ag (mC (.int 1)) (ag (qr zT (ag (qr qp (ag (ah 0) hG)) (ag (mC (.int 8)) hG))) hG))) hG) [J (.frl (ns.map .int))] []=.ok [.int (if(if(8:Int)<(ns.length:Int)then 8 else(ns.length:Int))>1 then(if(8:Int)<(ns.length:Int)then 8 else(ns.length:Int))else 1)] []:=by simp -implicitDefEqProofs
  have a:0<=(if(if(8:Int)<(ns.length:Int)then 8 else(ns.length:Int))>1 then(if(8:Int)<(ns.length:Int)then 8 else(ns.length:Int))else 1)/\(if(if(8:Int)<(ns.length:Int)then 8 else(ns.length:Int))>1 then(if(8:Int)<(ns.length:Int)then 8 else(ns.length:Int))else 1)<=63:=by constructor<;>(repeat' split)<;>ext
  generalize (if(if(8:Int)<(ns.length:Int)then 8 else(ns.length:Int))>1 then(if(8:Int)<(ns.length:Int)then 8 else(ns.length:Int))else 1)=i at e a;obtain⟨c,rfl⟩:=ju a.1;exact⟨c,by ext,e⟩
 have E:=Il B (by ext)
 obtain⟨f,C,j⟩:=tE (ns:=ns) (it:=⟨aW 0 c,[]⟩) (n:=0) (λ_=>fE.mpr trivial) (aW 0 c) 0 Y ([]++[.lst []]) (λx z=>by
  obtain⟨i,rfl,y,a⟩:=wz z;obtain⟨k,rfl⟩:=ju y
  exact⟨k,rfl,by ext⟩) rfl (by rw[MM.dR];ext)
 have F:bV 1 [0] (dP (ag (qr BD (ag (mC (.int 1)) (ag (qr zT (ag (qr qp (ag (ah 0) hG)) (ag (mC (.int 8)) hG))) hG))) hG)) (mh 0) n_ (eX lW (ag (eX hV (ag (ah 1) (ag (ah 0) hG))) hG)) [J (.frl (ns.map .int))] []=.ok (.loc 0) f:=by rw[j0,E,Out.bind_ok];refine(congrArg (λo:Out Unit=>o.bind _) C).trans ?_;rfl
 have l:=yx j;refine⟨f,?_⟩;rw[vw,Hv,fO,F,Out.bind_ok,mV,Out.bind_ok,Out.bind_ok,l];rfl
end Law
namespace Law
open PySem.Spec PyProof.Rows L2 MM
set_option maxHeartbeats 4000000
def top(i:Nat):Stmt:=PySem.Challenge.pw_fewfills_k29_showing_sheets.main.body.getD i (.Pass ⟨0,0,0,0⟩)
local macro_rules | `(tactic| contradiction)=>do let q <-[`w_var,`Mz,`QT,`MB,`MQ,`IV,`QU,`IW,`Q9,`MY,`Q6,`M9,`Ja,`M5,`MC,`MD,`MF,`IT,`Et,`MK,`IU,`w_ifE,`ML,`MN,`MP,`QV,`QW,`QX,`Jd,`Nb,`Nc,`Q7,`M0,`Jb,`w_tchain,`Jc,`Q_,`M_,`w_or,`Na,`Rc,`Ra,`Rb,`Re,`Rf,`Rg,`Nf,`Ng,`Nd,`Rh,`eK,`cX,`Nh,`Jg,`Ri,`Nj,`Rj,`w_set,`Ji,`Jf,`Q8,`AM,`zS,`Ar,`Jh,`w_pass,`Ni,`MU,`MV,`MX,`Q2,`MZ,`QY,`QZ,`Q0,`Q3,`Q4,`Q1,`Q5,`M1,`j_InD,`j_InnD,`M2,`M6,`M3,`M4,`IY,`Eu,`M7,`Bx,`Ey,`M8,`IZ,`Ev,`I_].foldrM (λn t=>`(tactic| first | apply $(Lean.mkIdent n) | $t:tactic)) (<-`(tactic| fail));`(tactic| (first | assumption | ((with_reducible apply Je);assumption;(intro env h;cases env;cases h;rfl)) | ((with_reducible apply Jj);assumption;(intro env h;cases env;cases h;rfl)) | ((with_reducible apply Nk);assumption;(intro env h;cases env;cases h;rfl)) | with_reducible $q:tactic | exact rfl | decide +kernel | refine λY c=>⟨?_,?_,?_⟩ | (intro _;rfl) | exact λ_ _=>rfl | exact Cr _ | omega | exact⟨⟨rfl,rfl⟩,rfl,rfl,rfl⟩ | with_unfolding_all rfl) <;> contradiction)
abbrev g6:Stmt:=top 8
abbrev cO:Stmt:=top 9
abbrev fY:Stmt:=top 10
abbrev oB:Stmt:=top 11
abbrev mK:Stmt:=top 12
abbrev m6:Stmt:=top 13
abbrev oT:Stmt:=top 14
abbrev gW:Stmt:=top 16
abbrev eA:Stmt:=top 17
abbrev e8:Stmt:=top 18
abbrev gT:Stmt:=top 19
abbrev eB:Stmt:=top 20
abbrev iX:Stmt:=top 22
abbrev f6:Stmt:=top 24
abbrev gN:Stmt:=top 25
abbrev iU:Stmt:=top 26
abbrev d9:Stmt:=top 27
abbrev kU:TM:=["sheet","order","known","rows","work","k","v","step","i","factor"]
abbrev kY:TM:=["enumerate","step_of","sorted","add_times","minus","NOUGHT"]
abbrev rG:TM:=["sheet","order","known"]
def rN(j:Sc X d9)(g:Gd X kU kY k)(C:h8 X)(B:Cal X "minus" ["a","b"] jG.m k)(i:Cal X "add_times" ["row","factor","parts"] je k)(f:Cal X "step_of" ["rows","v","later"] gh.m k)(u:Nn X "enumerate")(n12:Nn X "sorted")(z:Nn X "dict")(a:nN X.K X.mg "NOUGHT" 0 1):Bi X (aA d9) qb :=
 (ml.h (BG (BE (S6 g j 3 ["row"] [] ["dict"] [] (ik (BN (kV g 0) aC)) λl y g=>⟨(A_ g 0),hU,(QO g 0 (DZ g) (y.n z) En (aF (kV g 0) aT))⟩))
 (BG (FI g 4 (vR (xK aT)))
 (BG (BE (jI g (Sx g 0 u (aF (kV g 1) aT)) (iJ g (bA (A_ g 5) (bA (A_ g 6) fL))) (ml.h (BG (FI g 7 (vR (Ha (IN (yH T) (kV g 6) (kV g 2)) (ym (kV g 2) (kV g 6)) (IQ g 1 f (aF (kV g 3) (aF (kV g 6) (aF (Cq g 2 qA n12 lM (aF (FD (kV g 1) (vd (aN cQ (kV g 5) aC)) vk) aT)) aT)))))))
 (BG (BE (jI g (ik (BN (kV g 7) aC)) (iJ g (bA (A_ g 8) (bA (A_ g 9) fL))) (ml.h (BF (BE (mO (IN (yH I) (kV g 8) (kV g 2)) (ml.h (BF (BE (nh (IQ g 3 i (aF (BN (kV g 3) (kV g 8)) (aF (IQ g 4 B (aF (xZ g (q:=5) rfl a) (aF (kV g 9) aT))) (aF (BN (kV g 7) aC) aT)))))))) jv))))))
 (BF (BE (nh (Fz rm qC qJ (kV g 4) (aF (kV g 7) aT))))))))))
 (BF (Er (vR (kV g 4))))))))
abbrev j5:Stmt:=top 28
abbrev my:Stmt:=top 30
abbrev vD:TM:=["_law_script","_law_k","_law_cell"]
abbrev vX:TM:=["min","len","abs"]
abbrev E9:TM:=["_law_script","_law_k"]
def E_(i:Sc X my)(g:Gd X vD vX k)(j:h8 X)(n0:Nn X "abs")(f:Nn X "len")(a:Nn X "min"):Bi X (aA my) x3 :=
 (ml.h (BG (FI g 2 (vR (aN cQ (aN gn aC (kV g 1)) aC)))
 (BG (BE (mO (IN Fs (kV g 1) (Cq g 0 (sU g) a uk (aF (Cq g 1 lb f lh (aF (kV g 0) aT)) (aF aC aT)))) (ml.h (BF (FI g 2 (vR (BN (kV g 0) (kV g 1)))))) (ml.h (BF (BE (mO (IN Ft (Cq g 1 lb f lh (aF (kV g 0) aT)) aC) (ml.h (BF (FI g 2 (vR (aN cQ (aN dG (BN (kV g 0) (aN dG (kV g 1) (Cq g 0 (sU g) a uk (aF (Cq g 1 lb f lh (aF (kV g 0) aT)) (aF aC aT))))) (aN zu aC aC)) (aN gn aC (kV g 1))))))) jv))))))
 (BG (BE (mO (IN Ly (Cq g 2 tR n0 tD (aF (kV g 2) aT)) (aN zu aC aC)) (ml.h (BF (Er (QR (bi (vR aC) (bi (vR (Cq g 2 tR n0 tD (aF (kV g 2) aT))) (bi (vR aC) c8))))))) jv))
 (BF (Er (QR (bi (vR aC) (bi (vR (aN cQ (aN dG (kV g 2) aC) (aN gn aC (kV g 1)))) (bi (vR aC) c8))))))))))
abbrev kw:Stmt:=top 31
abbrev t5:TM:=["_law_pen_here","_law_size","_law_number","_law_drawn"]
abbrev uw:TM:=[]
abbrev AI:TM:=["_law_pen_here","_law_size"]
def Ao(a:Sc X kw)(g:Gd X t5 uw k)(f:h8 X):Bi X (aA kw) wt :=
 (ml.h (BG (BE (sC (aN cQ (BN (kV g 0) aC) aC) (tO (kV g 0) aC)))
 (BG (BE (mO (IN (Fp g.room) (BN (kV g 0) aC) aC) (ml.h (BG (FI g 3 (vR (aN dG (BN (kV g 0) aC) (kV g 1))))
 (BG (BE (sC (aN (wE g.room) (BN (kV g 0) aC) (kV g 1)) (tO (kV g 0) aC)))
 (BF (Er (vR (kV g 3))))))) jv))
 (BG (FI g 2 (vR (aN dG (aN gn (aN cQ (aN cQ (BN (kV g 0) aC) (aN gn aC (BN (kV g 0) aC))) aC) aC) aC)))
 (BG (FI g 2 (vR (aN dG (aN gn (kV g 2) (aN cQ (aN cQ (aN dG (kV g 2) aC) (BN (kV g 0) aC)) aC)) aC)))
 (BF (Er (vR (aN dG (aN (wE g.room) (aN dG (aN gn (kV g 2) (aN cQ (aN dG (kV g 2) aC) aC)) aC) aC) (kV g 1))))))))))
abbrev gQ:Stmt:=top 32
abbrev sI:Stmt:=top 33
abbrev kI:Stmt:=top 34
abbrev i8:Stmt:=top 35
abbrev kj:Stmt:=top 36
abbrev kq:Stmt:=top 37
abbrev i4:Stmt:=top 38
abbrev kL:Stmt:=top 39
abbrev iW:Stmt:=top 40
abbrev iT:Stmt:=top 41
abbrev d8:Stmt:=top 42
abbrev eG:Stmt:=top 43
abbrev f7:Stmt:=top 44
abbrev dQ:Stmt:=top 45
abbrev jL:TM:=["_law_n","_law_work","_law_grid","_law_v","_law_pivot","_law_row","_law_column","_law_i","_law_factor","_law_j","_law_number"]
abbrev jo:TM:=["range","_law_plus","_law_times","tuple"]
abbrev qq:TM:=["_law_n","_law_work"]
def pN(a:Sc X dQ)(g:Gd X jL jo k)(C:h8 X)(l:Cal X "_law_times" ["_law_a","_law_b"] gw.m k)(u:Cal X "_law_plus" ["_law_a","_law_b"] iO.m k)(B:Nn X "enumerate")(i:Nn X "tuple")(j:Nn X "range"):Bi X (aA dQ) pq :=
 (ml.h (BG (BE (S8 g a 2 ["_law_i"] ["_law_n"] ["range"] [0] (QP g 0 j (aF (kV g 0) aT)) λf y a g=>⟨(A_ g 0),hU,(QQ g a ["_law_j"] [] [] [] (QP g 0 (y.n j) (aF (kV g 1) aT)) λf z g=>⟨(A_ g 0),hU,(k_.h (CO (bi (vR aC) (bi (vR aC) c8))))⟩)⟩))
 (BG (BE (jI g (ik (kV g 1)) (iJ g (bA (A_ g 3) (bA (A_ g 4) (bA (A_ g 5) (bA (A_ g 6) fL))))) (ml.h (BF (BE (jI g (ik (aN cQ (k_.h (CO (bi (CO (bi (vR (kV g 3)) (bi (CO (bi (vR aC) (bi (vR aC) c8))) c8))) c8))) (kV g 6))) (iJ g (bA (A_ g 7) (bA (A_ g 8) fL))) (ml.h (BF (BE (jI g (ik (aN cQ (k_.h (CO (bi (CO (bi (vR (kV g 3)) (bi (vR (kV g 4)) c8))) c8))) (kV g 5))) (iJ g (bA (A_ g 9) (bA (A_ g 10) fL))) (ml.h (BF (BE (sC (IQ g 1 u (aF (BN (BN (kV g 2) (kV g 7)) (kV g 9)) (aF (IQ g 2 l (aF (kV g 8) (aF (kV g 10) aT))) aT))) (tO (BN (kV g 2) (kV g 7)) (kV g 9))))))))))))))))
 (BF (Er (CO (bi (vR (kV g 0)) (bi (vR (QO g 3 om i jU (aF (S7 g a ["_law_own"] [] ["tuple","enumerate"] [] (ik (kV g 2)) λf y a g=>⟨(A_ g 0),hU,(QO g 0 om (y.n i) jU (aF (QQ g a ["_law_j","_law_one"] [] [] [] (Sx g 1 (y.n B) (aF (kV g 0) aT)) λf z g=>⟨(iJ g (bA (A_ g 0) (bA (A_ g 1) fL))),(vc (IN (Fq g.room) (kV g 1) (k_.h (CO (bi (vR aC) (bi (vR aC) c8)))))),(k_.h (CO (bi (vR (kV g 0)) (bi (vR (kV g 1)) c8))))⟩) aT))⟩) aT))) c8))))))))
abbrev mZ:Stmt:=top 46
abbrev iV:Stmt:=top 47
abbrev o8:Stmt:=top 48
abbrev FZ:TM:=["_law_script"]
abbrev F0:TM:=["all","range","max","min","len"]
abbrev CG:TM:=["_law_script"]
def NI(l:Sc X o8)(g:Gd X FZ F0 k)(E:h8 X)(j:Cal X "_law_pen" ["_law_script","_law_k"] hV k)(f:Cal X "_law_right" ["_law_pen_here"] dJ.m k)(a:Nn X "range")(C:Nn X "len")(i:Nn X "min")(u:Nn X "max")(B:Nn X "all"):Bi X (aA o8) CD :=
 (ml.h (BF (Er (vR (Cq g 0 (yo g) B zn (aF (QQ g l ["_law_k"] ["_law_script"] ["_law_right","_law_pen"] [0] (QP g 1 a (aF (Cq g 2 (xY g) u yU (aF aC (aF (Cq g 3 (sU g) i uk (aF (Cq g 4 lb C lh (aF (kV g 0) aT)) (aF aC aT))) aT))) aT)) λz y g=>⟨(A_ g 0),hU,(IQ g 0 (y.c f) (aF (IQ g 1 (y.c j) (aF (kV g 1) (aF (kV g 0) aT))) aT))⟩) aT))))))
def JR:fQ "law" o8 CG:=λ_ _ _ _ _ _=>Mu λ_=>rfl
abbrev jX:TM:=["thing"]
def wW{K:hH}(c:Wc X P w K mg base jX jX 0 (ae g6))(d:h8 X)(a:Zn K "isinstance")(i:Zn K "bool")(f:Zn K "int"):ml X (aA g6) eW.m:=by unfold eW;apply eK<;>contradiction
abbrev dZ:TM:=["a","b","rest"]
def nu{K:hH}(c:Wc X P w K mg base dZ dZ 0 (ae cO))(d:h8 X):ml X (aA cO) b7.m:=by unfold b7;apply cX<;>contradiction
abbrev ji:TM:=["top","bottom","shared"]
def uF{K:hH}(c:Wc X P w K mg base ji ji 1 (ae fY))(d:h8 X)(z0:Zn K "abs")(f:FnAt P w K mg base "greatest_shared" Ps1 bZ.m 1)(a:FnAt P w K mg base "is_whole" Ps0 cE.m 1):ml X (aA fY) d4.m:=by unfold d4;apply cX<;>contradiction
abbrev tS:TM:=["a","b"]
def JS{K:hH}(c:Wc X P w K mg base tS tS 2 (ae oB))(d:h8 X)(a:FnAt P w K mg base "number_of" Ps2 bw.m 2):ml X (aA oB) k7.m:=by unfold k7;apply eK<;>contradiction
abbrev qg:TM:=["a","b"]
def Fa{K:hH}(c:Wc X P w K mg base qg qg 2 (ae mK))(d:h8 X)(a:FnAt P w K mg base "number_of" Ps2 bw.m 2):ml X (aA mK) jq.m:=by unfold jq;apply eK<;>contradiction
abbrev p6:TM:=["a","b"]
def Fb{K:hH}(c:Wc X P w K mg base p6 p6 2 (ae m6))(d:h8 X)(a:FnAt P w K mg base "number_of" Ps2 bw.m 2):ml X (aA m6) jy.m:=by unfold jy;apply eK<;>contradiction
abbrev tZ:TM:=["a","b"]
def JT{K:hH}(c:Wc X P w K mg base tZ tZ 2 (ae oT))(d:h8 X)(a:FnAt P w K mg base "number_of" Ps2 bw.m 2):ml X (aA oT) lU.m:=by unfold lU;apply eK<;>contradiction
abbrev kK:TM:=["n","thing"]
def wM{K:hH}(c:Wc X P w K mg base kK kK 1 (ae gW))(d:h8 X)(a:FnAt P w K mg base "is_whole" Ps0 cE.m 1):ml X (aA gW) fj.m:=by unfold fj;apply eK<;>contradiction
abbrev gM:TM:=["n","thing"]
def rO{K:hH}(c:Wc X P w K mg base gM gM 2 (ae eA))(d:h8 X)(a:FnAt P w K mg base "is_place" Ps7 cD.m 2):ml X (aA eA) c9.m:=by unfold c9;apply eK<;>contradiction
abbrev iC:TM:=["web","v","below","above"]
def tT{K:hH}(c:Wc X P w K mg base iC iC 3 (ae e8))(d:h8 X)(a:FnAt P w K mg base "check_place" Ps8 du.m 3):ml X (aA e8) dN.m:=by unfold dN;apply cX<;>contradiction
abbrev jY:TM:=["web","thing"]
def wD{K:hH}(c:Wc X P w K mg base jY jY 2 (ae gT))(d:h8 X)(f:Zn K "sorted")(l:Zn K "list")(a:Zn K "range")(z1:Zn K "all")(i:Zn K "isinstance")(j:FnAt P w K mg base "is_place" Ps7 cD.m 2):ml X (aA gT) eR.m:=by unfold eR;apply cX<;>contradiction
abbrev gI:TM:=["web","thing"]
def rK{K:hH}(c:Wc X P w K mg base gI gI 3 (ae eB))(d:h8 X)(a:FnAt P w K mg base "is_order" Ps10 fB.m 3):ml X (aA eB) cY.m:=by unfold cY;apply eK<;>contradiction
abbrev lL:TM:=["web","middle","rows","v"]
def yy{K:hH}(c:Wc X P w K mg base lL lL 4 (ae iX))(d:h8 X)(f:Zn K "tuple")(a:Zn K "range")(i:Zn K "sorted")(j:FnAt P w K mg base "neighbours" Ps9 cr.m 4):ml X (aA iX) gE.m:=by unfold gE;apply cX<;>contradiction
abbrev jb:TM:=["row","factor","parts","j","number"]
def uI{K:hH}(c:Wc X P w K mg base jb jb 3 (ae f6))(d:h8 X)(a:nN K mg "NOUGHT" 0 1)(i:FnAt P w K mg base "times" Ps5 dy.m 3)(f:FnAt P w K mg base "plus" Ps3 d6.m 3):ml X (aA f6) bC.m:=by unfold bC;apply eK<;>contradiction
abbrev kQ:TM:=["row","places"]
def xh{K:hH}(c:Wc X P w K mg base kQ kQ 0 (ae gN))(d:h8 X)(f:Zn K "tuple")(a:nN K mg "NOUGHT" 0 1):ml X (aA gN) fi.m:=by unfold fi;apply eK<;>contradiction
abbrev lS:TM:=["rows","v","later","pivot","column"]
def xT{K:hH}(c:Wc X P w K mg base lS lS 3 (ae iU))(d:h8 X)(i:Zn K "tuple")(a:nN K mg "NOUGHT" 0 1)(f:FnAt P w K mg base "parts_at" Ps14 eS.m 1)(j:FnAt P w K mg base "over" Ps6 ij.m 3):ml X (aA iU) gc.m:=by unfold gc;apply cX<;>contradiction
abbrev oi:TM:=["sheet","order"]
def AN{K:hH}(c:Wc X P w K mg base oi oi 5 (ae j5))(d:h8 X)(f:FnAt P w K mg base "struck_with" Ps16 eE 5)(a:FnAt P w K mg base "check_order" Ps11 cZ.m 4):ml X (aA j5) iq.m:=by unfold iq;apply cX<;>contradiction
abbrev kh:TM:=["_law_top","_law_bottom","_law_one","_law_other"]
def wu{K:hH}(c:Wc X P w K mg base kh kh 0 (ae gQ))(d:h8 X)(z0:Zn K "abs"):ml X (aA gQ) fh.m:=by unfold fh;apply cX<;>contradiction
abbrev oo:TM:=["_law_pen_here"]
def Bl{K:hH}(c:Wc X P w K mg base oo oo 1 (ae kI))(d:h8 X)(a:FnAt P w K mg base "_law_draw" Ps19 dM 1):ml X (aA kI) iK.m:=by unfold iK;apply cX<;>contradiction
abbrev kZ:TM:=["_law_pen_here","_law_n","_law_found","_law_k"]
def yd{K:hH}(c:Wc X P w K mg base kZ kZ 1 (ae i8))(d:h8 X)(f:Zn K "range")(a:FnAt P w K mg base "_law_draw" Ps19 dM 1):ml X (aA i8) gB.m:=by unfold gB;apply cX<;>contradiction
abbrev nK:TM:=["_law_pen_here","_law_n","_law_some","_law_ties_here","_law_a"]
def AG{K:hH}(c:Wc X P w K mg base nK nK 1 (ae kj))(d:h8 X)(i:Zn K "tuple")(f:Zn K "range")(a:FnAt P w K mg base "_law_draw" Ps19 dM 1):ml X (aA kj) iB.m:=by unfold iB;apply cX<;>contradiction
abbrev nW:TM:=["_law_a","_law_b"]
def zW{K:hH}(c:Wc X P w K mg base nW nW 1 (ae kq))(d:h8 X)(a:FnAt P w K mg base "_law_lowest" Ps20 ce.m 1):ml X (aA kq) ie.m:=by unfold ie;apply eK<;>contradiction
abbrev lT:TM:=["_law_a","_law_b"]
def yi{K:hH}(c:Wc X P w K mg base lT lT 1 (ae i4))(d:h8 X)(a:FnAt P w K mg base "_law_lowest" Ps20 ce.m 1):ml X (aA i4) gz.m:=by unfold gz;apply eK<;>contradiction
abbrev oj:TM:=["_law_ties_here","_law_v"]
def Ay{K:hH}(c:Wc X P w K mg base oj oj 0 (ae kL))(d:h8 X):ml X (aA kL) iD.m:=by unfold iD;apply eK<;>contradiction
abbrev lQ:TM:=["_law_ties_here","_law_order_here","_law_at","_law_seen","_law_k"]
def yN{K:hH}(c:Wc X P w K mg base lQ lQ 1 (ae iW))(d:h8 X)(f:Zn K "len")(a:FnAt P w K mg base "_law_near" Ps27 cN.m 1):ml X (aA iW) gA.m:=by unfold gA;apply cX<;>contradiction
abbrev lH:TM:=["_law_thing"]
def yX{K:hH}(c:Wc X P w K mg base lH lH 0 (ae iT))(d:h8 X)(a:Zn K "isinstance")(i:Zn K "bool")(f:Zn K "int"):ml X (aA iT) f9.m:=by unfold f9;apply eK<;>contradiction
abbrev gH:TM:=["_law_thing"]
def rH{K:hH}(c:Wc X P w K mg base gH gH 1 (ae d8))(d:h8 X)(l:Zn K "len")(j:Zn K "isinstance")(i:Zn K "tuple")(f:FnAt P w K mg base "_law_lowest" Ps20 ce.m 1)(a:FnAt P w K mg base "_law_whole" Ps29 bH.m 1):ml X (aA d8) dh.m:=by unfold dh;apply cX<;>contradiction
abbrev gL:TM:=["_law_parts","_law_later_here","_law_ahead","_law_part"]
def rQ{K:hH}(c:Wc X P w K mg base gL gL 2 (ae eG))(d:h8 X)(l:Zn K "len")(j:Zn K "isinstance")(i:Zn K "tuple")(a:FnAt P w K mg base "_law_is_number" Ps30 bx.m 2)(f:FnAt P w K mg base "_law_whole" Ps29 bH.m 1):ml X (aA eG) dm.m:=by unfold dm;apply cX<;>contradiction
abbrev jf:TM:=["_law_work","_law_order_here","_law_at","_law_v","_law_one"]
def uK{K:hH}(c:Wc X P w K mg base jf jf 3 (ae f7))(d:h8 X)(l:Zn K "enumerate")(y:Zn K "len")(u:Zn K "isinstance")(j:Zn K "tuple")(z:Zn K "list")(a:FnAt P w K mg base "_law_are_parts" Ps31 bI.m 3)(f:FnAt P w K mg base "_law_is_number" Ps30 bx.m 2)(i:FnAt P w K mg base "_law_whole" Ps29 bH.m 1):ml X (aA f7) d5.m:=by unfold d5;apply cX<;>contradiction
abbrev pQ:TM:=["_law_n","_law_ties_here","_law_rows","_law_i","_law_near_here"]
def Fc{K:hH}(c:Wc X P w K mg base pQ pQ 1 (ae mZ))(d:h8 X)(i:Zn K "tuple")(f:Zn K "range")(l:Zn K "max")(j:Zn K "int")(a:FnAt P w K mg base "_law_near" Ps27 cN.m 1):ml X (aA mZ) jJ.m:=by unfold jJ;apply cX<;>contradiction
abbrev lG:TM:=["_law_pen_here","_law_n","_law_ties_here","_law_order_here","_law_handed","_law_found","_law_work","_law_at","_law_due_here"]
def yW{K:hH}(c:Wc X P w K mg base lG lG 9 (ae iV))(d:h8 X)(z:Zn K "range")(G:Zn K "sorted")(L:Zn K "list")(H:Zn K "int")(j:FnAt P w K mg base "_law_multiplied" Ps33 dS 3)(E:FnAt P w K mg base "_law_later" Ps28 dI.m 2)(y:FnAt P w K mg base "_law_is_work" Ps32 d7.m 4)(l:FnAt P w K mg base "struck" Ps17 ir.m 6)(B:FnAt P w K mg base "_law_due" Ps34 jw.m 2)(F:FnAt P w K mg base "_law_same" Ps21 jS.m 9)(u:FnAt P w K mg base "showing" Ps12 gD.m 5)(C:FnAt P w K mg base "_law_order" Ps23 f8.m 2)(a:FnAt P w K mg base "_law_draw" Ps19 dM 1)(i:FnAt P w K mg base "_law_ties" Ps24 ip.m 2)(f:FnAt P w K mg base "_law_many" Ps22 iN.m 2):ml X (aA iV) gp.m:=by unfold gp;apply cX<;>contradiction
def JU{K:hH}(b:Ba P w K mg base)(D0:c_ K "is_whole" g6)(D1:c_ K "greatest_shared" cO)(D2:c_ K "number_of" fY)(D3:c_ K "plus" oB)(D4:c_ K "minus" mK)(D5:c_ K "times" m6)(D6:c_ K "over" oT)(D7:c_ K "is_place" gW)(D8:c_ K "check_place" eA)(D9:c_ K "neighbours" e8)(de:c_ K "is_order" gT)(db:c_ K "check_order" eB)(W:c_ K "showing" iX)(bm:c_ K "add_times" f6)(b4:c_ K "parts_at" gN)(cf:c_ K "step_of" iU)(ap:c_ K "struck_with" d9)(br:c_ K "struck" j5)(b3:c_ K "_law_pen" my)(df:c_ K "_law_draw" kw)(c2:c_ K "_law_lowest" gQ)(M:c_ K "_law_same" sI)(cb:c_ K "_law_many" kI)(b5:c_ K "_law_order" i8)(b6:c_ K "_law_ties" kj)(cs:c_ K "_law_plus" kq)(c3:c_ K "_law_times" i4)(c4:c_ K "_law_near" kL)(cd:c_ K "_law_later" iW)(cm:c_ K "_law_whole" iT)(dd:c_ K "_law_is_number" d8)(b0:c_ K "_law_are_parts" eG)(ci:c_ K "_law_is_work" f7)(cn:c_ K "_law_multiplied" dQ)(an:c_ K "_law_due" mZ)(cv:c_ K "_law_right" iV)(as:c_ K "law" o8)(z0:Zn K "abs")(z1:Zn K "all")(z2:Zn K "bool")(z3:Zn K "dict")(z4:Zn K "enumerate")(R:Zn K "int")(H:Zn K "isinstance")(E:Zn K "len")(z8:Zn K "list")(z9:Zn K "max")(O:Zn K "min")(i:Zn K "range")(u:Zn K "sorted")(f:Zn K "tuple")(dj:Zn K "zip")(j:oQ K "NOUGHT" 0 1):FnAt P w K mg base "law" CG B3 11:=by
 have a:=j.mg b.kin b.ns;have a0:=v_ (F:=cE) jX b D0 λX c d=>wW c d H z2 R;have a1:=v_ (F:=bZ) dZ b D1 λX c d=>nu c d;have S:=v_ (F:=bw) ji b D2 λX c d=>uF c d z0 a1 a0;have a3:=v_ (F:=d6) tS b D3 λX c d=>JS c d  S;have a4:=v_ (F:=jG) qg b D4 λX c d=>Fa c d  S;have a5:=v_ (F:=dy) p6 b D5 λX c d=>Fb c d  S;have a6:=v_ (F:=ij) tZ b D6 λX c d=>JT c d  S;have a7:=v_ (F:=cD) kK b D7 λX c d=>wM c d  a0;have a8:=v_ (F:=du) gM b D8 λX c d=>rO c d  a7;have a9:=v_ (F:=cr) iC b D9 λX c d=>tT c d  a8;have c5:=v_ (F:=fB) jY b de λX c d=>wD c d u z8 i z1 H a7;have c6:=v_ (F:=cZ) gI b db λX c d=>rK c d  c5;have ar:=v_ (F:=gD) lL b W λX c d=>yy c d f i u a9;have ay:=Rm (B:=bC) (np:=3) jb b bm λX c d=>uI c d a a5 a3;have ax:=v_ (F:=eS) kQ b b4 λX c d=>xh c d f a;have Z:=v_ (F:=gh) lS b cf λX c d=>xT c d f a ax a6;have c1:=Mw (k:=4) (N:=kU) (G:=kY) (ps:=rG) b ap λX e h g d=>rN h g d (a4.c e) (ay.c e) (Z.c e) (e.n z4) (e.n u) (e.n z3) (e.e3▸e.e4▸a);have ck:=v_ (F:=ir) oi b br λX c d=>AN c d  c1 c6;have ai:=Mw (k:=0) (N:=vD) (G:=vX) (ps:=E9) b b3 λX e h g d=>E_ h g d (e.n z0) (e.n E) (e.n O);have l:=Mw (k:=0) (N:=t5) (G:=uw) (ps:=AI) b df λX e h g d=>Ao h g d;have z:=v_ (F:=ce) kh b c2 λX c d=>wu c d z0;have y:∀n,FnAt P w K mg base "_law_same" _ (cK n).m (0+n+1):=λn=>by
  induction n with
  |zero=>exact Rk (np:=2) ["_law_found","_law_due_here"] b M
  |succ n ih=>exact v_ (F:=cK (n+1)) (B:=fF (cK n)) ["_law_found","_law_due_here"] b M λX c d=>by unfold fF;apply cX<;>contradiction
 have y:FnAt P w K mg base "_law_same" _ jS.m 9:=y 8;have b1:=v_ (F:=iN) oo b cb λX c d=>Bl c d  l;have ch:=v_ (F:=f8) kZ b b5 λX c d=>yd c d i l;have U:=v_ (F:=ip) nK b b6 λX c d=>AG c d f i l;have ca:=v_ (F:=iO) nW b cs λX c d=>zW c d  z;have di:=v_ (F:=gw) lT b c3 λX c d=>yi c d  z;have Q:=v_ (F:=cN) oj b c4 λX c d=>Ay c d;have b2:=v_ (F:=dI) lQ b cd λX c d=>yN c d E Q;have C:=v_ (F:=bH) lH b cm λX c d=>yX c d H z2 R;have L:=v_ (F:=bx) gH b dd λX c d=>rH c d E H f z C;have b9:=v_ (F:=bI) gL b b0 λX c d=>rQ c d E H f L C;have da:=v_ (F:=d7) jf b ci λX c d=>uK c d z4 E H f z8 b9 L C;have bv:=Mw (k:=2) (N:=jL) (G:=jo) (ps:=qq) b cn λX e h g d=>pN h g d (di.c e) (ca.c e) (e.n z4) (e.n f) (e.n i);have al:=v_ (F:=jw) pQ b an λX c d=>Fc c d f i z9 R Q;have dc:=v_ (F:=dJ) lG b cv λX c d=>yW c d i u z8 R bv b2 da ck al y ar ch l U b1;have c7:=Mw (k:=10) (N:=FZ) (G:=F0) (ps:=CG) b as λX e h g d=>NI h g d (ai.c e) (dc.c e) (e.n i) (e.n E) (e.n O) (e.n z9) (e.n z1);exact c7
end Law
namespace PySem.W.Fast
def tw8438240331744041089:=0
def tw13817372031741153943:=0
def tw17198022322544498714:=0
def tw5706025799283085330:=0
def tw15523048983100563560:=0
def tw998746147348333836:=0
def tw12391281291535207554:=0
def tw15386376009589486279:=0
def tw5488869313763948168:=0
def tw16222937655881005295:=0
def tw4094488393760743816:=0
def tw9230951834942743227:=0
def tw4494046884497449683:=0
def tw13884461425538744459:=0
def tw623119131049213062:=0
def tw7361624828587168031:=0
def tw17544239198770400207:=0
def tw16571821550466894952:=0
def tw6545128206051943964:=0
def tw16273339917114045898:=0
def tw7028060128363414485:=0
def tw7115818276576161666:=0
def tw8909822525747939004:=0
def tw3728692926319170248:=0
def tw1020599196875902243:=0
def tw13734151992535318243:=0
def tw4332733280223727144:=0
def tw445496501266253538:=0
def tw156734543088020640:=0
def tw3200869285938974226:=0
def tw17816905334736056342:=0
def tw10726268698361939547:=0
def tw12560156238733328929:=0
def tw10888481526948385618:=0
def tw2580192632129058980:=0
def tw13539588963922405154:=0
def tw15300781132517794528:=0
def tw898147280723114669:=0
def tw2423089077013456858:=0
def tw11485387920255103156:=0
def tw12307562244231832929:=0
def tw5340880207557013849:=0
def tw3844183161423475539:=0
def tw4640760743022347085:=0
def tw15360340564850438448:=0
def tw16045940060140683308:=0
def tw8178917057630920458:=0
def tw1666098513365971223:=0
def tw2923159860684793055:=0
def tw16029283039972450615:=0
def tw1185506954699667727:=0
def tw15429018175518367522:=0
def tw9044768046515530620:=0
def tw12656374411488867357:=0
def tw13272730895216736551:=0
def tw4817545769713093967:=0
def tw3694114790009896860:=0
def tw2581963098968572832:=0
def tw2887869562942012184:=0
def tw3959888295223214772:=0
def tw6389571527910745372:=0
def tw16733438457830881015:=0
def tw5424017671603272129:=0
def tw9431254896908464843:=0
def tw14669729545534747208:=0
def tw15867081781590423088:=0
def tw4737166992294445851:=0
def tw13058834489785358422:=0
def tw3085575756839574173:=0
def tw13094072714845034879:=0
def tw2353792567737921420:=0
def tw16604192375656272917:=0
def tw13399996869596742733:=0
def tw17003203102624055860:=0
def tw18228002344181856482:=0
def tw4364353511936671564:=0
def tw5933650074821538192:=0
def tw7254333741880891477:=0
def tw11262761393470572733:=0
def tw9353150823002699960:=0
def tw10685149232572097527:=0
def tw3501743401426196514:=0
def tw14118035927571451916:=0
def tw12559472790748230951:=0
def tw6318281212614952827:=0
def tw3731746218279465525:=0
def tw7779834524383780378:=0
def tw8214415962098938024:=0
def tw9016460622932002474:=0
def tw887479172549616990:=0
def tw8972850512802873266:=0
def tw8339140009614114411:=0
def tw1571902132318801020:=0
def tw9481001483606517544:=0
def tw4810439731058327931:=0
def tw3331489523020275630:=0
def tw2750984053521214034:=0
def tw7289375645357110011:=0
def tw8173804522741858582:=0
def tw3674576326200085703:=0
def tw11329216424657297822:=0
def tw13773683750141202965:=0
def tw12788636397289932575:=0
def tw2922788886895304598:=0
def tw17292919275441034115:=0
def tw11024595417659581413:=0
def tw12716801668140243206:=0
def tw5046143765139246234:=0
def tw17406147637366523930:=0
def tw5214265049109592111:=0
def tw17762645756127400841:=0
def tw6646004241895534183:=0
def tw14591171277837306307:=0
def tw17763874183919725036:=0
def tw1346148227734061854:=0
def tw768613665378981532:=0
def tw10569305967010044206:=0
def tw386043561212333985:=0
def tw17208630233870521539:=0
def tw8505098744498065661:=0
def tw10953397131550476380:=0
def tw10205030696561168348:=0
def tw17928679567185976842:=0
def tw1253426424095325419:=0
def tw15769606461500237769:=0
def tw14386289412577541054:=0
def tw8443515744442465491:=0
def tw12095301795586788084:=0
def tw9252370886549529852:=0
def tw17828993728563863141:=0
def tw1471484459037155545:=0
def tw2246753497500618482:=0
def tw12702909870520238998:=0
def tw4008061626036723961:=0
def tw17171229519941570777:=0
def tw9831661607128867528:=0
def tw15167777176252681523:=0
def tw10618009488295002857:=0
def tw11922548566325168488:=0
def tw5392419729300528479:=0
def tw7290886166578675446:=0
def tw17057201153274196928:=0
def tw4670466196793823318:=0
def tw4030909022651804690:=0
def tw7021920543293210504:=0
def tw15836918245745319155:=0
def tw1849212052504073741:=0
def tw9278287575208841706:=0
def tw5539020212784806073:=0
def tw426442864947167129:=0
def tw2920776558543335331:=0
def tw16314045947908939246:=0
def tw15388857294310498883:=0
def tw8740765204199165984:=0
def tw17684845416364193751:=0
def tw1628102325287932594:=0
def tw16372423662080819588:=0
def tw18186728880251566370:=0
def tw198061756572371268:=0
def tw14053203591042537716:=0
def tw17564544515657538955:=0
def tw10715069064487641054:=0
def tw1125844290530820194:=0
def tw17120763908189148657:=0
def tw13117764019637105721:=0
def tw2122752705888589827:=0
def tw15497580403475579939:=0
def tw9565952419530356572:=0
def tw8608858343770601986:=0
def tw9915068350384717451:=0
def tw14039410292282984384:=0
def tw15896013163461495303:=0
def tw11077026339371726791:=0
def tw14710824665657323745:=0
def tw18345860048451961427:=0
def tw16513761801350056400:=0
def tw5827251619938322944:=0
def tw12979995770586333629:=0
def tw783475239049772161:=0
def tw616220799889105940:=0
end PySem.W.Fast
open PySem PySem.W PyProof.Rows
local macro_rules | `(tactic| and_intros) => `(tactic| (dsimp only [L2.nr]; first | k_is | (refine' MM.Cz ?a ?l ?c ?k; (case a => k_is); (case l => k_is); (case c => k_is); (case k => k_is))))
set_option maxRecDepth 100000 in
set_option maxHeartbeats 0 in
theorem PySem.Challenge.cw_fewfills_k29_showing_sheets_holds : PySem.Challenge.rw_fewfills_k29_showing_sheets.Holds := by
  w_on; o_law; k_head; (case hw=>w_witness2)
  k_fill
  refine MM.Hu (l:=PySem.Challenge.rw_fewfills_k29_showing_sheets) (k:=11) (x:="_law_script") (F:=Law.B3) rfl rfl ⟨rfl,by decide,by decide,rfl⟩ (by decide +kernel) rfl (fun w h Y=>PySem.W.kIn_of Y) ?F Law.CF
  case F=>
    intro w mg fa h KX G hmg
    have Dlaw:MM.c_ (L2.nr KX) "law" Law.o8:=by and_intros
    have D0:MM.c_ (L2.nr KX) "is_whole" Law.g6:=by and_intros
    have D1:MM.c_ (L2.nr KX) "greatest_shared" Law.cO:=by and_intros
    have D2:MM.c_ (L2.nr KX) "number_of" Law.fY:=by and_intros
    have D3:MM.c_ (L2.nr KX) "plus" Law.oB:=by and_intros
    have D4:MM.c_ (L2.nr KX) "minus" Law.mK:=by and_intros
    have D5:MM.c_ (L2.nr KX) "times" Law.m6:=by and_intros
    have D6:MM.c_ (L2.nr KX) "over" Law.oT:=by and_intros
    have D7:MM.c_ (L2.nr KX) "is_place" Law.gW:=by and_intros
    have D8:MM.c_ (L2.nr KX) "check_place" Law.eA:=by and_intros
    have D9:MM.c_ (L2.nr KX) "neighbours" Law.e8:=by and_intros
    have D10:MM.c_ (L2.nr KX) "is_order" Law.gT:=by and_intros
    have D11:MM.c_ (L2.nr KX) "check_order" Law.eB:=by and_intros
    have D12:MM.c_ (L2.nr KX) "showing" Law.iX:=by and_intros
    have D13:MM.c_ (L2.nr KX) "add_times" Law.f6:=by and_intros
    have D14:MM.c_ (L2.nr KX) "parts_at" Law.gN:=by and_intros
    have D15:MM.c_ (L2.nr KX) "step_of" Law.iU:=by and_intros
    have D16:MM.c_ (L2.nr KX) "struck_with" Law.d9:=by and_intros
    have D17:MM.c_ (L2.nr KX) "struck" Law.j5:=by and_intros
    have D18:MM.c_ (L2.nr KX) "_law_pen" Law.my:=by and_intros
    have D19:MM.c_ (L2.nr KX) "_law_draw" Law.kw:=by and_intros
    have D20:MM.c_ (L2.nr KX) "_law_lowest" Law.gQ:=by and_intros
    have D21:MM.c_ (L2.nr KX) "_law_same" Law.sI:=by and_intros
    have D22:MM.c_ (L2.nr KX) "_law_many" Law.kI:=by and_intros
    have D23:MM.c_ (L2.nr KX) "_law_order" Law.i8:=by and_intros
    have D24:MM.c_ (L2.nr KX) "_law_ties" Law.kj:=by and_intros
    have D25:MM.c_ (L2.nr KX) "_law_plus" Law.kq:=by and_intros
    have D26:MM.c_ (L2.nr KX) "_law_times" Law.i4:=by and_intros
    have D27:MM.c_ (L2.nr KX) "_law_near" Law.kL:=by and_intros
    have D28:MM.c_ (L2.nr KX) "_law_later" Law.iW:=by and_intros
    have D29:MM.c_ (L2.nr KX) "_law_whole" Law.iT:=by and_intros
    have D30:MM.c_ (L2.nr KX) "_law_is_number" Law.d8:=by and_intros
    have D31:MM.c_ (L2.nr KX) "_law_are_parts" Law.eG:=by and_intros
    have D32:MM.c_ (L2.nr KX) "_law_is_work" Law.f7:=by and_intros
    have D33:MM.c_ (L2.nr KX) "_law_multiplied" Law.dQ:=by and_intros
    have D34:MM.c_ (L2.nr KX) "_law_due" Law.mZ:=by and_intros
    have D35:MM.c_ (L2.nr KX) "_law_right" Law.iV:=by and_intros
    have Z36:PySem.W.nsIn (L2.nr KX) mainGlobals "abs" = some none:=by and_intros
    have Z37:PySem.W.nsIn (L2.nr KX) mainGlobals "all" = some none:=by and_intros
    have Z38:PySem.W.nsIn (L2.nr KX) mainGlobals "bool" = some none:=by and_intros
    have Z39:PySem.W.nsIn (L2.nr KX) mainGlobals "dict" = some none:=by and_intros
    have Z40:PySem.W.nsIn (L2.nr KX) mainGlobals "enumerate" = some none:=by and_intros
    have Z41:PySem.W.nsIn (L2.nr KX) mainGlobals "int" = some none:=by and_intros
    have Z42:PySem.W.nsIn (L2.nr KX) mainGlobals "isinstance" = some none:=by and_intros
    have Z43:PySem.W.nsIn (L2.nr KX) mainGlobals "len" = some none:=by and_intros
    have Z44:PySem.W.nsIn (L2.nr KX) mainGlobals "list" = some none:=by and_intros
    have Z45:PySem.W.nsIn (L2.nr KX) mainGlobals "max" = some none:=by and_intros
    have Z46:PySem.W.nsIn (L2.nr KX) mainGlobals "min" = some none:=by and_intros
    have Z47:PySem.W.nsIn (L2.nr KX) mainGlobals "range" = some none:=by and_intros
    have Z48:PySem.W.nsIn (L2.nr KX) mainGlobals "sorted" = some none:=by and_intros
    have Z49:PySem.W.nsIn (L2.nr KX) mainGlobals "tuple" = some none:=by and_intros
    have Z50:PySem.W.nsIn (L2.nr KX) mainGlobals "zip" = some none:=by and_intros
    have YNOUGHT:MM.oQ (L2.nr KX) "NOUGHT" 0 1:=by
      dsimp only [L2.nr]
      refine' MM.DV ?h ?l
      (case h=>k_is)
      (case l=>k_is)
    exact MM.Ht Dlaw Law.JR hmg KX G fun base kb nb=>Law.JU ⟨kb,nb⟩ D0 D1 D2 D3 D4 D5 D6 D7 D8 D9 D10 D11 D12 D13 D14 D15 D16 D17 D18 D19 D20 D21 D22 D23 D24 D25 D26 D27 D28 D29 D30 D31 D32 D33 D34 D35 Dlaw Z36 Z37 Z38 Z39 Z40 Z41 Z42 Z43 Z44 Z45 Z46 Z47 Z48 Z49 Z50 YNOUGHT
