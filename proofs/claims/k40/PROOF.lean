import PyProof.Rows.All
import Wide.All
import OpenK.AllK
import Wide.FinOn
import Lean
import PyProof.EqAt
import PyProof.EqKinds
import PyProof.TupleCall
import PyProof.ReprRoads
import PyProof.FitsInt
import PyProof.FitsBits
import PyProof.Rows.IntMath
import PyProof.ConsumeWalk
import PyProof.WalkInts
import PyProof.ListRange
import PySem.SetTable
import PyProof.SetKind
import PyProof.TupleKey
import PyProof.DictKinds
import PyProof.IsRules
import PyProof.Rows.SetFrom
import PyProof.CollectIter
import PyProof.ForAny
import PyProof.Rows.SortRuns
import PyProof.Rows.SortKey
import KE.KSortTup
import PyProof.ZipIter
import PyProof.Draws
import PyProof.EnumMake
import PyProof.TupleIter
import PyProof.P3Eq
import PyProof.StrCalls2
import PyProof.StrCalls3
import PyProof.FString
import PyProof.AttrMissHeap
import PyProof.DictUpdate
import PyProof.DictRoads
import KE.KDictOf
import PyProof.Walks
import PyProof.SetRoads
import PyProof.Rows.SeqMore
import KE.KDictList
import PyProof.DictItems
import KE.KPairComp
import PyProof.MeetsSeq
import PyProof.Rows.Chain
import PyProof.ListMulRoad
import PyProof.FactsAll.tuple_2
import PySem.Challenge.RW_fewfills_k40_many_answers
set_option Elab.async false
set_option bootstrap.genMatcherCode false
set_option compiler.extract_closed false
set_option genSizeOf false
set_option linter.all false
set_option maxRecDepth 100000
open PySem
abbrev b_:=@wpAny_bind
abbrev mz:=@Heap.get?_push_of_some
abbrev hR:=@PySem.W.Frag
abbrev m1:=@List.mem_cons_of_mem
abbrev o_:=@List.getD_eq_getElem?_getD
abbrev r_:=@List.set_cons_zero
abbrev si:=@List.set_cons_succ
abbrev p_:=@List.getElem?_eq_getElem
abbrev o0:=@List.getElem?_set_ne
abbrev tr:=@List.getElem?_eq_some_iff
abbrev i3:=@wpAny_pure
abbrev j_:=@Nat.le_refl
abbrev ml:=@List.mem_cons
abbrev m3:=@List.map_cons
abbrev xu:=@List.getElem?_append_left
abbrev d_:=@if_pos
abbrev mu:=@List.mem_map
abbrev oI:=@List.length_map
abbrev pk:=@List.length_cons
abbrev su:=@Bool.false_eq_true
abbrev pa:=@List.mem_range
abbrev n9:=@Heap.lt_size
abbrev g_:=@if_neg
abbrev wy:=@Heap.get?_push_size
abbrev tt:=@List.getElem?_map
abbrev u0:=@List.size_toArray
abbrev z4:=@List.mem_append_right
abbrev oF:=@List.map_map
abbrev xv:=@Nat.lt_of_lt_of_le
abbrev v_:=@Int.toNat_natCast
abbrev Bv:=@Option.map_eq_some_iff
abbrev tx:=@List.length_nil
abbrev Cw:=@List.getElem?_set_self
abbrev C5:=@List.getElem?_append_right
abbrev B_:=@List.map_congr_left
abbrev y6:=@List.mem_filter
abbrev s_:=@Nat.ne_of_lt
abbrev CD:=@Array.length_toList
abbrev yi:=@Nat.le_trans
abbrev CF:=@List.getElem_mem
abbrev CY:=@List.mem_cons_self
abbrev C9:=@List.mem_singleton
abbrev CU:=@List.nodup_cons
abbrev Dj:=@List.length_append
abbrev CZ:=@List.mem_append
abbrev Cy:=@Nat.ne_of_gt
abbrev Dk:=@List.lookup_cons
abbrev Dv:=@List.pairwise_map
abbrev DB:=@Bool.false_ne_true
abbrev Ec:=@Array.getElem?_toList
abbrev Ed:=@List.getElem?_eq_none
abbrev En:=@List.length_eq_zero_iff
abbrev DF:=@List.replicate_succ
abbrev Ee:=@List.mem_of_getElem?
abbrev Cz:=@Nat.zero_le
abbrev DG:=@List.pairwise_cons
abbrev Dl:=@Heap.size_push
abbrev Eo:=@Nat.pow_le_pow_right
abbrev C0:=@Nat.zero_add
abbrev C_:=@Bool.not_true
abbrev DC:=@List.append_nil
abbrev DH:=@List.nodup_range
abbrev He:=@List.getElem?_replicate
abbrev Gj:=@List.mem_append_left
abbrev DI:=@List.of_mem_zip
abbrev DJ:=@Option.map_some
abbrev Dw:=@Nat.lt_irrefl
abbrev Ef:=@List.not_mem_nil
abbrev Dm:=@Nat.le_of_lt
abbrev Ep:=@List.flatten_cons
abbrev DK:=@Int.natAbs_mul
abbrev Eg:=@List.map_append
abbrev Hf:=@Nat.mul_le_mul_right
abbrev Er:=@List.length_take
abbrev Es:=@Option.getD_some
abbrev La:=@List.perm_ext_iff_of_nodup
abbrev Lb:=@Int.fmod_eq_emod_of_nonneg
abbrev KI:=@List.mem_iff_getElem?
abbrev Hg:=@Int.natAbs_natCast
abbrev Gk:=@Bool.and_eq_true
abbrev Oq:=@List.mem_zipIdx_iff_getElem?
abbrev KJ:=@List.getElem?_range
abbrev Lc:=@List.take_of_length_le
abbrev Hh:=@List.mem_reverse
abbrev Ld:=@List.length_replicate
abbrev Lg:=@Heap.get?_update_self
abbrev Eh:=@Nat.succ_mul
abbrev Lh:=@Bool.beq_eq_decide_eq
abbrev KL:=@List.zip_cons_cons
abbrev PZ:=@List.findIdx?_eq_some_iff_getElem
abbrev KN:=@Nat.lt_of_le_of_lt
abbrev Ot:=@List.drop_eq_getElem_cons
abbrev Gm:=@Nat.mul_le_mul
abbrev P0:=@List.take_succ_eq_append_getElem
abbrev KO:=@List.nodup_append
abbrev KP:=@Nat.lt_succ_of_lt
abbrev Hi:=@List.length_zip
abbrev Li:=@List.filterMap_cons
abbrev Ou:=@Option.bind_eq_some_iff
abbrev Ov:=@Heap.get?_update_other
abbrev Ow:=@Array.getElem?_eq_none
abbrev Lj:=@Int.emod_lt_of_pos
abbrev Ox:=@List.take_append_drop
abbrev KQ:=@Int.mul_ne_zero
abbrev Oy:=@List.length_filter_le
abbrev Lk:=@List.append_assoc
abbrev P1:=@List.pairwise_iff_getElem
abbrev KR:=@Int.natAbs_neg
abbrev Ll:=@Option.bind_some
abbrev Lm:=@List.ext_getElem
abbrev Ln:=@List.getElem_map
abbrev Gn:=@Nat.le_succ
abbrev Oz:=@Heap.get?_update_ne
abbrev Hj:=@List.map_nil
abbrev P2:=@Nat.gcd_pos_of_pos_right
abbrev OA:=@List.mem_filterMap
abbrev Lo:=@List.find?_cons
abbrev Lp:=@Int.emod_nonneg
abbrev Lq:=@Nat.div_le_self
abbrev OB:=@Int.ofNat_dvd_left
abbrev OC:=@Nat.pos_of_ne_zero
abbrev P4:=@List.pairwise_lt_range
abbrev Hk:=@Nat.pow_pos
abbrev P5:=@List.length_singleton
abbrev OD:=@List.length_drop
abbrev OE:=@Option.getD_none
abbrev OF:=@Nat.lt_succ_self
abbrev OG:=@List.take_length
abbrev P6:=@List.range_eq_range'
abbrev P7:=@List.length_eraseIdx
abbrev P8:=@List.mem_iff_getElem
abbrev SK:=@List.countP_eq_length_filter
abbrev KU:=@Int.mul_one
abbrev SM:=@Array.getD_eq_getD_getElem?
abbrev OH:=@Nat.mul_ne_zero
abbrev OI:=@Int.natCast_mul
abbrev SO:=@List.nodup_iff_pairwise_ne
abbrev SQ:=@List.perm_append_singleton
abbrev P9:=@Nat.eq_zero_or_pos
abbrev SS:=@Array.getElem?_eq_getElem
abbrev SU:=@List.getElem?_zip_eq_some
abbrev SV:=@List.findIdx?_eq_none_iff
abbrev OK:=@Bool.not_false
abbrev SW:=@List.mem_or_eq_of_mem_set
abbrev P_:=@List.ext_getElem?
abbrev Qa:=@List.foldl_append
abbrev Qb:=@Bool.not_eq_true'
abbrev SX:=@Int.mul_fdiv_cancel_left
abbrev SY:=@Int.mul_ediv_cancel_left
abbrev S1:=@List.mem_of_mem_eraseIdx
abbrev OL:=@List.any_cons
abbrev OM:=@List.map_take
abbrev ON:=@List.map_drop
abbrev S2:=@Int.eq_ofNat_of_zero_le
abbrev S3:=@Int.gcd_natCast_natCast
abbrev Qc:=@List.drop_length
abbrev Qd:=@List.cons_append
abbrev Qe:=@List.perm_middle
abbrev Qf:=@List.all_eq_true
abbrev Qg:=@Array.toList_inj
abbrev Qh:=@List.range'_succ
abbrev Qi:=@Nat.le_max_right
abbrev Qj:=@List.getElem_zip
abbrev Qk:=@Int.natCast_ediv
abbrev S4:=@Array.getElem?_extract
abbrev S5:=@List.drop_eq_nil_of_le
abbrev Ql:=@List.length_set
abbrev Qm:=@List.foldl_cons
abbrev OO:=@Nat.mul_comm
abbrev OP:=@Nat.lt_trans
abbrev Qn:=@List.forIn_cons
abbrev Qo:=@Nat.min_eq_left
abbrev Qp:=@Nat.le_max_left
abbrev OQ:=@Int.ofNat_lt
abbrev Qq:=@Int.natCast_add
abbrev Qr:=@Int.mul_eq_zero
abbrev S6:=@List.pairwise_reverse
abbrev Qs:=@List.nodup_nil
abbrev Qt:=@List.forIn_nil
abbrev Qu:=@List.take_succ
abbrev OR:=@List.map_id
abbrev OS:=@Nat.pow_add
abbrev Qw:=@Nat.pow_succ
abbrev Qx:=@List.map_set
abbrev Qy:=@Int.mul_comm
abbrev Qz:=@Int.zero_sub
abbrev QA:=@Int.mul_zero
noncomputable section
local macro_rules | `(tactic| ext) => `(tactic| omega)
local instance (priority:=1) cdec (p:Prop):Decidable p:=Classical.propDecidable p
namespace L2
open PySem.Spec PyProof.Rows
abbrev p6:=Sum Int Str
def o7:p6->Value->Bool
 | .inl k,v=>Value.isInt k v
 | .inr x,v=>Value.isStrOf x v
def QB(w:World):p6->Int
 | .inl k=>hashInt k
 | .inr x=>hashStr w x
def bU:∀{k:p6} {v:Value},o7 k v=true->(∃i t,k=Sum.inl i/\v=Value.int i t)\/(∃x t,k=Sum.inr x/\v=Value.str x t)
 | .inl i,v,h=>by
  obtain⟨t,e⟩:=Value.isInt_shape (k:=i) (v:=v) h;exact .inl ⟨i,t,rfl,e⟩
 | .inr x,v,h=>by
  obtain⟨t,e⟩:=Value.isStrOf_shape (x:=x) (v:=v) h;exact .inr ⟨x,t,rfl,e⟩
def yU(i:Int)(t:Tok):o7 (.inl i) (.int i t)=true:=by simp[o7,Value.isInt]
def Hl(a b:Int):decide ((Sum.inl a:p6)=Sum.inl b)=(a == b):=by
 by_cases e:a=b
 .subst e;simp
 .have h:¬(Sum.inl a:p6)=Sum.inl b:=λq=>e (Sum.inl.inj q);rw[decide_eq_false h];exact (beq_eq_false_iff_ne.mpr e).symm
def Hm(a b:Str):decide ((Sum.inr a:p6)=Sum.inr b)=decide (a=b):=by
 by_cases e:a=b
 .subst e;simp
 .have h:¬(Sum.inr a:p6)=Sum.inr b:=λq=>e (Sum.inr.inj q);rw[decide_eq_false h,decide_eq_false e]
def Hn(a:Int)(b:Str):decide ((Sum.inl a:p6)=Sum.inr b)=false:=decide_eq_false (λq=>nomatch q)
def Ho(a:Str)(b:Int):decide ((Sum.inr a:p6)=Sum.inl b)=false:=decide_eq_false (λq=>nomatch q)
def cX(prog:Program)(w:World):PySem.KeyKind prog w p6 where
 is:=o7
 hash:=QB w
 inj:=λv a b l f=>by
  rcases bU l with ⟨i,t,rfl,rfl⟩|⟨x,t,rfl,rfl⟩
  .rcases bU f with ⟨j,u,rfl,e⟩|⟨y,u,rfl,e⟩
   .injection e with e1 _;rw[e1]
   .exact nomatch e
  .rcases bU f with ⟨j,u,rfl,e⟩|⟨y,u,rfl,e⟩
   .exact nomatch e
   .injection e with e1 _;rw[e1]
 byValue:=λk v h=>by
  rcases bU h with ⟨i,t,rfl,rfl⟩|⟨x,t,rfl,rfl⟩ <;> rfl
 pyHash:=λhv h=>by
  rcases bU hv with ⟨i,t,rfl,rfl⟩|⟨x,t,rfl,rfl⟩
  .exact wpAny_pyHash_int h
  .exact wpAny_pyHash_str h
 eqBool:=λr hv h=>by
  rcases bU r with ⟨i,t,rfl,rfl⟩|⟨x,t,rfl,rfl⟩
  .rcases bU hv with ⟨j,u,rfl,rfl⟩|⟨y,u,rfl,rfl⟩
   .rw[Hl] at h;exact wpAny_eqBool_int h
   .rw[Hn] at h;exact SeqAt.EqAt.int_str i t y u _ _ _ _ h
  .rcases bU hv with ⟨j,u,rfl,rfl⟩|⟨y,u,rfl,rfl⟩
   .rw[Ho] at h;exact SeqAt.EqAt.str_int x t j u _ _ _ _ h
   .rw[Hm] at h;exact wpAny_eqBool_str h
 «strs»:=λk x t v h=>by
  rcases bU h with ⟨i,u,rfl,e⟩|⟨y,u,rfl,e⟩
  .exact nomatch e
  .injection e with e1 _
   subst e1;cases v <;> rfl
def eV(prog:Program)(w:World)(i:Int)(t:Tok):(cX prog w).is (.inl i) (.int i t)=true:=yU i t
inductive V where
 | non | bl (b:Bool) | int (i:Int) | str (x:Str) | byt (b:Array UInt8) | flt (b:UInt64) | ref (a:Addr) | ty (n:String)
 deriving DecidableEq
def aS:V->Value->Prop
 | .non,u=>u=Value.none
 | .bl b,u=>u=Value.bool b
 | .int i,u=>∃t,u=Value.int i t
 | .str x,u=>∃t,u=Value.str x t
 | .byt b,u=>∃t,u=Value.bytes b t
 | .flt b,u=>∃t,u=Value.float b t
 | .ref a,u=>u=Value.ref a
 | .ty n,u=>u=Value.type n
abbrev aJ:List V->List Value->Prop:=Paired aS
def aJ.length(r:aJ xs us):xs.length=us.length:=Paired.length r
def aJ.get{xs:List V}{a:List Value}{i:Nat}{x:V}(r:aJ xs a)(e:xs[i]?=some x):∃u,a[i]?=some u/\aS x u:=by
 induction r generalizing i with
 | nil=>cases e
 | cons r t f =>
  cases i with
  | zero=>cases e;exact⟨_,rfl,r⟩
  | succ i=>have z:=@f i e;exact z
def aJ.set(r:aS x u)(i:Nat)(q:aJ xs us):aJ (xs.set i x) (us.set i u):=by
 induction q generalizing i with
 | nil=>exact .nil
 | cons a t f =>
  cases i with
  | zero=>exact .cons r t
  | succ i=>exact .cons a (f i)
def aJ.append(r:aJ xs us)(s:aJ ys ws):aJ (xs++ys) (us++ws):=by
 induction r with
 | nil=>exact s
 | cons r t a=>exact .cons r a
def aJ.take(n:Nat)(r:aJ xs us):aJ (xs.take n) (us.take n):=by
 induction r generalizing n with
 | nil=>cases n <;> exact .nil
 | cons a t f =>
  cases n with
  | zero=>exact .nil
  | succ n=>exact .cons a (f n)
def aJ.drop(n:Nat)(r:aJ xs us):aJ (xs.drop n) (us.drop n):=by
 induction r generalizing n with
 | nil=>cases n <;> exact .nil
 | cons a t f =>
  cases n with
  | zero=>exact .cons a t
  | succ n=>exact f n
def gZ:Option V->Option Value->Prop
 | some v,some u=>aS v u
 | none,none=>True
 | _,_=>False
def KV{κ:Type}:List (κ × V)->List (κ × Value)->Prop:=Paired λ(p:κ × V) (q:κ × Value)=>p.1=q.1/\aS p.2 q.2
def kV:p6->V
 | .inl i=>.int i
 | .inr x=>.str x
inductive HO where
 | lst (xs:List V)
 | tup (xs:List V)
 | dK (kvs:List (p6 × V)) | dT (kvs:List (List p6 × V))
 | set (S:Int->Bool) (n:Nat)
 | ins (C dx:Addr) (fs:List (Str × V))
 | own (x:Addr)
 | xd (fs:List (Str × V))
 | met (f x:Addr)
 | rng (lo hi:Int)
 | frz (o:Obj) (u:HO)
 | tbl (ps:Array Value)
 | ext (φ:Heap->Prop)
abbrev Hp:=Addr->Option HO
def m_(H:Hp)(a:Addr)(o:HO):Hp:=λb=>if b=a then some o else H b
def cp:m_ H a o a=some o:=by unfold m_;rw[d_ rfl]
def bt(h:b≠a):m_ H a o b=H b:=by unfold m_;rw[g_ h]
def cc{H:Hp}{a b:Addr}{o:HO}(h:H a=some o)(f:H b=none):a≠b:=by
 intro e;subst e;rw[h] at f;cases f
def gX(h:Heap)(a:Addr)(f:Array Value):Prop:=∃o,h.get? a=some o/\o.cls=.type "tuple"/\(∃n,o.data=.seq f n)/\o.dict=none
def gX.tup(t:gX h a its):IsTup h a its:=let ⟨o,e,c,d,_⟩:=t;⟨o,e,c,d⟩
def gX.lt(t:gX h a its):a<h.objs.size:=t.tup.lt
def gX.new(h:Heap)(a:Array Value):gX (h.push { cls:=.type "tuple",data:=.seq a}) h.objs.size a:=⟨_,wy h rfl,rfl,⟨_,rfl⟩,rfl⟩
section
variable (P:Program) (w:World)
def ObjOk(H:Hp)(h:Heap)(a:Addr):HO->Prop
 | .lst xs=>xs.length<=sizeLine/\∃(j:List Value) (n:Nat),aJ xs j/\h.get? a=some { cls:=.type "list",data:=.seq j.toArray n}
 | .tup xs=>xs.length<=sizeLine/\∃j:List Value,aJ xs j/\gX h a j.toArray
 | .dK i=>i.length<=sizeLine/\(a == sysModules)=false/\∃E,KV i E/\h.DictOf (cX P w) a E
 | .dT i=>i.length<=sizeLine/\(a == sysModules)=false/\∃xs:List (List p6 × Addr × Value),
   Paired (λ(p:List p6 × V) (q:List p6 × Addr × Value)=>p.1=q.1/\H q.2.1=some (.tup (p.1.map kV))/\aS p.2 q.2.2) i xs /\
   ∃o y G,h.get? a=some o/\o.ExactDict/\o.data=.dict y G/\y.toList=xs.map (entryOfKey (tupleKind (cX P w)))/\(xs.map (·.1)).Nodup
 | .set S n=>h.SetOf (intKind P w) a S n
 | .ins C r fs=>H r=some (.own a)/\fs.length<=1000/\r≠a/\h.get? a=some (PySem.W.instObj C r) /\
   ∃l,h.Ns1 r l/\(∀f,gZ (fs.lookup f) (l f))/\PySem.Within l (fs.map (·.1))
 | .own _=>∃o,h.get? a=some o
 | .xd fs=>∃l,h.Ns1 a l/\∀f,gZ (fs.lookup f) (l f)
 | .rng lo F=>∃t u v,h.get? a=some { cls:=.type "range",data:=.fields #[.int lo t,.int F u,.int 1 v]}
 | .frz o u=>h.get? a=some o/\ObjOk H h a u
 | .tbl ps=>h.get? a=some { cls:=.none,data:=.fields ps}
 | .met f x=>h.get? a=some (PySem.W.methodObj (.ref f) (.ref x))
 | .ext φ=>φ h/\(∃o,h.get? a=some o)/\∀z B:Heap,φ z->(∀o,z.get? a=some o->B.get? a=some o)->φ B
def HOk(H:Hp)(h:Heap):Prop:=∀a o,H a=some o->ObjOk P w H h a o
end
section
variable {P:Program} {w:World} {H H':Hp} {h h':Heap} {a:Addr} {o:HO}
def ObjOk.lt(x:ObjOk P w H h a o):a<h.objs.size:=by
 cases o with
 | lst xs=>obtain⟨_,_,_,_,e⟩:=x;exact n9 e
 | tup xs=>obtain⟨_,_,_,p⟩:=x;exact p.lt
 | dK i=>obtain⟨_,_,_,_,o,_,_,e,_⟩:=x;exact n9 e
 | dT i=>obtain⟨_,_,_,_,o,_,_,e,_⟩:=x;exact n9 e
 | set S n=>obtain⟨o,_,_,_,e,_⟩:=x;exact n9 e
 | ins C l fs=>obtain⟨_,_,_,e,_⟩:=x;exact n9 e
 | own y=>obtain⟨_,e⟩:=x;exact n9 e
 | xd fs=>obtain⟨_,⟨_,_,_,e,_⟩,_⟩:=x;exact n9 e
 | rng lo j=>obtain⟨_,_,_,e⟩:=x;exact n9 e
 | frz r u=>obtain⟨e,_⟩:=x;exact n9 e
 | tbl ps=>exact n9 (show h.get? a=some _ from x)
 | met f y=>exact n9 (show h.get? a=some _ from x)
 | ext φ=>obtain⟨_,⟨_,e⟩,_⟩:=x;exact n9 e
def Paired.mapP{α β:Type}{F G:α->β->Prop}{j:List α}{i:List β}(r:Paired F j i)(f:∀a b,F a b->G a b):Paired G j i:=by
 induction r with
 | nil=>exact .nil
 | cons r t l=>exact .cons (f _ _ r) l
def ObjOk.stay(x:ObjOk P w H h a o)(k:∀b u,(b=a\/H b=some (.own a))->h.get? b=some u->h'.get? b=some u)
  (J:∀b,H b=some (.own a)->H' b=some (.own a)) (I:∀b xs,H b=some (.tup xs)->H' b=some (.tup xs)):ObjOk P w H' h' a o:=by
 induction o with
 | lst xs=>obtain⟨z,B,n,r,e⟩:=x;exact⟨z,B,n,r,k _ _ (.inl rfl) e⟩
 | tup xs=>obtain⟨z,B,r,i,e,c⟩:=x;exact⟨z,B,r,i,k _ _ (.inl rfl) e,c⟩
 | dK F=>obtain⟨z,y,L,r,i,j,l,e,c⟩:=x;exact⟨z,y,L,r,i,j,l,k _ _ (.inl rfl) e,c⟩
 | dT F =>
  obtain⟨z,y,xs,r,i,j,l,e,c⟩:=x;exact⟨z,y,xs,Paired.mapP r λp q z=>⟨z.1,I _ _ z.2.1,z.2.2⟩,i,j,l,k _ _ (.inl rfl) e,c⟩
 | set S n=>obtain⟨i,j,l,t,e,c⟩:=x;exact⟨i,j,l,t,k _ _ (.inl rfl) e,c⟩
 | ins C Q fs =>
  obtain⟨d,z,ne,e,G,⟨E,j,l,e2,c⟩,r⟩:=x;exact⟨J _ d,z,ne,k _ _ (.inl rfl) e,G,⟨E,j,l,k _ _ (.inr d) e2,c⟩,r⟩
 | own y=>obtain⟨i,e⟩:=x;exact⟨i,k _ _ (.inl rfl) e⟩
 | xd fs=>obtain⟨G,⟨E,j,l,e,c⟩,r⟩:=x;exact⟨G,⟨E,j,l,k _ _ (.inl rfl) e,c⟩,r⟩
 | rng lo O=>obtain⟨t,u,v,e⟩:=x;exact⟨t,u,v,k _ _ (.inl rfl) e⟩
 | frz i u M=>obtain⟨e,q⟩:=x;exact⟨k _ _ (.inl rfl) e,M q⟩
 | tbl ps =>
  have e:h.get? a=some { cls:=.none,data:=.fields ps}:=x;show h'.get? a=some { cls:=.none,data:=.fields ps};exact k a _ (.inl rfl) e
 | met f y =>
  have e:h.get? a=some (PySem.W.methodObj (.ref f) (.ref y)):=x;show h'.get? a=some (PySem.W.methodObj (.ref f) (.ref y));exact k a _ (.inl rfl) e
 | ext φ=>obtain⟨p,⟨o,e⟩,st⟩:=x;exact⟨st _ _ p λo q=>k _ _ (.inl rfl) q,⟨o,k _ _ (.inl rfl) e⟩,st⟩
def HOk.lt(x:HOk P w H h)(e:H a=some o):a<h.objs.size:=(x a o e).lt
def HOk.fresh(x:HOk P w H h)(e:h.objs.size<=a):H a=none:=by
 cases q:H a with
 | none=>rfl
 | some u=>exact absurd (xv (x.lt q) e) (Dw _)
def HOk.kept(x:HOk P w H h)(k:∀b u,h.get? b=some u->h'.get? b=some u):HOk P w H h':=λa o e =>
 (x a o e).stay (λb u _ q=>k b u q) (λ_ q=>q) λ_ _ q=>q
def HOk.laid(x:HOk P w H h)(k:∀b u,h.get? b=some u->h'.get? b=some u)(j:h.objs.size<=a)(new:ObjOk P w (m_ H a o) h' a o):HOk P w (m_ H a o) h':=λb u e=>by
 have f:=x.fresh j;by_cases i:b=a
 .subst i;rw[cp] at e;cases e;exact new
 .rw[bt i] at e;exact (x b u e).stay (λc v _ q=>k c v q) (λc q=>by rw[bt (cc q f)];exact q) λc xs q=>by rw[bt (cc q f)];exact q
end
def Rd(H:Hp)(a:Addr)(u:HO):Prop:=H a=some u\/∃o,H a=some (.frz o u)
def Rd.ok(r:Rd H a u)(x:HOk P w H h):ObjOk P w H h a u:=by
 rcases r with r|⟨o,r⟩
 .exact x a u r
 .obtain⟨_,q⟩:=x a _ r;exact q
def OT:Option HO->Prop
 | some (.lst _)=>True
 | some (.dK _)=>True
 | some (.dT _)=>True
 | some (.set _ _)=>True
 | some (.ins _ _ _)=>True
 | some (.ext _)=>True
 | _=>False
section
variable {P:Program} {w:World} {H:Hp} {h h':Heap} {x e:Addr} {o':HO}
def HOk.write(ok:HOk P w H h)(B:OT (H x))(E:e=x\/H e=some (.own x))(k:∀b u,b≠e->h.get? b=some u->h'.get? b=some u)(C:∃u,h'.get? e=some u)
  (new:ObjOk P w (m_ H x o') h' x o'):HOk P w (m_ H x o') h':=λb u q=>by
 have f:∀c y,H c=some (.own y)->c≠x:=λc y r z=>by subst z;rw[r] at B;exact B
 have i:∀c xs,H c=some (.tup xs)->c≠x:=λc xs r z=>by subst z;rw[r] at B;exact B
 by_cases l:b=x
 .subst l;rw[cp] at q;cases q;exact new
 .rw[bt l] at q;by_cases a:b=e
  .have F:H b=some (.own x):=by
    rcases E with z|z
    .exact absurd (a.trans z) l
    .rw[a];exact z
   rw[q] at F;cases F;obtain⟨v,hv⟩:=C;exact⟨v,by rw[a];exact hv⟩
  .refine (ok b u q).stay (λc v j r=>k c v ?_ r) (λc r=>by rw[bt (f c b r)];exact r) λc xs r=>by rw[bt (i c xs r)];exact r
   rcases j with rfl|j
   .exact a
   .rintro rfl;rcases E with z|z
    .exact f c b j z
    .rw[j] at z;cases z;exact l rfl
end
structure Un (fs ex:List Addr) (H H':Hp) (h h':Heap):Prop where
 keep:∀b o,h.get? b=some o->H b=none->b∉fs->b∉ex->h'.get? b=some o
 slot:∀b o,h.get? b=some o->H b=none->b∈fs->b∉ex->∃sl,h'.get? b=some { o with slots:=sl}
 free:∀b o,h.get? b=some o->H b=none->b∉ex->H' b=none
 there:∀b o,h.get? b=some o->b∉ex->∃o',h'.get? b=some o'
 tups:∀b xs,H b=some (.tup xs)->H' b=some (.tup xs)
 frzs:∀b o u,H b=some (.frz o u)->H' b=some (.frz o u)
 tbls:∀b ps,H b=some (.tbl ps)->∃more,H' b=some (.tbl (ps++more))
section
variable {fs fs' ex ex':List Addr} {H H1 H2:Hp} {h h1 h2 h':Heap} {a x e:Addr} {o:HO}
def Un.any(u:Un fs ex H H1 h h1)(q:h.get? b=some ob)(n:H b=none)(i:b∉ex):∃j,h1.get? b=some { ob with slots:=j}:=by
 by_cases f:b∈fs
 .exact u.slot b ob q n f i
 .exact⟨ob.slots,u.keep b ob q n f i⟩
def Un.kept(k:∀b u,h.get? b=some u->h'.get? b=some u):Un fs ex H H h h' :=
 ⟨λb f q _ _ _=>k b f q,λb f q _ _ _=>⟨f.slots,k b f q⟩,λ_ _ _ n _=>n,λb f q _=>⟨f,k b f q⟩,λ_ _ q=>q,λ_ _ _ q=>q,λ_ ps q=>⟨#[],by rw[q];simp⟩⟩
def Un.refl:Un fs ex H H h h:=Un.kept λ_ _ q=>q
def Un.laid(k:∀b u,h.get? b=some u->h'.get? b=some u)(i:h.objs.size<=a)(f:H a=none):Un fs ex H (m_ H a o) h h' where
 keep:=λb u q _ _ _=>k b u q
 slot:=λb u q _ _ _=>⟨u.slots,k b u q⟩
 free:=λb u q n _=>by rw[bt (s_ (xv (n9 q) i))];exact n
 there:=λb u q _=>⟨u,k b u q⟩
 tups:=λb xs q=>by rw[bt (cc q f)];exact q
 frzs:=λb u xs q=>by rw[bt (cc q f)];exact q
 tbls:=λb ps q=>⟨#[],by rw[bt (cc q f),q];simp⟩
def Un.write(i:OT (H x))(C:e=x\/H e=some (.own x))(k:∀b u,b≠e->h.get? b=some u->h'.get? b=some u)(j:∃u,h'.get? e=some u):Un fs ex H (m_ H x o) h h':=by
 have y:∀b,H b=none->b≠x:=λb n z=>by subst z;rw[n] at i;exact i
 have B:∀b,H b=none->b≠e:=λb n z=>by
  subst z;rcases C with r|r
  .exact y b n r
  .rw[n] at r;cases r
 have l:∀b u,H b=some u->¬OT (some u)->b≠x:=λb u q nm z=>by subst z;rw[q] at i;exact nm i
 refine⟨λb u q n _ _=>k b u (B b n) q,λb u q n _ _=>⟨u.slots,k b u (B b n) q⟩,λb u q n _=>by rw[bt (y b n)];exact n,λb u q _=>?_,
  λb xs q=>by rw[bt (l b _ q λz=>z)];exact q,λb u xs q=>by rw[bt (l b _ q λz=>z)];exact q,λb ps q=>⟨#[],by rw[bt (l b _ q λz=>z),q];simp⟩⟩
 by_cases f:b=e
 .subst f;exact j
 .exact⟨u,k b u f q⟩
end
def OU(h:Heap)(H:Hp):List Addr:=(List.range h.objs.size).filter λa=>(H a).isSome
def km(h:Heap)(H:Hp):Heap:=PySem.W.hideAll h (OU h H)
def AI(h:Heap)(H:Hp):(km h H).objs.size=h.objs.size:=PySem.W.hideAll_size _ _
def BQ(e:h.get? b=some o)(n:H b=none):(km h H).get? b=some o :=
 PySem.W.hideAll_get _ e λa=>by
  have q:(H b).isSome=true:=(y6.mp a).2;rw[n] at q;simp at q
def Et(e:(km h H).get? b=some o):h.get? b=some o/\H b=none:=by
 have a:h.get? b=some o:=PySem.W.of_hideAll (OU h H) e;refine⟨a,?_⟩
 cases q:H b with
 | none=>rfl
 | some x =>
  have f:b∈OU h H:=y6.mpr ⟨pa.mpr (n9 a),by simp[q]⟩;have z:(km h H).get? b=none:=PySem.W.hideAll_none (OU h H) f;rw[z] at e;cases e
structure Mod (K:hR) (mg:Str->Option Value) (base:Heap):Prop where
 kin:K.In base
 glob:base.Ns mainGlobals mg
 blt:∃mb,base.Ns builtinsNs mb/\∀x:Str,x≠"__name__"->mb x=bootBuiltins x
 nolimit:base.NoLimit
 seer:base.NoSeer
structure Cx where
 prog:Program
 w:World
 K:hR
 mg:Str->Option Value
 base:Heap
 A:Around
 N:List Str
 s₀:Shared
 H₀:Hp
 env:Env
 outer:List Env
 stack:List Env
 ex:List Addr
 fn:Str->Bool
 calm:Bool
 pn:List (Addr × Obj)
 xe:Value->Shared->Prop
def Bz(l:List Env):List Addr:=l.filterMap (·.frame)
abbrev Cx.fs(X:Cx):List Addr:=Bz X.outer
def OV(a:Scope)(x:Str):Prop:=a.names.lookup x=some .local\/a.names.lookup x=some .cell\/a.names.lookup x=some .free
def Loc(a:Scope)(x:Str):Prop:=a.names.lookup x=some .local\/a.names.lookup x=some .cell
def Look(env:Env)(h:Heap)(m:Str->Option Value)(x:Str)(u:Value):Prop :=
 (env.kindOf x=some .local/\m x=some u)\/((env.kindOf x=some .cell\/env.kindOf x=some .free)/\∃c,env.cells.lookup x=some c/\h.IsCell c (some u))
structure Cx.Ok (X:Cx):Prop where
 mod:Mod X.K X.mg X.base
 kind:X.env.scope.kind=.function
 glob:X.env.globals=mainGlobals
 blt:X.env.builtins=builtinsNs
 above:X.s₀.heap.objs.size<=X.env.locals
 inj:∀x y c,X.env.cells.lookup x=some c->X.env.cells.lookup y=some c->x=y
 has:∀x,(X.env.kindOf x=some .cell\/X.env.kindOf x=some .free)->∃c,X.env.cells.lookup x=some c
 cab:∀x c,X.fn x=true->X.env.cells.lookup x=some c->X.s₀.heap.objs.size<=c
 hd:X.calm=true->X.A.handled=none
 frames:X.A.frames=some X.stack
 stk:X.stack=X.outer\/(X.stack=X.env::X.outer/\X.env.frame=some X.env.locals)
 exf:∀b∈X.ex,b≠X.env.locals/\∀x c,X.env.cells.lookup x=some c->c≠b
 bs:∀b o,X.base.get? b=some o->X.s₀.heap.get? b=some o/\X.H₀ b=none
 bsz:X.base.objs.size<=X.s₀.heap.objs.size
 noex:∀b o,X.base.get? b=some o->b∉X.ex
 exfs:∀b∈X.ex,b∉X.fs
 funs:X.s₀.heap.FunFrames X.base X.outer
 frf:∀b∈X.fs,X.H₀ b=none
 tree:X.prog.given.tree=none
 top:∃e l,X.stack=e::l/\e.scope.isGenerator=false/\e.scope.isCoroutine=false/\e.builtins=builtinsNs/\e.globals=mainGlobals
structure Inv (X:Cx) (Mq:List (Addr × Obj)) (Z:List (Option V)) (H:Hp) (s:Shared):Prop where
 ok:X.Ok
 os:s.os=X.s₀.os
 bare:AllBare s.gens
 base:Un X.fs X.ex X.H₀ H X.s₀.heap s.heap
 loc:∃m,s.heap.Ns X.env.locals m/\∀(i:Nat) (x:Str) (v:V),X.N[i]?=some x->Z[i]?=some (some v)->OV X.env.scope x->∃u,aS v u/\Look X.env s.heap m x u
 cell:∀x c,X.env.cells.lookup x=some c->∃v,s.heap.IsCell c v
 free:H X.env.locals=none
 freeC:∀x c,X.env.cells.lookup x=some c->H c=none
 pin:∀p∈X.pn++Mq,s.heap.get? p.1=some p.2/\H p.1=none/\p.1≠X.env.locals/\p.1∉X.fs/\∀v,p.2.data≠.cell v
 hok:HOk X.prog X.w H s.heap
 len:Z.length=X.N.length
section
variable {X:Cx} {Mq:List (Addr × Obj)} {Z:List (Option V)} {H H':Hp} {s:Shared} {h':Heap}
def Cx.Ok.nofr(ok:X.Ok)(e:X.base.get? b=some o):b∉X.fs:=λa=>by
 have:=(ok.funs.mem a).1
 rw[e] at this;cases this
def Inv.bs(I:Inv X Mq Z H s):∀b o,X.base.get? b=some o->s.heap.get? b=some o/\H b=none:=λb o e =>
 ⟨I.base.keep b o (I.ok.bs b o e).1 (I.ok.bs b o e).2 (I.ok.nofr e) (I.ok.noex b o e),I.base.free b o (I.ok.bs b o e).1 (I.ok.bs b o e).2 (I.ok.noex b o e)⟩
def Inv.bk(I:Inv X Mq Z H s):∀b o,X.base.get? b=some o->s.heap.get? b=some o:=λb o e=>(I.bs b o e).1
def Inv.mod(I:Inv X Mq Z H s):Mod X.K X.mg X.base:=I.ok.mod
def Inv.kIn(I:Inv X Mq Z H s):X.K.In s.heap:=I.ok.mod.kin.keeps I.bk
def Inv.nolimit(I:Inv X Mq Z H s):s.heap.NoLimit:=I.ok.mod.nolimit.keeps I.bk
def Inv.lt(I:Inv X Mq Z H s):X.env.locals<s.heap.objs.size:=let ⟨_,a,_⟩:=I.loc;a.lt
def Inv.sz(I:Inv X Mq Z H s):X.s₀.heap.objs.size<=s.heap.objs.size:=yi I.ok.above (Dm I.lt)
def Inv.nofs(I:Inv X Mq Z H s){a:Addr}(h:s.heap.objs.size<=a):a∉X.fs:=λi=>by
 obtain⟨_,o,f,_⟩:=I.ok.funs.mem i;exact absurd (xv (n9 f) (yi I.sz h)) (Dw _)
def Inv.cne(I:Inv X Mq Z H s):∀x c,X.env.cells.lookup x=some c->c≠X.env.locals:=λx c e z=>by
 obtain⟨v,o,i,hd⟩:=I.cell x c e;obtain⟨m,⟨j,r,l,f,a,_⟩,_⟩:=I.loc;rw[z,f] at i;cases i;rw[a] at hd;cases hd
def Inv.funs(I:Inv X Mq Z H s):s.heap.FunFrames X.base X.outer:=by
 have all:∀(l:List Env),(∀b∈Bz l,b∈X.fs)->X.s₀.heap.FunFrames X.base l->s.heap.FunFrames X.base l:=by
  intro l
  induction l with
  | nil=>intro _ _;trivial
  | cons env r B =>
   intro f i;obtain⟨C,⟨L,o,hf,j,u,hd⟩,y⟩:=i;have hL:L∈X.fs:=f L (by unfold Bz;rw[Li,hf];exact CY);obtain⟨E,e⟩:=I.base.slot L o u (I.ok.frf L hL) hL λz=>I.ok.exfs L z hL;exact⟨C,⟨L,_,hf,j,e,hd⟩,B (λb a=>f b (by unfold Bz;rw[Li,hf];exact m1 _ a)) y⟩
 exact all X.outer (λ_ a=>a) I.ok.funs
def Inv.stack(I:Inv X Mq Z H s):s.heap.FunFrames X.base X.stack:=by
 rcases I.ok.stk with e|⟨e,hf⟩
 .rw[e];exact I.funs
 .rw[e];obtain⟨m,a,_⟩:=I.loc;refine .cons (by rw[I.ok.kind];decide) hf a ?_ I.funs;exact Heap.get?_none_of_le (yi I.ok.bsz I.ok.above)
def Inv.stkSub(I:Inv X Mq Z H s):∀b∈Bz X.stack,b∈X.env.locals::X.fs:=λb a=>by
 rcases I.ok.stk with e|⟨e,hf⟩
 .rw[e] at a;exact m1 _ a
 .rw[e] at a;unfold Bz at a;rw[Li,hf] at a;exact a
def Inv.stkFree(I:Inv X Mq Z H s):∀b∈Bz X.stack,H b=none:=λb a=>by
 rcases ml.mp (I.stkSub b a) with e|a
 .rw[e];exact I.free
 .obtain⟨_,o,f,_⟩:=I.ok.funs.mem a;exact I.base.free b o f (I.ok.frf b a) λz=>I.ok.exfs b z a
def Inv.step{g':Array GenState}{Y:Nat}{d':Drawn}{ch:List Addr}(I:Inv X Mq Z H s)
  (y:∀b∈ch,(b∈X.ex\/X.s₀.heap.objs.size<=b)/\b≠X.env.locals/\(∀x c,X.env.cells.lookup x=some c->c≠b)/\∀p∈X.pn++Mq,p.1≠b)
  (keep:∀b o,b≠X.env.locals->b∉X.fs->b∉ch->s.heap.get? b=some o->H b=none->h'.get? b=some o)
  (slot:∀b o,b≠X.env.locals->b∈X.fs->b∉ch->s.heap.get? b=some o->H b=none->∃L,h'.get? b=some { o with slots:=L}) (free:∀b o,b∉ch->s.heap.get? b=some o->H b=none->H' b=none)
  (there:∀b o,b∉ch->s.heap.get? b=some o->∃F,h'.get? b=some F)
  (tups:∀b xs,H b=some (.tup xs)->H' b=some (.tup xs)) (frzs:∀b o u,H b=some (.frz o u)->H' b=some (.frz o u)) (tbls:∀b ps,H b=some (.tbl ps)->∃J,H' b=some (.tbl (ps++J)))
  (ns:∀m,s.heap.Ns X.env.locals m->h'.Ns X.env.locals m) (hok:HOk X.prog X.w H' h') (U:AllBare g') :
  Inv X Mq Z H' { s with heap:=h',gens:=g',drawn:=d',toks:=Y}:=by
 have G:∀b o,X.s₀.heap.get? b=some o->b≠X.env.locals:=λb o e=>s_ (xv (n9 e) I.ok.above);have B:∀b o,X.s₀.heap.get? b=some o->b∉X.ex->b∉ch:=λb o e a C=>by
  rcases (y b C).1 with z|z
  .exact a z
  .exact absurd (xv (n9 e) z) (Dw _)
 have j:∀x c,X.env.cells.lookup x=some c->∀v,s.heap.IsCell c v->h'.IsCell c v:=λx c e v ⟨o,E,hd⟩=>by
  have f:c∉ch:=λz=>(y c z).2.2.1 x c e rfl;by_cases O:c∈X.fs
  .obtain⟨L,q⟩:=slot c o (I.cne x c e) O f E (I.freeC x c e);exact⟨_,q,hd⟩
  .exact⟨o,keep c o (I.cne x c e) O f E (I.freeC x c e),hd⟩
 refine⟨I.ok,I.os,U,⟨λb o e n C a=>?_,λb o e n C a=>?_,λb o e n a=>?_,λb o e a=>?_,λb xs e=>tups b xs (I.base.tups b xs e),λb o xs e=>frzs b o xs (I.base.frzs b o xs e),λb ps e=>?_⟩,?_,λx c e=>?_,?_,λx c e=>?_,λp P=>?_,hok,I.len⟩
 .exact keep b o (G b o e) C (B b o e a) (I.base.keep b o e n C a) (I.base.free b o e n a)
 .obtain⟨L,e1⟩:=I.base.slot b o e n C a;obtain⟨M,e2⟩:=slot b _ (G b o e) C (B b o e a) e1 (I.base.free b o e n a);exact⟨M,e2⟩
 .obtain⟨F,e1⟩:=I.base.there b o e a;exact free b F (B b o e a) e1 (I.base.free b o e n a)
 .obtain⟨F,e1⟩:=I.base.there b o e a;exact there b F (B b o e a) e1
 .obtain⟨R,e1⟩:=I.base.tbls b ps e;obtain⟨m2,e2⟩:=tbls b _ e1;exact⟨R++m2,by rw[e2,Array.append_assoc]⟩
 .obtain⟨m,T,S⟩:=I.loc;refine⟨m,ns m T,λi x v e1 e2 e3=>?_⟩;obtain⟨u,r,l⟩:=S i x v e1 e2 e3;refine⟨u,r,?_⟩;rcases l with l|⟨k,c,e,z⟩
  .exact .inl l
  .exact .inr ⟨k,c,e,j x c e _ z⟩
 .obtain⟨v,z⟩:=I.cell x c e;exact⟨v,j x c e v z⟩
 .obtain⟨m,⟨o,_,_,E,_⟩,_⟩:=I.loc;exact free _ o (λz=>(y _ z).2.1 rfl) E I.free
 .obtain⟨v,o,E,hd⟩:=I.cell x c e;exact free c o (λz=>(y c z).2.2.1 x c e rfl) E (I.freeC x c e)
 .obtain⟨e,n,ne,Q,d⟩:=I.pin p P;have f:p.1∉ch:=λz=>(y p.1 z).2.2.2 p P rfl;exact⟨keep p.1 p.2 ne Q f e n,free p.1 p.2 f e n,ne,Q,d⟩
def Inv.un{t':Nat}(I:Inv X Mq Z H s)(u:Un X.fs [] H H' s.heap h')(hok:HOk X.prog X.w H' h'):Inv X Mq Z H' { s with heap:=h',toks:=t'}:=by
 obtain⟨m,⟨o,E,J,l,r⟩,_⟩:=id I.loc;obtain⟨F,hL⟩:=u.any l I.free (by simp)
 exact I.step (g':=s.gens) (d':=s.drawn) (ch:=[]) (λ_ z=>nomatch z) (λb o _ j _ e n=>u.keep b o e n j (by simp)) (λb o _ j _ e n=>u.slot b o e n j (by simp)) (λb o _ e n=>u.free b o e n (by simp)) (λb o _ e=>u.there b o e (by simp)) u.tups u.frzs u.tbls (λG B=>by
  obtain⟨C,f,i,a,y⟩:=B;rw[l] at a;cases a
  exact⟨_,f,i,hL,y⟩) hok I.bare
def Inv.call{g':Array GenState}{t':Nat}{d':Drawn}{ch:List Addr}(I:Inv X Mq Z H s)(u:Un (Bz X.stack) ch H H' s.heap h')(hok:HOk X.prog X.w H' h')(E:AllBare g')
  (i:∀b∈ch,(b∈X.ex\/X.s₀.heap.objs.size<=b)/\b≠X.env.locals/\(∀x c,X.env.cells.lookup x=some c->c≠b)/\∀p∈X.pn++Mq,p.1≠b) :
  Inv X Mq Z H' { s with heap:=h',gens:=g',drawn:=d',toks:=t'}:=by
 obtain⟨m,⟨o,J,O,y,r⟩,_⟩:=id I.loc;obtain⟨L,hL⟩:=u.any y I.free λz=>(i _ z).2.1 rfl
 exact I.step (ch:=ch) i (λb o hL F a e n=>u.keep b o e n (λz=>(ml.mp (I.stkSub b z)).elim hL F) a) (λb o _ _ a e n=>u.any e n a) (λb o a e n=>u.free b o e n a) (λb o a e=>u.there b o e a) u.tups u.frzs u.tbls (λM C=>by
  obtain⟨G,j,l,f,B⟩:=C;rw[y] at f;cases f
  exact⟨_,j,l,hL,B⟩) hok E
def Inv.turned{t':Nat}{it:Addr}(I:Inv X Mq Z H s)(k:∀b o,b≠it->s.heap.get? b=some o->h'.get? b=some o)(j:H it=none)(hL:it≠X.env.locals)
  (B:it∈X.ex\/X.s₀.heap.objs.size<=it) (C:∀x c,X.env.cells.lookup x=some c->c≠it) (l:∀p∈X.pn++Mq,p.1≠it):Inv X Mq Z H { s with heap:=h',toks:=t'}:=by
 have f:∀b u,H b=some u->b≠it:=λb u e z=>by rw[z,j] at e;cases e
 refine I.step (g':=s.gens) (d':=s.drawn) (ch:=[it]) (λb F=>?_) (λb o _ _ a e _=>k b o (λz=>a (by simp[z])) e) (λb o _ _ a e _=>⟨o.slots,k b o (λz=>a (by simp[z])) e⟩) (λ_ _ _ _ n=>n)
  (λb o a e=>⟨o,k b o (λz=>a (by simp[z])) e⟩) (λ_ _ e=>e) (λ_ _ _ e=>e) (λb ps e=>⟨#[],by rw[e];simp⟩) (λm y=>?_) (λb u e=>?_) I.bare
 .have e:b=it:=by simpa using F
  subst e;exact⟨B,hL,C,l⟩
 .obtain⟨o,i,G,E,r⟩:=y;exact⟨o,i,G,k _ o (Ne.symm hL) E,r⟩
 .refine (I.hok b u e).stay (λc v a q=>k c v ?_ q) (λ_ q=>q) λ_ _ q=>q;rcases a with z|z
  .rw[z];exact f b u e
  .exact f c _ z
def Inv.tok(I:Inv X Mq Z H s)(t:Nat):Inv X Mq Z H { s with toks:=t}:=I.un (h':=s.heap) (t':=t) Un.refl I.hok
def Inv.kept(I:Inv X Mq Z H s)(k:∀b u,s.heap.get? b=some u->h'.get? b=some u):Inv X Mq Z H { s with heap:=h',toks:=t'}:=I.un (Un.kept k) (I.hok.kept k)
def Inv.laid{a:Addr}{o:HO}{t':Nat}(I:Inv X Mq Z H s)(k:∀b u,s.heap.get? b=some u->h'.get? b=some u)(f:s.heap.objs.size<=a)(new:ObjOk X.prog X.w (m_ H a o) h' a o) :
  Inv X Mq Z (m_ H a o) { s with heap:=h',toks:=t'}:=I.un (Un.laid k f (I.hok.fresh f)) (I.hok.laid k f new)
def Inv.write(I:Inv X Mq Z H s)(f:OT (H x))(i:e=x\/H e=some (.own x))(k:∀b u,b≠e->s.heap.get? b=some u->h'.get? b=some u)(a:∃u,h'.get? e=some u)
  (new:ObjOk X.prog X.w (m_ H x o) h' x o):Inv X Mq Z (m_ H x o) { s with heap:=h',toks:=t'}:=I.un (Un.write f i k a) (I.hok.write f i k a new)
def Inv.pins_of(I:Inv X Mq Z H s)(h:∀p∈a,s.heap.get? p.1=some p.2/\H p.1=none/\p.1≠X.env.locals/\p.1∉X.fs/\∀v,p.2.data≠.cell v):Inv X a Z H s :=
 ⟨I.ok,I.os,I.bare,I.base,I.loc,I.cell,I.free,I.freeC,λp f=>(CZ.mp f).elim (λz=>I.pin p (Gj _ z)) (h p),I.hok,I.len⟩
def uZ{N:List Str}(hN:N.Nodup){i j:Nat}{x:Str}(a:N[i]?=some x)(b:N[j]?=some x):i=j:=by
 obtain⟨f,e1⟩:=tr.mp a;obtain⟨l,e2⟩:=tr.mp b;exact (List.getElem_inj hN).mp (e1.trans e2.symm)
def Ax{M:Model}{A:Around}{E:Value->Shared->Prop}{i:Nat}{x:Str}{v:V}{u:Value}{Q:Unit->Shared->Prop}(I:Inv X Mq Z H s)(hN:X.N.Nodup)(S:X.N[i]?=some x)(C:Loc X.env.scope x)(r:aS v u)
  (h:∀s',Inv X Mq (Z.set i (some v)) H s'->(∃a,Heap.SameBut a s.heap s'.heap/\(a=X.env.locals\/X.env.cells.lookup x=some a))->Q () s') (hf:X.fn x=true\/X.env.scope.names.lookup x=some .local:=by first | exact .inl rfl | exact .inr rfl | assumption):wpAny M A (storeName X.env x u) Q E s:=by
 obtain⟨m,hn,hl⟩:=id I.loc;have U:(X.env.scope.kind == .class || (X.env.scope.kind == .module && X.env.locals != X.env.globals))=false:=by rw[I.ok.kind];rfl
 have G:i<Z.length:=by rw[I.len];exact (tr.mp S).1
 have cne:=I.cne;have l:∀{a:Addr} {h':Heap},(∃o,s.heap.get? a=some o/\H a=none)->Heap.SameBut a s.heap h'->HOk X.prog X.w H h':=λ{a h'} ha f b ob e=>by
  obtain⟨_,_,F⟩:=ha;refine (I.hok b ob e).stay (λc w' B q=>(f.2 c ?_).trans q) (λ_ q=>q) λ_ _ q=>q;rintro rfl;rcases B with rfl|B
  .rw[F] at e;cases e
  .rw[F] at B;cases B
 rcases C with J|J
 .refine wpAny_storeName_local J hn (λh' an f=>?_) U;obtain⟨oL,_,_,al,_⟩:=id hn;refine h _ ⟨I.ok,I.os,I.bare,⟨λb o e n P C=>?_,λb o e n P C=>?_,I.base.free,λb o e C=>?_,I.base.tups,I.base.frzs,I.base.tbls⟩,⟨_,an,λj y v' e1 e2 e3=>?_⟩,λy c e=>?_,I.free,I.freeC,λp hp=>?_,l ⟨oL,al,I.free⟩ f,by simpa using I.len⟩ ⟨_,f,.inl rfl⟩
  .exact (f.2 b (s_ (xv (n9 e) I.ok.above))).trans (I.base.keep b o e n P C)
  .obtain⟨sl,e1⟩:=I.base.slot b o e n P C;exact⟨sl,(f.2 b (s_ (xv (n9 e) I.ok.above))).trans e1⟩
  .obtain⟨o',e1⟩:=I.base.there b o e C;exact⟨o',(f.2 b (s_ (xv (n9 e) I.ok.above))).trans e1⟩
  .by_cases O:j=i
   .subst O;rw[S] at e1;cases e1;rw[Cw G] at e2;cases e2;exact⟨u,r,.inl ⟨J,by simp⟩⟩
   .rw[o0 (Ne.symm O)] at e2;obtain⟨u',r',q⟩:=hl j y v' e1 e2 e3;refine⟨u',r',?_⟩;rcases q with ⟨k,e⟩|⟨k,c,e,z⟩
    .refine .inl ⟨k,?_⟩
     have:y≠x:=λe=>O (uZ hN e1 (e▸S))
     simp[this,e]
    .exact .inr ⟨k,c,e,z.sameBut f (cne y c e)⟩
  .obtain⟨w',z⟩:=I.cell y c e;exact⟨w',z.sameBut f (cne y c e)⟩
  .obtain⟨e,n,ne,nf,d⟩:=I.pin p hp;exact⟨(f.2 p.1 ne).trans e,n,ne,nf,d⟩
 .have L:X.fn x=true:=by
   rcases hf with z|z
   .exact z
   .rw[z] at J;cases J
  obtain⟨c,B⟩:=I.ok.has x (.inl J);obtain⟨w',z⟩:=I.cell x c B;refine wpAny_storeName_cell I.ok.kind J B z (λh' R f=>?_);obtain⟨oc,ai,T⟩:=id z;refine h { s with heap:=h'} ⟨I.ok,I.os,I.bare,⟨λb o e n P C=>?_,λb o e n P C=>?_,I.base.free,λb o e C=>?_,I.base.tups,I.base.frzs,I.base.tbls⟩,⟨m,hn.sameBut f (Ne.symm (cne x c B)),λj y v' e1 e2 e3=>?_⟩,λy c' e=>?_,I.free,I.freeC,λp hp=>?_,l ⟨oc,ai,I.freeC x c B⟩ f,by simpa using I.len⟩ ⟨c,f,.inr B⟩
  .exact (f.2 b (s_ (xv (n9 e) (I.ok.cab x c L B)))).trans (I.base.keep b o e n P C)
  .obtain⟨sl,e1⟩:=I.base.slot b o e n P C;exact⟨sl,(f.2 b (s_ (xv (n9 e) (I.ok.cab x c L B)))).trans e1⟩
  .obtain⟨o',e1⟩:=I.base.there b o e C;exact⟨o',(f.2 b (s_ (xv (n9 e) (I.ok.cab x c L B)))).trans e1⟩
  .by_cases O:j=i
   .subst O;rw[S] at e1;cases e1;rw[Cw G] at e2;cases e2;exact⟨u,r,.inr ⟨.inl J,c,B,R⟩⟩
   .rw[o0 (Ne.symm O)] at e2;obtain⟨u',r',q⟩:=hl j y v' e1 e2 e3;refine⟨u',r',?_⟩;rcases q with q|⟨k,c',e,z'⟩
    .exact .inl q
    .refine .inr ⟨k,c',e,z'.sameBut f ?_⟩;rintro rfl;exact O (uZ hN e1 (I.ok.inj _ _ _ e B▸S))
  .by_cases Y:c'=c
   .subst Y;exact⟨_,R⟩
   .obtain⟨w2,z2⟩:=I.cell y c' e;exact⟨w2,z2.sameBut f Y⟩
  .obtain⟨e,n,ne,nf,d⟩:=I.pin p hp;refine⟨(f.2 p.1 ?_).trans e,n,ne,nf,d⟩;intro q;rw[q,ai] at e;have q':oc=p.2:=Option.some.inj e;exact d w' (by rw[<-q'];exact T)
def k7(I:Inv X Mq Z H s)(hN:X.N.Nodup)(f:X.N[i]?=some x)(j:Loc X.env.scope x)(r:aS v u)
  (h:∀a,Inv X Mq (Z.set i (some v)) H a->Q () a) (hf:X.fn x=true\/X.env.scope.names.lookup x=some .local:=by first | exact .inl rfl | exact .inr rfl | assumption):wpAny M A (storeName X.env x u) Q E s :=
 Ax I hN f j r (λa l _=>h a l) hf
def Inv.call'(I:Inv X Mq Z H s)(r:s'.os=s.os)(u:Un (Bz X.stack) ch H H' s.heap s'.heap)(hok:HOk X.prog X.w H' s'.heap)(i:AllBare s'.gens)
  (a:∀b∈ch,(b∈X.ex\/X.s₀.heap.objs.size<=b)/\b≠X.env.locals/\(∀x c,X.env.cells.lookup x=some c->c≠b)/\∀p∈X.pn++Mq,p.1≠b):Inv X Mq Z H' s':=by
 obtain⟨h',f,y,j,l⟩:=s';have e:l=s.os:=r;subst e;exact I.call (g':=f) (t':=j) (d':=y) u hok i a
end
abbrev XK:=Value->Option Addr->Hp->Prop
abbrev St:=List (Option V)
abbrev VK:=V->Hp->Prop
abbrev TE:=St->Hp->VK->Prop
abbrev TT:=St->Hp->(Bool->Hp->Prop)->Prop
abbrev TA:=St->Hp->(List V->Hp->Prop)->Prop
structure Ends where
 nx:St->Hp->Prop
 rt:VK
 bk:St->Hp->Prop:=λ_ _=>False
 ct:St->Hp->Prop:=λ_ _=>False
abbrev TS:=Ends->St->Hp->Prop
inductive EP (X:Cx) (Mq:List (Addr × Obj)) (Z:St) (Q:VK) (u:Value) (s':Shared):Prop
 | mk (v:V) (H':Hp) (i:Inv X Mq Z H' s') (r:aS v u) (q:Q v H'):EP X Mq Z Q u s'
inductive TP (X:Cx) (Mq:List (Addr × Obj)) (Z:St) (Q:Bool->Hp->Prop) (b:Bool) (s':Shared):Prop
 | mk (H':Hp) (i:Inv X Mq Z H' s') (q:Q b H'):TP X Mq Z Q b s'
inductive AP (X:Cx) (Mq:List (Addr × Obj)) (Z:St) (Q:List V->Hp->Prop) (us:List Value) (s':Shared):Prop
 | mk (vs:List V) (H':Hp) (i:Inv X Mq Z H' s') (r:aJ vs us) (q:Q vs H'):AP X Mq Z Q us s'
inductive SN (X:Cx) (Mq:List (Addr × Obj)) (Q:St->Hp->Prop) (s':Shared):Prop
 | mk (Z':St) (H':Hp) (i:Inv X Mq Z' H' s') (q:Q Z' H'):SN X Mq Q s'
inductive SR (X:Cx) (Mq:List (Addr × Obj)) (Q:VK) (u:Value) (s':Shared):Prop
 | mk (v:V) (Z':St) (H':Hp) (i:Inv X Mq Z' H' s') (r:aS v u) (q:Q v H'):SR X Mq Q u s'
def SP(X:Cx)(a:List (Addr × Obj))(D:Ends)(f:Flow)(i:Shared):Prop :=
 match f with
 | .next=>SN X a D.nx i
 | .brk=>SN X a D.bk i
 | .cont=>SN X a D.ct i
 | .ret u=>SR X a D.rt u i
def PE(X:Cx)(e:Expr)(t:TE):Prop :=
 ∀(a:List (Addr × Obj)) (s:Shared) (Z:St) (H:Hp) (Q:VK),Inv X a Z H s->t Z H Q->wpAny (model X.prog X.w) X.A (eval e X.env) (EP X a Z Q) X.xe s
def PT(X:Cx)(e:Expr)(t:TT):Prop :=
 ∀(a:List (Addr × Obj)) (s:Shared) (Z:St) (H:Hp) (Q:Bool->Hp->Prop),Inv X a Z H s->t Z H Q->wpAny (model X.prog X.w) X.A (isTrue e X.env (eval e X.env)) (TP X a Z Q) X.xe s
def PW(X:Cx)(e:Expr)(t:TT):Prop :=
 ∀(a:Sem Value) (f:List (Addr × Obj)) (s:Shared) (Z:St) (H:Hp) (Q:Bool->Hp->Prop),Inv X f Z H s->t Z H Q->wpAny (model X.prog X.w) X.A (isTrue e X.env a) (TP X f Z Q) X.xe s
def PW.pt(h:PW X e t):PT X e t:=h _
def PA(X:Cx)(i:List Expr)(t:TA):Prop :=
 ∀(a:Pos) (f:List (Addr × Obj)) (s:Shared) (Z:St) (H:Hp) (Q:List V->Hp->Prop),Inv X f Z H s->t Z H Q->wpAny (model X.prog X.w) X.A (spliced (backTo a (starEach i X.env))) (AP X f Z Q) X.xe s
def PS(X:Cx)(st:Stmt)(t:TS):Prop :=
 ∀(a:List (Addr × Obj)) (s:Shared) (Z:St) (H:Hp) (D:Ends),Inv X a Z H s->t D Z H->wpAny (model X.prog X.w) X.A (exec st X.env) (SP X a D) X.xe s
def PSs(X:Cx)(st:List Stmt)(t:TS):Prop :=
 ∀(a:List (Addr × Obj)) (s:Shared) (Z:St) (H:Hp) (D:Ends),Inv X a Z H s->t D Z H->wpAny (model X.prog X.w) X.A (execs st X.env) (SP X a D) X.xe s
def l_(h:wpAny M A t Q E s)(f:∀a s,Q a s->Q' a s):wpAny M A t Q' E s:=wpAny_mono h f λ_ _ x=>x
section
variable {X:Cx}
def QC(i:Nat):TE:=λZ H Q=>∃v,Z[i]?=some (some v)/\Q v H
def tC(v:V):TE:=λ_ H Q=>Q v H
def Hr{i:Nat}{x:Str}{j:Pos}(hN:X.N[i]?=some x)(hv:OV X.env.scope x)(hd:(x == ("__debug__":Str))=false:=by decide)(y:(x == ("__classdict__":Str))=false:=by decide):PE X (.Name x j) (QC i):=by
 intro F s Z H Q I h;obtain⟨v,e,h⟩:=h;obtain⟨m,C,B⟩:=I.loc;obtain⟨u,r,l⟩:=B i x v hN e hv;have fin:EP X F Z Q u s:=⟨v,H,I,r,h⟩;rcases l with ⟨f,E⟩|⟨f,c,z,a⟩
 .exact wpAny_Name (wpAny_loadName_local I.ok.kind f C E fin) hd
 .rcases f with f|f
  .exact wpAny_Name (wpAny_loadName_cell I.ok.kind f z a fin) hd
  .exact wpAny_Name (wpAny_loadName_free I.ok.kind f z a fin y) hd
def Hs{i j pos}:PE X (.Constant (.int i) j pos) (tC (.int i)):=λ_ _ _ H _ I h=>wpAny_Constant_int ⟨.int i,H,I.tok _,⟨_,rfl⟩,h⟩
def Lr{b j pos}:PE X (.Constant (.bool b) j pos) (tC (.bl b)):=λ_ _ _ H _ I h=>Constant_bool ⟨.bl b,H,I,rfl,h⟩
def Ht{x j pos}:PE X (.Constant (.str x) j pos) (tC (.str x)):=λ_ _ _ H _ I h=>Calls.Constant_str ⟨.str x,H,I.tok _,⟨_,rfl⟩,h⟩
def Gl(X:Cx)(x:Str):Prop:=X.env.kindOf x=some .globalImplicit
def vq{E:Value->Shared->Prop}{i:List (Addr × Obj)}{s:Shared}{Z:St}{H:Hp}{x:Str}{u:Value}{a:Pos}{Q:Value->Shared->Prop}(I:Inv X i Z H s)(f:Gl X x)(j:X.mg x=some u)(h:Q u s)
  (hd:(x == ("__debug__":Str))=false:=by decide):wpAny (model X.prog X.w) X.A (eval (.Name x a) X.env) Q E s :=
 Calls.Name_function_global I.ok.kind f (Calls.loadGlobal_global (by rw[I.ok.glob];exact I.mod.glob.keeps I.bk) j h) hd
def jW{E:Value->Shared->Prop}{y:List (Addr × Obj)}{s:Shared}{Z:St}{H:Hp}{x:Str}{u:Value}{a:Pos}{Q:Value->Shared->Prop}(I:Inv X y Z H s)(l:Gl X x)(i:X.mg x=none)(hv:bootBuiltins x=some u)(h:Q u s)
  (f:x≠"__name__":=by decide) (hd:(x == ("__debug__":Str))=false:=by decide):wpAny (model X.prog X.w) X.A (eval (.Name x a) X.env) Q E s:=by
 obtain⟨z,j,r⟩:=I.mod.blt;exact Calls.Name_function_global I.ok.kind l (Calls.loadGlobal_builtin (by rw[I.ok.glob];exact I.mod.glob.keeps I.bk) i (by rw[I.ok.blt];exact j.keeps I.bk) ((r x f).trans hv) h) hd
def Eu(a:Gl X x)(f:X.mg x=some u)(r:aS v u)(hd:(x == ("__debug__":Str))=false:=by decide):PE X (.Name x pos) (tC v) :=
 λ_ _ _ H _ I h=>vq I a f ⟨v,H,I,r,h⟩ hd
def Ev{x:Str}{v:V}{u:Value}{a:Pos}(f:Gl X x)(j:X.mg x=none)(hv:bootBuiltins x=some u)(r:aS v u)(i:x≠"__name__":=by decide)(hd:(x == ("__debug__":Str))=false:=by decide):PE X (.Name x a) (tC v) :=
 λ_ _ _ H _ I h=>jW I f j hv ⟨v,H,I,r,h⟩ i hd
variable {a b:Expr} {ta tb:TE} {pos:Pos}
def tB(t:TE):TT:=λZ H Q=>t Z H λx f=>∃c,x=.bl c/\Q c f
def Hu(h:PE X e t)(i:∀f,isTrue e X.env f=(do let v <-f;standAt e.pos;holding [v] (truthy v)):=by intro _;rfl):PT X e (tB t):=by
 intro u s Z H Q I r;refine isTrue_plain (l_ (h u s Z H _ I r) λv z ⟨x,l,j,y,q1⟩=>?_) (i _);obtain⟨d,rfl,q⟩:=q1;cases y;exact wpAny_truthy_bool ⟨l,j,q⟩
variable {tA tB':TT} {rest:List Expr}
def QD(t u:TT):TT:=λZ H Q=>t Z H λc f=>if c=true then u Z f Q else Q false f
def T1(t u:TT):TT:=λZ H Q=>t Z H λc f=>if c=true then Q true f else u Z f Q
def QE(t:TT):TT:=λZ H Q=>t Z H λc f=>Q (!c) f
def Ew(i:PT X a tA):PW X (.BoolOp .And [a] pos) tA:=by
 intro j f s Z H Q I h;refine isTrue_and (l_ (i f s Z H Q I h) λc l e=>?_)
 cases c with
 | true=>exact isTrue_and_nil e
 | false=>exact e
def Hv(i:PT X a tA):PW X (.BoolOp .Or [a] pos) tA:=by
 intro j f s Z H Q I h;refine isTrue_or (l_ (i f s Z H Q I h) λc l e=>?_)
 cases c with
 | false=>exact isTrue_or_nil e
 | true=>exact e
def Hw(l:PT X a tA)(u:PW X (.BoolOp .And (b::rest) pos) tB'):PW X (.BoolOp .And (a::b::rest) pos) (QD tA tB'):=by
 intro r f s Z H Q I h;refine isTrue_and (l_ (l f s Z H _ I h) λc y ⟨j,i,q1⟩=>?_)
 cases c with
 | true=>exact u r f y Z j Q i q1
 | false=>exact⟨j,i,q1⟩
def Ls(l:PT X a tA)(u:PW X (.BoolOp .Or (b::rest) pos) tB'):PW X (.BoolOp .Or (a::b::rest) pos) (T1 tA tB'):=by
 intro r f s Z H Q I h;refine isTrue_or (l_ (l f s Z H _ I h) λc y ⟨j,i,q1⟩=>?_)
 cases c with
 | true=>exact⟨j,i,q1⟩
 | false=>exact u r f y Z j Q i q1
def Hx(l:PT X a tA):PT X (.UnaryOp .Not a pos) (QE tA):=by
 intro i s Z H Q I h;exact isTrue_not (l_ (l i s Z H (λc f=>Q (!c) f) I h) λ_ _ ⟨f,j,q⟩=>⟨f,j,q⟩)
def Lu(ta tb:TE):TE:=λZ H Q=>ta Z H λx f=>∃c,x=.bl c/\if c=true then tb Z f Q else Q (.bl false) f
def Lv(ta:TE):TE:=λZ H Q=>ta Z H λx f=>∃c,x=.bl c/\Q (.bl (!c)) f
def Hy{op}(h:PE X a t):PE X (.BoolOp op [a] pos) t:=λf s Z H Q I i=>BoolOp_one (h f s Z H Q I i)
def Hz(l:PE X a ta)(u:PE X (.BoolOp .And (b::rest) pos) tb):PE X (.BoolOp .And (a::b::rest) pos) (Lu ta tb):=by
 intro j s Z H Q I h;refine BoolOp_and (l_ (l j s Z H _ I h) λv r ⟨x,i,f,y,q1⟩=>?_);obtain⟨c,rfl,q1⟩:=q1;cases y;refine wpAny_truthy_bool ?_
 cases c with
 | true=>exact u j r Z i Q f q1
 | false=>exact⟨.bl false,i,f,rfl,q1⟩
def HA(l:PE X a ta):PE X (.UnaryOp .Not a pos) (Lv ta):=by
 intro f s Z H Q I h;refine UnaryOp_ (l_ (l f s Z H _ I h) λv u ⟨x,j,i,r,q1⟩=>?_);obtain⟨c,rfl,q1⟩:=q1;cases r;exact not_of (wpAny_truthy_bool ⟨.bl (!c),j,i,rfl,q1⟩)
def T2(t:TT)(ta tb:TE):TE:=λZ H Q=>t Z H λc f=>if c=true then ta Z f Q else tb Z f Q
def B5(y:PT X c tA)(r:PE X a ta)(u:PE X b tb):PE X (.IfExp c a b pos) (T2 tA ta tb):=by
 intro f s Z H Q I h;refine wpAny_IfExp (l_ (y f s Z H _ I h) λd l ⟨j,i,q1⟩=>?_)
 cases d with
 | true=>exact r f l Z j Q i q1
 | false=>exact u f l Z j Q i q1
end
def SqL(K:hR)(H:Hp)(a:Addr)(xs:List V):Prop :=
 Rd H a (.lst xs) \/
  ∃(o:Obj) (f:Array Value) (n:Nat),K.lookup a=some o/\o.cls=.type "list"/\o.dict=none/\o.data=.seq f n/\f.size<=sizeLine/\aJ xs f.toList
def SqT(K:hR)(H:Hp)(a:Addr)(xs:List V):Prop :=
 Rd H a (.tup xs) \/
  ∃(o:Obj) (f:Array Value) (n:Nat),K.lookup a=some o/\o.cls=.type "tuple"/\(o.data=.seq f n/\o.dict=none)/\f.size<=sizeLine/\aJ xs f.toList
def QF:Value->Option V
 | .none=>some .non
 | .bool b=>some (.bl b)
 | .int i _=>some (.int i)
 | .str x _=>some (.str x)
 | .bytes b _=>some (.byt b)
 | .float b _=>some (.flt b)
 | .ref a=>some (.ref a)
 | .type n=>some (.ty n)
 | _=>none
def aS.abs(r:aS x u):QF u=some x:=by
 cases x with
 | non=>cases r;rfl
 | bl _=>cases r;rfl
 | int _=>obtain⟨t,rfl⟩:=r;rfl
 | str _=>obtain⟨t,rfl⟩:=r;rfl
 | byt _=>obtain⟨t,rfl⟩:=r;rfl
 | flt _=>obtain⟨t,rfl⟩:=r;rfl
 | ref _=>cases r;rfl
 | ty _=>cases r;rfl
def aS.inj(r:aS x u)(q:aS y u):x=y:=Option.some.inj (r.abs.symm.trans q.abs)
def aJ.inj(r:aJ xs us)(q:aJ ys us):xs=ys:=by
 induction r generalizing ys with
 | nil=>cases q;rfl
 | cons r t i=>cases q with | cons f a=>rw[r.inj f,i a]
section
variable {X:Cx} {Mq:List (Addr × Obj)} {Z:St} {H:Hp} {s:Shared} {a:Addr} {xs ys:List V}
def SqL.of{K:hR}(h:H a=some (.lst xs)):SqL K H a xs:=.inl (.inl h)
def SqT.of{K:hR}(h:H a=some (.tup xs)):SqT K H a xs:=.inl (.inl h)
def Inv.list(I:Inv X Mq Z H s)(h:SqL X.K H a xs):∃f:List Value,aJ xs f/\PlainL s.heap a f.toArray/\xs.length<=sizeLine:=by
 rcases h with h|⟨o,f,n,j,l,hd,i,u,r⟩
 .obtain⟨z,f,n,r,e⟩:=h.ok I.hok;exact⟨f,r,⟨_,n,e,rfl,rfl,rfl⟩,z⟩
 .refine⟨f.toList,r,⟨o,n,I.kIn a o j,l,hd,by simpa using i⟩,?_⟩;have e:=r.length;simp only[CD] at e;lia
def Inv.tupleN(I:Inv X Mq Z H s)(h:SqT X.K H a xs):∃f:List Value,aJ xs f/\gX s.heap a f.toArray/\xs.length<=sizeLine:=by
 rcases h with h|⟨o,f,n,j,l,i,u,r⟩
 .obtain⟨z,f,r,p⟩:=h.ok I.hok;exact⟨f,r,p,z⟩
 .refine⟨f.toList,r,⟨o,I.kIn a o j,l,⟨n,by simpa using i.1⟩,i.2⟩,?_⟩;have e:=r.length;simp only[CD] at e;lia
def Inv.tuple(I:Inv X Mq Z H s)(h:SqT X.K H a xs):∃f:List Value,aJ xs f/\IsTup s.heap a f.toArray/\xs.length<=sizeLine :=
 let ⟨f,r,p,z⟩:=I.tupleN h
 ⟨f,r,p.tup,z⟩
def Inv.list_inj(I:Inv X Mq Z H s)(h:SqL X.K H a xs)(y:SqL X.K H a ys):xs=ys:=by
 obtain⟨i,r,⟨o,n,e,_,_,d⟩,_⟩:=I.list h;obtain⟨f,u,⟨z,B,j,_,_,l⟩,_⟩:=I.list y;rw[e] at j;cases j;rw[d] at l;injection l with d1 _
 have:i=f:=by simpa using congrArg Array.toList d1
 subst this;exact r.inj u
def Inv.tuple_inj(I:Inv X Mq Z H s)(h:SqT X.K H a xs)(y:SqT X.K H a ys):xs=ys:=by
 obtain⟨i,r,⟨o,e,_,n,d⟩,_⟩:=I.tuple h;obtain⟨f,u,⟨z,j,_,B,l⟩,_⟩:=I.tuple y;rw[e] at j;cases j;rw[d] at l;injection l with d1 _
 have:i=f:=by simpa using congrArg Array.toList d1
 subst this;exact r.inj u
end
section
variable {X:Cx} {Mq:List (Addr × Obj)} {Z:St} {H:Hp} {s:Shared} {E:Value->Shared->Prop}
end
section
variable {X:Cx} {st:Stmt} {rest:List Stmt} {t u:TS} {e:Expr} {te:TE} {pos:Pos}
def Lx:TS:=λD Z H=>D.nx Z H
def QG(t u:TS):TS:=λD Z H=>t { D with nx:=u D} Z H
def Ex:PSs X [] Lx:=λ_ _ Z H _ I h=>wpAny_execs_nil ⟨Z,H,I,h⟩
def AN(l:PS X st t)(r:PSs X rest u):PSs X (st::rest) (QG t u):=by
 intro a s Z H D I h;refine wpAny_execs_cons (l_ (l a s Z H { D with nx:=u D} I h) λf j q=>?_)
 cases f with
 | next =>
  obtain⟨y,i,z,q⟩:=q;exact r a j y i D z q
 | ret v=>exact q
 | brk=>exact q
 | cont=>exact q
def Ey(a:PS X st t):PSs X [st] t:=by
 intro i s Z H D I h;refine wpAny_execs_cons (l_ (a i s Z H D I h) λf j q=>?_)
 cases f with
 | next=>exact wpAny_execs_nil q
 | ret v=>exact q
 | brk=>exact q
 | cont=>exact q
def Inv.quiet{a:List (Addr × Obj)}{Z:St}{H:Hp}{s:Shared}(I:Inv X a Z H s):interactive X.env=false:=by simp[interactive,I.ok.kind]
def Ly(te:TE):TS:=λD Z H=>te Z H λ_ a=>D.nx Z a
def Ez(j:PE X e te)(i:swapsWith e none pos.line X.env=pure false:=by rfl):PS X (.Expr e pos) (Ly te):=by
 intro a s Z H D I h;exact wpAny_Expr_any (l_ (j a s Z H _ I h) λv y ⟨x,l,f,r,q1⟩=>⟨Z,l,f,q1⟩) I.quiet i
def QH(te:TE):TS:=λD Z H=>te Z H D.rt
def HB(j:PE X e te):PS X (.Return (some e) pos) (QH te):=by
 intro a s Z H D I h;exact wpAny_Return_some (l_ (j a s Z H _ I h) λv r ⟨x,l,f,i,q1⟩=>⟨x,Z,l,f,i,q1⟩)
def QI(c:TT)(t u:TS):TS:=λD Z H=>c Z H λb a=>if b=true then t D Z a else u D Z a
def Lz(z:PT X c tc)(r:PSs X a t)(y:PSs X b u):PS X (.If c a b pos) (QI tc t u):=by
 intro f s Z H D I h;refine wpAny_If (l_ (z f s Z H _ I h) λd j ⟨l,i,q1⟩=>?_)
 cases d with
 | true=>exact r f j Z l D i q1
 | false=>exact y f j Z l D i q1
end
abbrev TG:=V->St->Hp->(St->Hp->Prop)->Prop
abbrev KW:=List V->St->Hp->(St->Hp->Prop)->Prop
def PG(X:Cx)(a:Expr)(t:TG):Prop :=
 ∀(f:List (Addr × Obj)) (s:Shared) (Z:St) (H:Hp) (v:V) (u:Value) (Q:St->Hp->Prop),Inv X f Z H s->aS v u->t v Z H Q ->
  wpAny (model X.prog X.w) X.A (assign a X.env u) (λ_ i=>SN X f Q i) X.xe s
def PGs(X:Cx)(j:List Expr)(t:KW):Prop :=
 ∀(a:List (Addr × Obj)) (s:Shared) (Z:St) (H:Hp) (i:List V) (f:List Value) (Q:St->Hp->Prop),Inv X a Z H s->aJ i f->t i Z H Q ->
  wpAny (model X.prog X.w) X.A (assignInOrder ((assignEach j X.env).map (·.2)) f) (λ_ l=>SN X a Q l) X.xe s
abbrev LA:=V->V->V->Hp->(Hp->Prop)->Prop
inductive SE (X:Cx) (Mq:List (Addr × Obj)) (Z:St) (Q:Hp->Prop) (s':Shared):Prop
 | mk (H':Hp) (i:Inv X Mq Z H' s') (q:Q H'):SE X Mq Z Q s'
def LB(X:Cx)(t:LA):Prop :=
 ∀(a:List (Addr × Obj)) (s:Shared) (Z:St) (H:Hp) (o i v:V) (j f u:Value) (Q:Hp->Prop),Inv X a Z H s->aS o j->aS i f->aS v u->t o i v H Q ->
  wpAny (model X.prog X.w) X.A (setItem j f u) (λ_ l=>SE X a Z Q l) X.xe s
section
variable {X:Cx} {pos:Pos}
def Go(i:Nat):TG:=λv Z H Q=>Q (Z.set i (some v)) H
def vP(hN:X.N.Nodup)(a:X.N[i]?=some x)(f:Loc X.env.scope x)(hf:X.fn x=true\/X.env.scope.names.lookup x=some .local:=by first | exact .inl rfl | exact .inr rfl | assumption):PG X (.Name x pos) (Go i):=by
 intro l s Z H v u Q I r h;exact wpAny_assign_Name (k7 I hN a f r (λy j=>⟨_,H,j,h⟩) hf)
def QJ:KW:=λa Z H Q=>a=[]/\Q Z H
def LC(t:TG)(u:KW):KW:=λa Z H Q=>∃v r,a=v::r/\t v Z H λi f=>u r i f Q
def EA:PGs X [] QJ:=by
 intro a s Z H i f Q I r h;obtain⟨e,h⟩:=h;subst e;cases r;exact assignInOrder_nil ⟨Z,H,I,h⟩
def BI(y:PG X e t)(z:PGs X es u)
  (B:(assignEach (e::es) X.env).map (·.2)=assign e X.env::(assignEach es X.env).map (·.2):=by rfl):PGs X (e::es) (LC t u):=by
 intro a s Z H E C Q I r h;obtain⟨v,F,e1,h⟩:=h;subst e1
 cases r with
 | cons r rr =>
  rw[B];refine assignInOrder_cons (l_ (y a s Z H _ _ _ I r h) λ_ l ⟨f,j,i,q1⟩=>?_);exact z a l f j _ _ Q i rr q1
def QK(K:hR)(n:Nat)(t:KW):TG:=λv Z H Q=>∃a xs,v=.ref a/\SqT K H a xs/\xs.length=n/\t xs Z H Q
def HC{f:List Expr}{k:Nat}{t:KW}{n:Nat}(B:X.calm=true)(h:PGs X f t)
  (F:(assignEach f X.env).length=n:=by rfl) (j:(assignEach f X.env).findIdx? (·.1)=none:=by rfl):PG X (.Tuple f k pos) (QK X.K n t):=by
 intro y s Z H v u Q I r i;obtain⟨a,xs,e1,G,C,i⟩:=i;subst e1;cases r;obtain⟨J,l,z,O⟩:=I.tuple G;refine assign_Tuple_tuple (I.ok.hd B) z (by simp[F,<-C,l.length]) j λM L=>?_;have E:Inv X y Z H { s with heap:=M}:=I.kept (t':=s.toks) λb o e=>L b o (s_ (n9 e)) e;exact h y _ Z H xs _ Q E (by simpa using l) i
def QL(to f:TE)(t:LA):TG:=λv Z H Q=>to Z H λo j=>f Z j λi l=>t o i v l λa=>Q Z a
def HD(P:PE X o to)(E:PE X i ti)(R:LB X t)
  (l:∀v,assign (.Subscript o i pos) X.env v=(do
   let a <-holding [v] (eval o X.env)
   let f <-holding [v,a] (eval i X.env)
   standAt pos
   holding [v,a,f] (setItem a f v)
   release [v,a,f] []):=by intro _;rfl):PG X (.Subscript o i pos) (QL to ti t):=by
 intro j s Z H v u Q I r h;rw[l];refine b_ (wpAny_holding (l_ (P j s Z H _ I h) λa L ⟨x,J,B,U,q1⟩=>?_));refine b_ (wpAny_holding (l_ (E j L Z J _ B q1) λf S ⟨y,C,T,M,O⟩=>?_));refine b_ (wpAny_standAt (b_ (wpAny_holding (l_ (R j S Z C x y v a f u _ T U M r O) λ_ Y ⟨G,z,F⟩=>?_))));exact wpAny_release ⟨Z,G,z,F⟩
def LD(a:TE)(g:TG):TS:=λD Z H=>a Z H λx f=>g x Z f D.nx
def HE(f:PE X e te)(u:PG X tg g)(z:swapsWithSole [tg] e pos.line X.env=pure false:=by rfl)(r:swappedStores [tg] e X.env=pure none:=by rfl)
  (y:(assignEach [tg] X.env).map (·.2)=[assign tg X.env]:=by rfl):PS X (.Assign [tg] e pos) (LD te g):=by
 intro a s Z H D I h;refine wpAny_Assign_stores (l_ (f a s Z H _ I h) λv j ⟨x,l,i,B,q1⟩=>?_) z r;rw[y];exact l_ (u a j Z l x v _ i B q1) λ_ C q=>q
def HG(hN:X.N.Nodup)(j:X.N[i]?=some x)(z:Loc X.env.scope x)(a:PE X e te)(r:swapsWith e (some (.Name x pos')) pos.line X.env=pure false:=by rfl)(hf:X.fn x=true\/X.env.scope.names.lookup x=some .local:=by first | exact .inl rfl | exact .inr rfl | assumption) :
  PS X (.Assign [.Name x pos'] e pos) (LD te (Go i)):=by
 intro B s Z H D I h;refine wpAny_Assign_Name (l_ (a B s Z H _ I h) λv E ⟨y,l,f,C,q1⟩=>?_) r;exact k7 f hN j z C (λF u=>⟨_,l,u,q1⟩) hf
def QM(i j:Nat)(f:TA):TS:=λD Z H=>f Z H λa l=>∃v w,a=[v,w]/\D.nx ((Z.set i (some v)).set j (some w)) l
def HH{kt k2 pt2}(P:X.calm=true)(hN:X.N.Nodup)(S:X.N[i]?=some x)(T:X.N[j]?=some y)(u:i≠j)
  (G:X.env.scope.names.lookup x=some .local) (F:X.env.scope.names.lookup y=some .local) (M:PA X [a,b] ta)
  (U:swappedStores [.Tuple [.Name x px,.Name y py] kt pt] (.Tuple [a,b] k2 pt2) X.env=pure (some [x,y]))
  (hs:swapsWithSole [.Tuple [.Name x px,.Name y py] kt pt] (.Tuple [a,b] k2 pt2) pos.line X.env=pure false:=by rfl) :
  PS X (.Assign [.Tuple [.Name x px,.Name y py] kt pt] (.Tuple [a,b] k2 pt2) pos) (QM i j ta):=by
 intro J s Z H D I h;rw[exec_Assign_arm];refine b_ (wpAny_standAt ?_);rw[hs];refine b_ (i3 ?_);rw[g_ (by decide)];refine b_ (Tuple_ (l_ (M _ J s Z H _ I h) λY l ⟨vs,E,R,r1,q1⟩=>?_));obtain⟨v,w,e1,q1⟩:=q1;subst e1;obtain⟨r,f,rfl,L,B⟩:∃r f,Y=[r,f]/\aS v r/\aS w f:=by
  cases r1 with
  | cons p q =>
   cases q with
   | cons p' q' =>
    cases q';exact⟨_,_,rfl,p,p'⟩
 refine wpAny_newObj_type ?_ (by show 2<=sizeLine;decide);have I2:Inv X J Z E { l with heap:=l.heap.push { cls:=.type "tuple",data:=.seq [r,f].toArray}}:=R.kept (t':=l.toks) λb o e=>mz _ e;rw[U];refine b_ (i3 ?_);show wpAny (model X.prog X.w) X.A (do rule "assign.swapped-stores";let items <-unpackItems (.ref l.heap.objs.size) 2 none;assignInOrder [λv=>bindName X.env y v,λv=>bindName X.env x v] items.reverse;pure Flow.next) _ _ _;refine b_ (wpAny_rule (b_ (unpackItems_tuple (items:=#[r,f]) (I.ok.hd P) (IsTup.new l.heap _) λh' z=>?_)));have O:=I2.kept (h':=h') (t':=l.toks) λb o e=>z b o (s_ (n9 e)) e;show wpAny _ _ (assignInOrder [λv=>bindName X.env y v,λv=>bindName X.env x v] [f,r] >>= λ_=>pure Flow.next) _ _ _;refine b_ (assignInOrder_cons (wpAny_bindName (k7 O hN T (.inl F) B (λs2 Q=>?_) (.inr F))));refine assignInOrder_cons (wpAny_bindName (k7 Q hN S (.inl G) L (λs3 C=>assignInOrder_nil (i3 ?_)) (.inr G)));rw[List.set_comm _ _ (Ne.symm u)] at C;exact⟨_,E,C,q1⟩
def HI(c:TT)(tb:TS):TS:=λD Z H=>∃W:Nat->St->Hp->Prop,(∃m,W m Z H)/\∀m Z H,W m Z H ->
 c Z H λb j=>if b=true then ∃N:St->Hp->Prop,(∀i f,N i f->∃a,a<m/\W a i f)/\tb { D with nx:=N,ct:=N,bk:=D.nx} Z j else D.nx Z j
def AR(G:PassesOwn (model X.prog X.w) X.A X.env X.xe)(P:PT X c tc)(hb:PSs X body tb):PS X (.While c body [] pos) (HI tc tb):=by
 intro E s Z H D I h;obtain⟨W,⟨T,w0⟩,turn⟩:=h;refine wpAny_While (codeAny_whileLoop (λn S=>∃O J,Inv X E O J S/\W n O J) ?_ T ⟨Z,H,I,w0⟩);rintro n U ⟨j,L,R,Q⟩;refine wpAny_passesOwn G (l_ (P E U j L _ R (turn n j L Q)) λb Y ⟨F,M,r⟩=>?_)
 cases b with
 | true =>
  obtain⟨N,hN,r⟩:=r;rw[d_ rfl];refine wpAny_passesOwn G (l_ (hb E Y j F _ M r) λf s3 l=>?_)
  cases f with
  | next =>
   obtain⟨i,a,y,z⟩:=l;obtain⟨B,C,u⟩:=hN i a z;exact⟨B,C,i,a,y,u⟩
  | cont =>
   obtain⟨i,a,y,z⟩:=l;obtain⟨B,C,u⟩:=hN i a z;exact⟨B,C,i,a,y,u⟩
  | brk=>exact l
  | ret v=>exact l
 | false =>
  rw[g_ DB];exact wpAny_execs_nil ⟨j,F,M,r⟩
end
structure It where
 go:Nat->Hp->Prop
 yld:Nat->Hp->V->Hp->Prop
 stop:Nat->Hp->Prop
def i6(X:Cx)(a:List (Addr × Obj))(H:Hp)(b:Addr):Prop :=
 H b=none/\b≠X.env.locals/\b∉X.fs/\(b∈X.ex\/X.s₀.heap.objs.size<=b)/\(∀x c,X.env.cells.lookup x=some c->c≠b)/\∀p∈X.pn++a,p.1≠b
def Inv.fpOk{X:Cx}{f:List (Addr × Obj)}{Z:St}{H H':Hp}{s:Shared}{b:Addr}(I:Inv X f Z H s)(a:s.heap.objs.size<=b)(i:H' b=none):i6 X f H' b:=by
 refine⟨i,Cy (xv I.lt a),I.nofs a,.inr (yi I.sz a),λx c e z=>?_,λp j z=>?_⟩
 .obtain⟨v,q⟩:=I.cell x c e;exact absurd (xv q.lt (by rw[z];exact a)) (Dw _)
 .exact absurd (xv (n9 (I.pin p j).1) (by rw[z];exact a)) (Dw _)
inductive S7 (X:Cx) (Mq:List (Addr × Obj)) (Z:St) (u:Value) (Y:V->Hp->Prop) (n:Heap->Prop) (fp:List Addr) (s2:Shared):Prop
 | mk (x:V) (H':Hp) (i:Inv X Mq Z H' s2) (r:aS x u) (y:Y x H') (t:n s2.heap) (f:∀b∈fp,H' b=none):S7 X Mq Z u Y n fp s2
structure Db (P:Program) (w:World) (K:hR) (tg:Expr) (J:It) (fp:List Addr) (it:Addr) (tn:Nat->Heap->Prop):Prop where
 mem:it∈fp
 obj:∀i h,tn i h->∀b∈fp,∃o,h.get? b=some o/\∀v,o.data≠.cell v
 keep:∀i h h',tn i h->(∀b∈fp,∀o,h.get? b=some o->h'.get? b=some o)->tn i h'
 item:∀(X:Cx),X.prog=P->X.w=w->X.K=K->X.calm=true->∀(i:Nat) (Mq:List (Addr × Obj)) (s:Shared) (Z:St) (H:Hp) (E:Value->Shared->Prop),Inv X Mq Z H s->(∀b∈fp,i6 X Mq H b)->tn i s.heap->J.go i H ->
  wpAny (model P w) X.A (pyNext (.ref it)) (λr s1=>∃u,r=some u /\
   wpAny (model P w) X.A (letOwnedTupleGo tg (.ref it) u) (λ_ s2=>S7 X Mq Z u (J.yld i H) (tn (i+1)) fp s2) E s1) E s
 done:∀(X:Cx),X.prog=P->X.w=w->X.K=K->X.calm=true->∀(i:Nat) (Mq:List (Addr × Obj)) (s:Shared) (Z:St) (H:Hp) (E:Value->Shared->Prop),Inv X Mq Z H s->(∀b∈fp,i6 X Mq H b)->tn i s.heap->J.stop i H ->
  wpAny (model P w) X.A (pyNext (.ref it)) (λr s1=>r=none/\Inv X Mq Z H s1) E s
 self:∀(A:Around) (i:Nat) (s:Shared) (Q:Value->Shared->Prop) (E:Value->Shared->Prop),tn i s.heap->Q (.ref it) s->wpAny (model P w) A (pyIter (.ref it)) Q E s
abbrev TI:=St->Hp->(It->Hp->Prop)->Prop
inductive QN (X:Cx) (Mq:List (Addr × Obj)) (Z:St) (tg:Expr) (R:It->Hp->Prop) (itv:Value) (s2:Shared):Prop
 | mk (it:Addr) (fp:List Addr) (tn:Nat->Heap->Prop) (J:It) (H':Hp) (e:itv=.ref it) (i:Inv X Mq Z H' s2) (t:Db X.prog X.w X.K tg J fp it tn) (n:tn 0 s2.heap) (f:∀b∈fp,i6 X Mq H' b) (r:R J H'):QN X Mq Z tg R itv s2
def PI(X:Cx)(l a:Expr)(i:TI):Prop :=
 ∀(f:List (Addr × Obj)) (s:Shared) (Z:St) (H:Hp) (R:It->Hp->Prop),Inv X f Z H s->i Z H R ->
  wpAny (model X.prog X.w) X.A (eval a X.env) (λv j=>wpAny (model X.prog X.w) X.A (pyIter v) (QN X f Z l R) X.xe j) X.xe s
def yn(i:s.heap.get? it=some o)(j:o.cls=.type n)(hd:o.data=.fields vs)
  (f:["enumerate","zip","dict_itemiterator","dict_reverseitemiterator","odict_iterator","itertools.zip_longest","itertools.pairwise"].contains n=false) (a:Q () s):wpAny M A (letOwnedTupleGo tg (.ref it) u) Q E s:=by
 unfold letOwnedTupleGo;cases tg <;> first
  | exact i3 a
  | (cases u <;> first
    | exact i3 a
    | (refine b_ (wpAny_load i ?_)
       rw[j,hd];show wpAny M A (if (["enumerate","zip","dict_itemiterator","dict_reverseitemiterator","odict_iterator","itertools.zip_longest","itertools.pairwise"].contains n && vs[0]? == some (rawInt _))=true then _ else _) Q E s;rw[g_ (by intro h;rw[f,Bool.false_and] at h;cases h)]
       exact i3 a))
def QO(K:hR)(a:Addr):It :=
 ⟨λi H=>∃xs x,SqL K H a xs/\xs[i]?=some x,λi H x f=>f=H/\∀xs,SqL K H a xs->xs[i]?=some x,λi H=>∃xs,SqL K H a xs/\xs.length<=i⟩
def S8(K:hR)(a:Addr):It :=
 ⟨λi H=>∃xs x,SqT K H a xs/\xs[i]?=some x,λi H x f=>f=H/\∀xs,SqT K H a xs->xs[i]?=some x,λi H=>∃xs,SqT K H a xs/\xs.length<=i⟩
def OW(lo:Int)(n:Nat):It:=⟨λi _=>i<n,λi H x a=>a=H/\x=.int (lo+i),λi _=>n<=i⟩
def zJ{P:Program}{w:World}{K:hR}{tg:Expr}(a f:Addr):Db P w K tg (QO K a) [f] f (λi h=>h.IsListIter f a i) where
 mem:=by simp
 obj:=λi h st b j=>by
  have e:b=f:=by simpa using j
  subst e;obtain⟨o,e,c,d⟩:=st;exact⟨o,e,λv z=>by rw[d] at z;cases z⟩
 keep:=λi h y st k=>st.at λo e=>k f (by simp) o e
 item:=by
  intro X G Q J U i Y s Z H E I hf st R;subst G Q J;obtain⟨xs,x,r,T⟩:=R;obtain⟨M,B,p,hz⟩:=I.list r;obtain⟨u,hu,ru⟩:=B.get T;obtain⟨L,F,f2,C,S,O⟩:=hf f (by simp);refine wpAny_pyNext_list_item st p.isList (x:=u) (by simpa using hu) λy l sb=>?_;have I1:Inv X Y Z H { s with heap:=y}:=I.turned (t':=s.toks) (λb o j e=>(sb.2 b j).trans e) L F C S O;obtain⟨o,e,c,d⟩:=id l;exact⟨u,rfl,yn (s:={ s with heap:=y}) e c d (by decide) ⟨x,H,I1,ru,⟨rfl,λys hy=>by rw[I.list_inj hy r];exact T⟩,l,λb j=>(hf b j).1⟩⟩
 done:=by
  intro X G Q J U i Y s Z H E I hf st R;subst G Q J;obtain⟨xs,r,T⟩:=R;obtain⟨M,B,p,hz⟩:=I.list r;obtain⟨L,F,f2,C,S,O⟩:=hf f (by simp);have hl:=B.length;exact wpAny_pyNext_list_end (I.ok.hd U) st p.isList (by simp;lia) λy eb=>⟨rfl,I.turned (t':=s.toks) (λb o j e=>eb b o j e) L F C S O⟩
 self:=λ_ _ _ _ _ st h=>wpAny_pyIter_listiter st h
def yv{P:Program}{w:World}{K:hR}{tg:Expr}(a f:Addr):Db P w K tg (S8 K a) [f] f (λi h=>h.IsTupleIter f a i) where
 mem:=by simp
 obj:=λi h st b l=>by
  have e:b=f:=by simpa using l
  subst e;obtain⟨o,e,c,d⟩:=st;exact⟨o,e,λv z=>by rw[d] at z;cases z⟩
 keep:=λi h B st k=>st.at λo e=>k f (by simp) o e
 item:=by
  intro X J Q L U i Y s Z H E I hf st R;subst J Q L;obtain⟨xs,x,y,T⟩:=R;obtain⟨j,C,p,hz⟩:=I.tuple y;obtain⟨u,hu,ru⟩:=C.get T;obtain⟨M,G,f2,F,S,O⟩:=hf f (by simp);refine wpAny_pyNext_tuple_item st (show s.heap.IsTuple a j.toArray from p) (x:=u) (by simpa using hu) λB r sb=>?_;have I1:Inv X Y Z H { s with heap:=B}:=I.turned (t':=s.toks) (λb o l e=>(sb.2 b l).trans e) M G F S O;obtain⟨o,e,c,d⟩:=id r;exact⟨u,rfl,yn (s:={ s with heap:=B}) e c d (by decide) ⟨x,H,I1,ru,⟨rfl,λys hy=>by rw[I.tuple_inj hy y];exact T⟩,r,λb l=>(hf b l).1⟩⟩
 done:=by
  intro X J Q L U i Y s Z H E I hf st R;subst J Q L;obtain⟨xs,y,T⟩:=R;obtain⟨j,C,p,hz⟩:=I.tuple y;obtain⟨M,G,f2,F,S,O⟩:=hf f (by simp);have hl:=C.length;exact wpAny_pyNext_tuple_end (I.ok.hd U) st (show s.heap.IsTuple a j.toArray from p) (by simp;lia) λB eb=>⟨rfl,I.turned (t':=s.toks) (λb o l e=>eb b o l e) M G F S O⟩
 self:=λ_ _ _ _ _ st h=>wpAny_pyIter_tupleiter st h
def yd{P:Program}{w:World}{K:hR}{S:Expr}(a:Addr)(lo:Int)(n:Nat):Db P w K S (OW lo n) [a] a (λi h=>IsRangeIter h a (lo+(i:Nat) * 1) ((n:Int) - (i:Nat)) 1) where
 mem:=by simp
 obj:=λi h st b f=>by
  have e:b=a:=by simpa using f
  subst e
  exact⟨_,st,λv z=>by
   have U:Data.fields _=Data.cell v:=z
   cases U⟩
 keep:=λi h l st k=>k a (by simp) _ st
 item:=by
  intro X B J C y i Q s Z H E I hf st L;subst B J C;obtain⟨F,u,Y,r,M,G⟩:=hf a (by simp);have W:=Walks.range (prog:=X.prog) (w:=X.w) (I.ok.hd y) a lo 1 n;refine W.item i s _ _ L st λv l O hv j kk=>?_;obtain⟨t,rfl⟩:=hv;have T:Inv X Q Z H { s with heap:=l,toks:=O}:=I.turned (λb o f e=>kk b o (by simpa using f) e) F u r M G;refine⟨_,rfl,yn (s:={ s with heap:=l,toks:=O}) (n:="range_iterator") j rfl rfl (by decide) ⟨.int (lo+i),H,T,⟨t,?_⟩,⟨rfl,rfl⟩,j,λb f=>(hf b f).1⟩⟩;rw[KU]
 done:=by
  intro X B J C y i Q s Z H E I hf st L;subst B J C;obtain⟨F,u,Y,r,M,G⟩:=hf a (by simp);exact wpAny_pyNext_range_end (I.ok.hd y) st (by have:n<=i:=L;lia) λl R=>⟨rfl,I.turned (t':=s.toks) (λb o f e=>R b o f e) F u r M G⟩
 self:=λ_ _ _ _ _ st h=>wpAny_pyIter_rangeiter st h
section
variable {X:Cx} {tg:Expr}
def LF(K:hR)(i:TE):TI:=λZ H R=>i Z H λx f=>∃a,x=.ref a/\(∃xs,SqL K f a xs)/\R (QO K a) f
def QP(K:hR)(i:TE):TI:=λZ H R=>i Z H λx f=>∃a,x=.ref a/\(∃xs,SqT K f a xs)/\R (S8 K a) f
def EB{l:Expr}{j:TE}(r:PE X l j):PI X tg l (LF X.K j):=by
 intro C s Z H R I h;refine l_ (r C s Z H _ I h) λv i ⟨x,y,f,E,q1⟩=>?_;obtain⟨a,e,⟨xs,u⟩,q⟩:=q1;subst e;cases E;obtain⟨z,F,p,G⟩:=f.list u;refine wpAny_pyIter_list p.isList ?_;refine⟨i.heap.objs.size,[i.heap.objs.size],_,_,y,rfl,f.kept (t':=i.toks) λb o e=>mz _ e,zJ a _,⟨_,wy _ rfl,rfl,rfl⟩,λb B=>?_,q⟩;have e:b=i.heap.objs.size:=by simpa using B
 subst e;exact f.fpOk (j_ _) (f.hok.fresh (j_ _))
def HJ{l:Expr}{r:TE}(u:PE X l r):PI X tg l (QP X.K r):=by
 intro C s Z H R I h;refine l_ (u C s Z H _ I h) λv f ⟨x,z,i,E,q1⟩=>?_;obtain⟨a,e,⟨xs,y⟩,q⟩:=q1;subst e;cases E;obtain⟨j,F,p,G⟩:=i.tuple y;refine wpAny_pyIter_tuple (show f.heap.IsTuple a j.toArray from p) ?_;refine⟨f.heap.objs.size,[f.heap.objs.size],_,_,z,rfl,i.kept (t':=f.toks) λb o e=>mz _ e,yv a _,⟨_,wy _ rfl,rfl,rfl⟩,λb B=>?_,q⟩;have e:b=f.heap.objs.size:=by simpa using B
 subst e;exact i.fpOk (j_ _) (i.hok.fresh (j_ _))
def B4{j:List (Addr × Obj)}{Z:St}{H:Hp}{s:Shared}{R:It->Hp->Prop}{E:Value->Shared->Prop}{lo a:Int}{t u v:Tok}{i:Nat}(I:Inv X j Z H s)(r:-(2 ^ 62)<=lo)(y:lo<2 ^ 62)(l:-(2 ^ 62)<=a)(z:a<2 ^ 62)
  (q:R (OW lo (a - lo).toNat) H):wpAny (model X.prog X.w) X.A (pyIter (.ref s.heap.objs.size)) (QN X j Z tg R) E { s with heap:=s.heap.push { cls:=.type "range",data:=.fields #[.int lo t,.int a u,.int 1 v]},toks:=i}:=by
 refine wpAny_pyIter_range (IsRange.new ..) (small_one r y l z) ?_;have f:Inv X j Z H { s with heap:=s.heap.push { cls:=.type "range",data:=.fields #[.int lo t,.int a u,.int 1 v]},toks:=i}:=I.kept λb o e=>mz _ e
 refine⟨(s.heap.push { cls:=.type "range",data:=.fields #[.int lo t,.int a u,.int 1 v]}).objs.size,[(s.heap.push { cls:=.type "range",data:=.fields #[.int lo t,.int a u,.int 1 v]}).objs.size],_,_,H,rfl,
  f.kept (t':=i) λb o e=>mz _ e,yd _ lo (a - lo).toNat,?_,λb B=>?_,q⟩
 .have e1:lo+((0:Nat):Int) * 1=lo:=by simp
  have e2:(((a - lo).toNat:Nat):Int) - ((0:Nat):Int)=Builtin.Range.rangeSize lo a 1:=by rw[rangeSize_one];split <;> lia
  show IsRangeIter _ _ (lo+((0:Nat):Int) * 1) ((((a - lo).toNat:Nat):Int) - ((0:Nat):Int)) 1;rw[e1,e2];exact wy _ rfl
 .have e:b=(s.heap.push { cls:=.type "range",data:=.fields #[.int lo t,.int a u,.int 1 v]}).objs.size:=by simpa using B
  subst e;exact f.fpOk (j_ _) (f.hok.fresh (j_ _))
def LG(f:TA):TI:=λZ H R=>f Z H λa i=>∃j:Int,a=[.int j] /\ -(2 ^ 62)<=j/\j<2 ^ 62/\R (OW 0 j.toNat) i
def At{a:Expr}{i:TA}{p f:Pos}(z:Gl X "range")(y:X.mg "range"=none)(l:PA X [a] i)(C:starEach [a] X.env=[(false,eval a X.env)]:=by rfl):PI X tg (.Call (.Name "range" p) [a] [] f) (LG i):=by
 intro E s Z H R I h;refine Call_ (jW I z y boot_range (PyProof.Rows.callWith_type1 (l_ (l f E s Z H _ I h) λL G ⟨M,J,u,F,q1⟩=>?_) C rfl));obtain⟨j,e,q1,B,q⟩:=q1;subst e
 cases F with
 | cons r rr =>
  cases rr;obtain⟨t,rfl⟩:=r;exact call_range_1 (B4 u (by lia) (by lia) q1 B (by simpa using q))
def QQ(l:TI)(g:TG)(tb:TS):TS:=λD Z H=>l Z H λJ u=>∃W:Nat->Nat->St->Hp->Prop,(∃m,W 0 m Z u)/\∀i m Z H,W i m Z H ->
 (J.stop i H/\D.nx Z H)\/(J.go i H/\∃N:St->Hp->Prop,(∀j a,N j a->∃f,f<m/\W (i+1) f j a)/\∀x a,J.yld i H x a->g x Z a λr y=>tb { D with nx:=N,ct:=N,bk:=D.nx} r y)
def lu(a:List Addr)(h:Heap):List (Addr × Obj):=a.filterMap λb=>(h.get? b).map λo=>(b,o)
def ig(a:b∈fp)(e:h.get? b=some o):(b,o)∈lu fp h:=OA.mpr ⟨b,a,by rw[e];rfl⟩
def yI(a:p∈lu fp h):p.1∈fp/\h.get? p.1=some p.2:=by
 obtain⟨b,i,e⟩:=OA.mp a
 cases q:h.get? b with
 | none=>rw[q] at e;cases e
 | some o =>
  rw[q] at e;have f:(b,o)=p:=Option.some.inj e;subst f;exact⟨i,q⟩
def Inv.pinned{f:List (Addr × Obj)}{Z:St}{H:Hp}{s:Shared}{a:List Addr}(I:Inv X f Z H s)(hf:∀b∈a,i6 X f H b)(y:∀b∈a,∃o,s.heap.get? b=some o/\∀v,o.data≠.cell v):Inv X (f++lu a s.heap) Z H s :=
 I.pins_of λp r=>(CZ.mp r).elim (λz=>I.pin p (z4 _ z)) λz=>by
  obtain⟨j,e⟩:=yI z;obtain⟨u,l,B,_⟩:=hf p.1 j;obtain⟨o,i,d⟩:=y p.1 j;rw[e] at i;cases i;exact⟨e,u,l,B,d⟩
def Inv.unpinned{Mq pl:List (Addr × Obj)}{Z:St}{H:Hp}{s:Shared}(I:Inv X (Mq++pl) Z H s):Inv X Mq Z H s:=I.pins_of λp a=>I.pin p (z4 _ (Gj _ a))
def HK(P:PassesOwn (model X.prog X.w) X.A X.env X.xe)(hc:X.calm=true)(hi:PI X tg iter wi)(hg:PG X tg g)(y:PSs X body tb)
  (hs:∀x,foldedSetIterable iter X.env x=pure x:=by intro _;rfl):PS X (.For tg iter body [] pos) (QQ wi g tb):=by
 intro F s Z H D I h;refine wpAny_For (l_ (hi F s Z H _ I h) λv s1 h1=>l_ h1 λal s2 h2=>?_) hs;obtain⟨it,R,tn,J,H2,e,I2,T,ai,f2,W,⟨m0,w0⟩,turn⟩:=h2;subst e;have a:∀{B:Hp},(∀b∈R,B b=none)->∀b∈R,i6 X F B b:=λhn b y=>⟨hn b y,(f2 b y).2⟩;refine codeAny_forLoop_any (λn s'=>∃i L B,Inv X F L B s'/\tn i s'.heap/\(∀b∈R,B b=none)/\W i n L B) ?_ m0 ⟨0,Z,H2,I2,ai,λb y=>(f2 b y).1,w0⟩;rintro n s3 ⟨i,Q,S,I3,G,O,w3⟩;rcases turn i n Q S w3 with ⟨stop,qn⟩|⟨go,N,hN,step⟩
 .refine wpAny_passesOwn P (l_ (T.done X rfl rfl rfl hc i F s3 Q S X.xe I3 (a O) G stop) λr s4 ⟨hr,I4⟩=>?_);subst hr;exact wpAny_execs_nil ⟨Q,S,I4,qn⟩
 .refine wpAny_passesOwn P (l_ (T.item X rfl rfl rfl hc i F s3 Q S X.xe I3 (a O) G go) λr s4 ⟨u,hr,h4⟩=>?_);subst hr;refine wpAny_passesOwn P (l_ h4 λ_ s5 ⟨x,H5,I5,r5,y5,E,U⟩=>?_);have Y:=I5.pinned (a U) (T.obj _ _ E);refine wpAny_passesOwn P (l_ (hg _ s5 Q H5 x u _ Y r5 (step x H5 y5)) λ_ s6 ⟨Z6,H6,I6,q6⟩=>?_);refine wpAny_passesOwn P (l_ (y _ s6 Z6 H6 _ I6 q6) λf s7 C=>?_);have again:∀{j:St} {l:Hp},Inv X (F++lu R s5.heap) j l s7->N j l->∃m,m<n/\∃i L B,Inv X F L B s7/\tn i s7.heap/\(∀b∈R,B b=none)/\W i m L B:=λ{j l} z M=>by
   obtain⟨m',hm,w7⟩:=hN j l M;refine⟨m',hm,i+1,j,l,z.unpinned,T.keep _ _ _ E λb y o e=>(z.pin (b,o) (z4 _ (z4 _ (ig y e)))).1,λb y=>?_,w7⟩;obtain⟨o,e,d⟩:=T.obj _ _ E b y;exact (z.pin (b,o) (z4 _ (z4 _ (ig y e)))).2.1
  cases f with
  | next=>obtain⟨j,l,z,M⟩:=C;exact again z M
  | cont=>obtain⟨j,l,z,M⟩:=C;exact again z M
  | brk=>obtain⟨j,l,z,C⟩:=C;exact⟨j,l,z.unpinned,C⟩
  | ret v=>obtain⟨x7,j,l,z,r7,C⟩:=C;exact⟨x7,j,l,z.unpinned,r7,C⟩
end
abbrev R2:=V->V->Hp->VK->Prop
def OpR(X:Cx)(f:Value->Value->Sem Value)(r:R2):Prop :=
 ∀(a:List (Addr × Obj)) (s:Shared) (Z:St) (H:Hp) (x y:V) (v u:Value) (Q:VK),Inv X a Z H s->aS x v->aS y u->r x y H Q ->
  wpAny (model X.prog X.w) X.A (f v u) (EP X a Z Q) X.xe s
def OX(X:Cx)(f:Value->Sem Value)(r:V->Hp->VK->Prop):Prop :=
 ∀(a:List (Addr × Obj)) (s:Shared) (Z:St) (H:Hp) (x:V) (v:Value) (Q:VK),Inv X a Z H s->aS x v->r x H Q ->
  wpAny (model X.prog X.w) X.A (f v) (EP X a Z Q) X.xe s
def dY(X:Cx)(f:Value)(r:List V->Hp->VK->Prop):Prop :=
 ∀(a:List (Addr × Obj)) (s:Shared) (Z:St) (H:Hp) (xs:List V) (i:List Value) (Q:VK),Inv X a Z H s->aJ xs i->r xs H Q ->
  wpAny (model X.prog X.w) X.A (call f i) (EP X a Z Q) X.xe s
def QR(X:Cx)(r:V->Hp->(Bool->Hp->Prop)->Prop):Prop :=
 ∀(a:List (Addr × Obj)) (s:Shared) (Z:St) (H:Hp) (x:V) (v:Value) (Q:Bool->Hp->Prop),Inv X a Z H s->aS x v->r x H Q ->
  wpAny (model X.prog X.w) X.A (truthy v) (TP X a Z Q) X.xe s
def LH(r:R2)(a tb:TE):TE:=λZ H Q=>a Z H λx f=>tb Z f λy i=>r x y i Q
def T4(r:V->Hp->VK->Prop)(a:TE):TE:=λZ H Q=>a Z H λx f=>r x f Q
def rI(C:Int->Int->Prop)(g:Int->Int->V):R2:=λx y H Q=>∃i j,x=.int i/\y=.int j/\C i j/\Q (g i j) H
def Gp(g:Int->Int->V):R2:=λx y H Q=>∃i j,x=.int i/\y=.int j/\Q (g i j) H
def rU(g:Int->V):V->Hp->VK->Prop:=λx H Q=>∃i,x=.int i/\Q (g i) H
section
variable {X:Cx} {a b c:Expr} {ta tb tc:TE} {pos:Pos}
def HL(C:PE X a ta)(M:PE X b tb){z:List (Addr × Obj)}{s:Shared}{Z:St}{H:Hp}{R:V->V->Hp->Prop}(I:Inv X z Z H s)
  (h:ta Z H λx B=>tb Z B λy i=>R x y i) {Q:Value->Shared->Prop} {f:Value->Value->Sem Value}
  (hf:∀v u r x y i,Inv X z Z i r->aS x v->aS y u->R x y i->wpAny (model X.prog X.w) X.A (f v u) Q X.xe r) :
  wpAny (model X.prog X.w) X.A (eval a X.env) (λv j=>wpAny (model X.prog X.w) X.A (eval b X.env) (λu l=>wpAny (model X.prog X.w) X.A (f v u) Q X.xe l) X.xe j) X.xe s:=by
 refine l_ (C z s Z H _ I h) λv F ⟨x,B,E,O,q1⟩=>?_;refine l_ (M z F Z B _ E q1) λu r ⟨y,i,L,G,J⟩=>?_;exact hf v u r x y i L O G J
def LI{f:Operator}{r:R2}(B:OpR X (binaryOp f) r)(i:PE X a ta)(F:PE X b tb):PE X (.BinOp a f b pos) (LH r ta tb):=by
 intro G s Z H Q I h;exact wpAny_BinOp (HL i F I h λv u C x y z E l j q=>B G C Z z x y v u Q E l j q)
def LJ(i:OX X (unaryOp op) r)(u:PE X a ta):PE X (.UnaryOp op a pos) (T4 r ta):=by
 intro f s Z H Q I h;exact UnaryOp_ (l_ (u f s Z H _ I h) λv z ⟨x,l,j,y,q1⟩=>i f z Z l x v Q j y q1)
def T5{f:Value->Value->Sem Value}{C:Int->Int->Prop}{g:Int->Int->Int}
  (rule:∀(i j:Int) (t u:Tok) (s:Shared) (Q:Value->Shared->Prop) (E:Value->Shared->Prop),C i j->Q (.int (g i j) s.toks) { s with toks:=s.toks+1}->wpAny (model X.prog X.w) X.A (f (.int i t) (.int j u)) Q E s) :
  OpR X f (rI C λi j=>.int (g i j)):=by
 intro F s Z H x y v u Q I z l h;obtain⟨i,j,rfl,rfl,r,q⟩:=h;obtain⟨t,rfl⟩:=z;obtain⟨B,rfl⟩:=l;exact rule i j t B s _ _ r ⟨.int (g i j),H,I.tok _,⟨_,rfl⟩,q⟩
def LK{f:Value->Value->Sem Value}{g:Int->Int->Int}
  (rule:∀(i j:Int) (t u:Tok) (s:Shared) (Q:Value->Shared->Prop) (E:Value->Shared->Prop),Q (.int (g i j) s.toks) { s with toks:=s.toks+1}->wpAny (model X.prog X.w) X.A (f (.int i t) (.int j u)) Q E s) :
  OpR X f (Gp λi j=>.int (g i j)):=by
 intro B s Z H x y v u Q I r l h;obtain⟨i,j,rfl,rfl,q⟩:=h;obtain⟨t,rfl⟩:=r;obtain⟨z,rfl⟩:=l;exact rule i j t z s _ _ ⟨.int (g i j),H,I.tok _,⟨_,rfl⟩,q⟩
def HM{f:Value->Value->Sem Value}{g:Int->Int->Bool}
  (rule:∀(i j:Int) (t u:Tok) (s:Shared) (Q:Value->Shared->Prop) (E:Value->Shared->Prop),Q (.bool (g i j)) s->wpAny (model X.prog X.w) X.A (f (.int i t) (.int j u)) Q E s) :
  OpR X f (Gp λi j=>.bl (g i j)):=by
 intro B s Z H x y v u Q I r l h;obtain⟨i,j,rfl,rfl,q⟩:=h;obtain⟨t,rfl⟩:=r;obtain⟨z,rfl⟩:=l;exact rule i j t z s _ _ ⟨.bl (g i j),H,I,rfl,q⟩
def gv(i j:Int):Prop:=0<=j/\j<=1000000/\i.natAbs<2 ^ 64
def HN:OpR X (binaryOp .Add) (Gp λi j=>.int (i+j)):=LK λ_ _ _ _ _ _ _ q=>add_int q
def HP:OpR X (binaryOp .Sub) (Gp λi j=>.int (i - j)):=LK λ_ _ _ _ _ _ _ q=>sub_int q
def HQ:OpR X (binaryOp .Pow) (rI gv λi j=>.int (i ^ j.toNat)):=T5 λ_ _ _ _ _ _ _ f q=>pow_int_small f.1 f.2.1 f.2.2 q
def T6{f:Value->Sem Value}{g:Int->Int}
  (rule:∀(i:Int) (t:Tok) (s:Shared) (Q:Value->Shared->Prop) (E:Value->Shared->Prop),Q (.int (g i) s.toks) { s with toks:=s.toks+1}->wpAny (model X.prog X.w) X.A (f (.int i t)) Q E s) :
  OX X f (rU λi=>.int (g i)):=by
 intro l s Z H x v Q I j h;obtain⟨i,rfl,q⟩:=h;obtain⟨t,rfl⟩:=j;exact rule i t s _ _ ⟨.int (g i),H,I.tok _,⟨_,rfl⟩,q⟩
def HR:OX X (unaryOp .USub) (rU λi=>.int (-i)):=T6 λ_ _ _ _ _ q=>neg_int q
def LL:OpR X (compareOp .Lt) (Gp λi j=>.bl (decide (i<j))):=HM λ_ _ _ _ _ _ _ q=>lt_int q
def LM:OpR X (compareOp .Gt) (Gp λi j=>.bl (decide (j<i))):=HM λ_ _ _ _ _ _ _ q=>gt_int q
def LN:OpR X (compareOp .GtE) (Gp λi j=>.bl (decide (j<=i))):=HM λ_ _ _ _ _ _ _ q=>ge_int q
def Dc(b:Expr)(h:op≠.In:=by decide)(f:op≠.NotIn:=by decide):behindInMarks op b=false:=by
 have e1:(op == CmpOp.In)=false:=by cases op <;> first | rfl | exact absurd rfl h
 have e2:(op == CmpOp.NotIn)=false:=by cases op <;> first | rfl | exact absurd rfl f
 cases b <;> simp[behindInMarks,e1,e2]
def EC{f:CmpOp}{r:R2}(C:OpR X (compareOp f) r)(i:PE X a ta)(G:PE X b tb)(B:behindInMarks f b=false):PE X (.Compare a [f] [b] pos) (LH r ta tb):=by
 intro J s Z H Q I h;exact wpAny_Compare1 (HL i G I h λv u E x y z F l j q=>C J E Z z x y v u Q F l j q) B
def LO(t:TE):TT:=λZ H Q=>t Z H λx f=>∃k,x=.bl k/\Q k f
def ED(P:OpR X (compareOp op) r)(i:PE X a ta)(T:PE X b tb)(G:behindInMarks op b=false):PT X (.Compare a [op] [b] pos) (LO (LH r ta tb)):=by
 intro f s Z H Q I h
 refine wpAny_isTrue_Compare1 (l_ (i f s Z H _ I h) λv L ⟨x,J,l,U,q1⟩=>l_ (T f L Z J _ l q1) λu R ⟨y,B,S,M,O⟩ =>
  l_ (P f R Z B x y v u _ S U M O) λc Y ⟨z,E,j,F,k,e,C⟩=>?_) G
 subst e;cases F;exact wpAny_truthy_bool ⟨E,j,C⟩
def LP(K:hR)(x:V)(H:Hp)(k:Bool):Prop :=
 match x with
 | .non=>k=false
 | .bl b=>k=b
 | .int i=>k=(i != 0)
 | .str y=>y.length<=sizeLine/\k=((y.length:Int) != 0)
 | .byt y=>y.size<=sizeLine/\k=((y.size:Int) != 0)
 | .ref p=>(∃xs,SqL K H p xs/\k=!xs.isEmpty)\/(∃xs,SqT K H p xs/\k=!xs.isEmpty)\/∃f,H p=some (.dK f)/\k=!f.isEmpty
 | _=>False
def xn{κ:Type}{f:List (κ × V)}{i:List (κ × Value)}(r:KV f i):(!i.isEmpty)=!f.isEmpty:=by
 cases r <;> rfl
def pc(r:aJ xs its):(!its.toArray.isEmpty)=!xs.isEmpty:=by
 cases r <;> simp
def jL:(sizeLine:Nat)<2 ^ 63:=by rw[sizeLine_eq];decide
def ut:QR X (λx H Q=>∃k,LP X.K x H k/\Q k H):=by
 intro M s Z H x v Q I u h;obtain⟨k,e,q⟩:=h;have J:=jL;have L:sizeLine=16777216:=sizeLine_eq
 cases x with
 | non =>
  cases u;have f:k=false:=e;subst f;exact truthy_none ⟨H,I,q⟩
 | bl b =>
  cases u;have f:k=b:=e;subst f;exact wpAny_truthy_bool ⟨H,I,q⟩
 | int i =>
  obtain⟨t,rfl⟩:=u;have f:k=(i != 0):=e;subst f;exact PySem.P.truthy_int ⟨H,I,q⟩
 | str y =>
  obtain⟨t,rfl⟩:=u;obtain⟨G,f⟩:y.length<=sizeLine/\k=((y.length:Int) != 0):=e;subst f;exact PySem.P.truthy_str (by lia) ⟨H,I.tok _,q⟩
 | byt y =>
  obtain⟨t,rfl⟩:=u;obtain⟨G,f⟩:y.size<=sizeLine/\k=((y.size:Int) != 0):=e;subst f;exact PySem.W.truthy_bytes (by lia) ⟨H,I.tok _,q⟩
 | ref p =>
  cases u;have f:(∃xs,SqL X.K H p xs/\k=!xs.isEmpty)\/(∃xs,SqT X.K H p xs/\k=!xs.isEmpty)\/∃j,H p=some (.dK j)/\k=!j.isEmpty:=e;rcases f with ⟨xs,z,f⟩|⟨xs,z,f⟩|⟨j,z,f⟩
  .subst f;obtain⟨C,r,pl,E⟩:=I.list z;have l:=r.length;exact wpAny_truthy_list pl.isList (by simp only[u0];lia) ⟨H,I.tok _,by rw[pc r];exact q⟩
  .subst f;obtain⟨C,r,pl,E⟩:=I.tuple z;have l:=r.length;exact truthy_tuple pl (by simp only[u0];lia) ⟨H,I.tok _,by rw[pc r];exact q⟩
  .subst f;obtain⟨E,F,B,r,m⟩:j.length<=sizeLine/\(p == sysModules)=false/\∃B,KV j B/\s.heap.DictOf (cX X.prog X.w) p B:=I.hok p _ z;have l:j.length=B.length:=Paired.length r;exact wpAny_truthy_dict F m (by lia) ⟨H,I.tok _,by rw[xn r];exact q⟩
 | _=>exact (show False from e).elim
def Bs(l:PE X a ta)(r:∀f,isTrue a X.env f=(do let v <-f;standAt a.pos;holding [v] (truthy v))) :
  PT X a (λZ H Q=>ta Z H λx i=>∃k,LP X.K x i k/\Q k i):=by
 intro j s Z H Q I h;exact isTrue_plain (l_ (l j s Z H _ I h) λv z ⟨x,y,u,B,q1⟩=>ut j z Z y x v Q u B q1) (r _)
def yf:OpR X (binaryOp .Add) (λx y H Q=>∃i j,x=.str i/\y=.str j/\i.length+j.length<=sizeLine/\Q (.str (i++j)) H):=by
 intro C s Z H x y v u Q I l f h;obtain⟨i,j,rfl,rfl,r,q⟩:=h;obtain⟨t,rfl⟩:=l;obtain⟨z,rfl⟩:=f;exact add_str (λz B=>⟨.str (i++j),H,I.tok _,⟨_,rfl⟩,q⟩) r
def gE(r:aJ [x] us):∃u,us=[u]/\aS x u:=by
 cases r with
 | cons i f=>cases f;exact⟨_,rfl,i⟩
def vals2(r:aJ [x,y] us):∃u f,us=[u,f]/\aS x u/\aS y f:=by
 cases r with
 | cons z i =>
  cases i with
  | cons j l=>cases l;exact⟨_,_,rfl,z,j⟩
def Co:dY X (.builtin "abs") (λxs H Q=>∃i,xs=[.int i]/\Q (.int (if i<0 then -i else i)) H):=by
 intro l s Z H xs f Q I r h;obtain⟨i,rfl,q⟩:=h;obtain⟨u,rfl,t,rfl⟩:=gE r;exact call_abs_int λu j=>⟨.int (if i<0 then -i else i),H,I.tok _,⟨_,rfl⟩,q⟩
def yN(l:X.calm=true):dY X (.builtin "min") (λxs H Q=>∃i j,xs=[.int i,.int j]/\Q (.int (if j<i then j else i)) H):=by
 intro E s Z H xs B Q I r h;obtain⟨i,j,rfl,q⟩:=h;obtain⟨u,y,rfl,⟨t,rfl⟩,⟨C,rfl⟩⟩:=vals2 r;refine min_two_ints (I.ok.hd l) λF z k=>⟨_,H,I.kept k,?_,q⟩;by_cases f:j<i
 .rw[d_ f,d_ f];exact⟨_,rfl⟩
 .rw[g_ f,g_ f];exact⟨_,rfl⟩
def qv:dY X (.type "int") (λxs H Q=>(∃i,xs=[.int i]/\Q (.int i) H)\/∃k,xs=[.bl k]/\Q (.int (if k then 1 else 0)) H):=by
 intro l s Z H xs j Q I r h;rcases h with ⟨i,rfl,q⟩|⟨k,rfl,q⟩
 .obtain⟨u,rfl,t,rfl⟩:=gE r;exact call_int_int ⟨.int i,H,I,⟨_,rfl⟩,q⟩
 .obtain⟨u,rfl,f⟩:=gE r;cases f;exact call_int_bool ⟨.int (if k then 1 else 0),H,I.tok _,⟨_,rfl⟩,q⟩
def QS(K:hR)(x:V)(H:Hp)(n:Nat):Prop :=
 match x with
 | .str y=>y.length<=sizeLine/\n=y.length
 | .byt y=>y.size<=sizeLine/\n=y.size
 | .ref p=>(∃xs,SqL K H p xs/\n=xs.length)\/∃xs,SqT K H p xs/\n=xs.length
 | _=>False
def kn:dY X (.builtin "len") (λxs H Q=>∃x n,xs=[x]/\QS X.K x H n/\Q (.int n) H):=by
 intro L s Z H xs G Q I r h;obtain⟨x,n,rfl,e,q⟩:=h;obtain⟨u,rfl,j⟩:=gE r;have F:=jL;have J:sizeLine=16777216:=sizeLine_eq
 cases x with
 | str y =>
  obtain⟨t,rfl⟩:=j;obtain⟨E,i⟩:y.length<=sizeLine/\n=y.length:=e;subst i;exact len_str (by lia) ⟨.int _,H,I.tok _,⟨_,rfl⟩,q⟩
 | byt y =>
  obtain⟨t,rfl⟩:=j;obtain⟨E,i⟩:y.size<=sizeLine/\n=y.size:=e;subst i;exact PySem.W.len_bytes (by lia) ⟨.int _,H,I.tok _,⟨_,rfl⟩,q⟩
 | ref p =>
  cases j;have i:(∃xs,SqL X.K H p xs/\n=xs.length)\/∃xs,SqT X.K H p xs/\n=xs.length:=e;rcases i with ⟨xs,B,i⟩|⟨xs,B,i⟩
  .subst i;obtain⟨z,l,pl,C⟩:=I.list B;have f:=l.length;exact Calls.call_len_list pl.isList (by simp only[u0];lia) ⟨.int xs.length,H,I.tok _,⟨_,by simp only[u0];rw[f]⟩,q⟩
  .subst i;obtain⟨z,l,pl,C⟩:=I.tuple B;have f:=l.length;exact len_tuple pl (by simp only[u0];lia) ⟨.int xs.length,H,I.tok _,⟨_,by simp only[u0];rw[f]⟩,q⟩
 | _=>exact (show False from e).elim
end
section
variable {prog:Program} {w:World} {A:Around} {E:Value->Shared->Prop} {s:Shared} {K:hR} {x dx C f:Addr} {mA:Str->Option Value} {name:Str} {v:Value}
end
def gZ.some_of(r:gZ (some v) o):∃u,o=some u/\aS v u:=by
 cases o with
 | none=>exact (show False from r).elim
 | some u=>exact⟨u,rfl,r⟩
def gZ.none_of(r:gZ none o):o=none:=by
 cases o with
 | none=>rfl
 | some u=>exact (show False from r).elim
section
variable {P:Program} {w:World} {H H':Hp} {h h':Heap} {a C dx:Addr} {fs fs':List (Str × V)}
end
section
variable {X:Cx} {Mq:List (Addr × Obj)} {Z:St} {H:Hp} {s:Shared} {a C dx:Addr} {fs:List (Str × V)} {f:Str} {v:V} {A:Around} {E:Value->Shared->Prop}
end
section
variable {X:Cx} {o e value:Expr} {f:Str} {pos pos' tpos:Pos} {ta tv:TE}
end
section
variable {X:Cx} {Mq:List (Addr × Obj)} {Z:St} {H:Hp} {s:Shared} {A:Around} {E:Value->Shared->Prop} {Q:Value->Shared->Prop} {c:Value} {b:Bool}
end
structure Room (k:Nat) (A:Around):Prop where
 hd:A.handled=none
 dp:A.depth+3 * k+105<recursionLimit
 un:A.units+16 * k+200<cLine
 gd:A.guards=some []
def Room.mono(r:Room k A)(h:j<=k):Room j A:=⟨r.hd,by have:=r.dp;lia,by have:=r.un;lia,r.gd⟩
def Room.deeper(r:Room (k+1) A)(env:Env):Room k (A.deeper env) :=
 ⟨r.hd,by have:=r.dp;show A.depth+1+3 * k+105<_;lia,by have:=r.un;show A.units+3+16 * k+200<_;lia,r.gd⟩
def Room.depth(r:Room k A):A.depth<recursionLimit:=by have:=r.dp;lia
def Room.units(r:Room k A):A.units+64<cLine:=by have:=r.un;lia
def QT:TA:=λ_ H Q=>Q [] H
def LQ(f:TE)(a:TA):TA:=λZ H Q=>f Z H λx i=>a Z i λxs j=>Q (x::xs) j
section
variable {X:Cx} {e:Expr} {es:List Expr} {te:TE} {t:TA} {pos:Pos}
def tN:PA X [] QT:=λ_ _ _ _ H Q I h=>Calls.spliced_nil ⟨[],H,I,.nil,h⟩
def mN(f:PE X e te)(B:PA X es t)(C:starEach (e::es) X.env=(false,eval e X.env)::starEach es X.env:=by rfl):PA X (e::es) (LQ te t):=by
 intro pos a s Z H Q I h;rw[C];show wpAny _ _ (spliced ((false,eval e X.env)::backTo pos (starEach es X.env))) _ _ s;refine Calls.spliced_cons (l_ (f a s Z H _ I h) λu r ⟨x,l,i,F,q1⟩=>?_);exact l_ (B pos a r Z l _ i q1) λG J ⟨xs,j,E,y,z⟩=>⟨x::xs,j,E,.cons F y,z⟩
def QU(t:TA):TE:=λZ H Q=>t Z H λxs a=>xs.length<=sizeLine/\∀p,a p=none->Q (.ref p) (m_ a p (.tup xs))
def QV(t:TA):TE:=λZ H Q=>t Z H λxs a=>xs.length<=sizeLine/\∀p,a p=none->Q (.ref p) (m_ a p (.lst xs))
def HS{x1}(h:PA X es t):PE X (.Tuple es x1 pos) (QU t):=by
 intro y s Z H Q I j;refine wpAny_Tuple_spliced (l_ (h pos y s Z H _ I j) λl a ⟨xs,i,f,r,z,q⟩=>⟨by rw[<-r.length];exact z,?_⟩);have hf:i a.heap.objs.size=none:=f.hok.fresh (j_ _);refine⟨.ref a.heap.objs.size,m_ i a.heap.objs.size (.tup xs),f.laid (t':=a.toks) (λb u e=>mz _ e) (j_ _) ?_,rfl,q _ hf⟩;exact⟨z,l,r,⟨_,wy _ rfl,rfl,⟨_,rfl⟩,rfl⟩⟩
def HU(h:PA X es t):PE X (.List es pos) (QV t):=by
 intro y s Z H Q I j;refine wpAny_List_spliced (l_ (h pos y s Z H _ I j) λl a ⟨xs,i,f,r,z,q⟩=>⟨by rw[<-r.length];exact z,?_⟩);have hf:i a.heap.objs.size=none:=f.hok.fresh (j_ _);refine⟨.ref a.heap.objs.size,m_ i a.heap.objs.size (.lst xs),f.laid (t':=a.toks) (λb u e=>mz _ e) (j_ _) ?_,rfl,q _ hf⟩;exact⟨z,l,0,r,wy _ rfl⟩
end
abbrev Sp:=List V->Hp->VK->XK->Prop
abbrev DD:=List Env->Hp->Shared->XK->Value->Shared->Prop
structure EF (P:Program) (w:World) (K:hR) (mg:Str->Option Value) (base:Heap) (A:Around) (outer:List Env) (s:Shared) (H:Hp):Prop where
 frames:A.frames=some outer
 mod:Mod K mg base
 bs:∀b o,base.get? b=some o->s.heap.get? b=some o/\H b=none
 bsz:base.objs.size<=s.heap.objs.size
 funs:s.heap.FunFrames base outer
 frf:∀b∈Bz outer,H b=none
 hok:HOk P w H s.heap
 bare:AllBare s.gens
 tree:P.given.tree=none
inductive CE (outer:List Env) (P:Program) (w:World) (H:Hp) (s:Shared) (Q:VK) (u:Value) (s':Shared):Prop
 | mk (v:V) (H':Hp) (o:s'.os=s.os) (b:AllBare s'.gens) (n:Un (Bz outer) [] H H' s.heap s'.heap) (k:HOk P w H' s'.heap) (r:aS v u) (q:Q v H'):CE outer P w H s Q u s'
def CR(f:DD)(outer:List Env)(P:Program)(w:World)(H:Hp)(s:Shared)(Q:VK)(E:XK)(r:Result)(a:Shared):Prop :=
 match r with
 | .ok (.ret u)=>CE outer P w H s Q u a
 | .ok _=>False
 | .error e=>f outer H s E e a
structure FnOk (P:Program) (w:World) (K:hR) (mg:Str->Option Value) (base:Heap) (CX:DD) (k:Nat) (f:Addr) (fd:FuncData) (ps:List Str) (sp:Sp):Prop where
 len:∀vs H Q E,sp vs H Q E->vs.length=ps.length
 run:∀(A:Around) (outer:List Env) (s:Shared) (H:Hp) (args:Args) (us:List Value) (vs:List V) (Q:VK) (E:XK),Room k A->EF P w K mg base A outer s H->BindsTo s fd args (ps.zip us)->aJ vs us->sp vs H Q E ->
  codeAny (model P w) A (.call (.ref f) args) (CR CX outer P w H s Q E) s
def FnOk.mono{P:Program}{w:World}{K:hR}{mg:Str->Option Value}{base:Heap}{l:DD}{j k:Nat}{f:Addr}{fd:FuncData}{ps:List Str}{i:Sp}(F:FnOk P w K mg base l j f fd ps i)(h:j<=k) :
  FnOk P w K mg base l k f fd ps i:=⟨F.len,λA outer s H a r y Q E u=>F.run A outer s H a r y Q E (u.mono h)⟩
def FnOk.imp{P:Program}{w:World}{K:hR}{mg:Str->Option Value}{base:Heap}{r:DD}{k:Nat}{f:Addr}{fd:FuncData}{ps:List Str}{l j:Sp}(F:FnOk P w K mg base r k f fd ps l)
  (h:∀a H Q E,j a H Q E->l a H Q E):FnOk P w K mg base r k f fd ps j :=
 ⟨λa H Q E q=>F.len a H Q E (h _ _ _ _ q),λA outer s H i y a Q E z u C hv B=>F.run A outer s H i y a Q E z u C hv (h _ _ _ _ B)⟩
section
variable {X:Cx} {Mq:List (Addr × Obj)} {Z:St} {H:Hp} {s s':Shared}
def Inv.env0(I:Inv X Mq Z H s):EF X.prog X.w X.K X.mg X.base X.A X.stack s H :=
 ⟨I.ok.frames,I.ok.mod,I.bs,yi I.ok.bsz I.sz,I.stack,I.stkFree,I.hok,I.bare,I.ok.tree⟩
def Inv.after(I:Inv X Mq Z H s)(h:CE X.stack X.prog X.w H s Q u s'):EP X Mq Z Q u s':=by
 obtain⟨v,f,os,bare,un,hok,r,q⟩:=h;obtain⟨i,g,d,t,a⟩:=s';obtain rfl:a=s.os:=os;exact⟨v,f,I.call (h':=i) (g':=g) (d':=d) (t':=t) (ch:=[]) un hok bare (λb z=>absurd z (by simp)),r,q⟩
end
def oC(K:hR)(fd:FuncData)(ps:List Str)(f:List Value):Prop :=
 ∀(s:Shared) (a:List Value),K.In s.heap->(a++f).length=ps.length->BindsTo s fd ⟨a,[]⟩ (ps.zip (a++f))
def oC.all{K:hR}{fd:FuncData}{ps:List Str}(h:∀a:List Value,a.length=ps.length->bindArgs fd ⟨a,[]⟩=pure (ps.zip a)):oC K fd ps []:=λs a _ f=>by
 rw[DC] at f ⊢;exact .of_eq (h a f)
section
variable {X:Cx} {CX:DD} {k:Nat} {f C:Addr} {fd:FuncData} {ps:List Str} {sp:Sp} {dvs:List V} {ds:List Value} {E:XK} {x m:Str} {p pos apos:Pos} {e o:Expr} {es:List Expr} {ta:TE} {t:TA}
end
section
variable {X:Cx} {CX:DD} {k:Nat} {f C:Addr} {fd:FuncData} {ps ks:List Str} {sp:Sp} {E:XK} {x m:Str} {p pos apos kpos:Pos} {e o:Expr} {es:List Expr} {kws:List Keyword} {te ta:TE} {t tk:TA} {nm:Option Str} {g:List Value->List Value->List Value} {gV:List V->List V->List V}
end
structure u_ (N P:List Str) (sc:Scope):Prop where
 kind:sc.kind=.function
 co:sc.isCoroutine=false
 gen:sc.isGenerator=false
 nd:N.Nodup
 pre:N.take P.length=P
 par:∀x∈P,sc.names.lookup x=some .local\/sc.names.lookup x=some .cell
 nofree:∀y∈sc.names,y.2≠.free
def qT{kindOf:Str->Option NameKind}{x:Str}:∀{binds:List (Str × Value)} {m:Str->Option Value},(∀v,(x,v)∉binds)->bindL kindOf binds m x=m x
 | [],_,_=>rfl
 | (n,v)::r,m,h=>by
  unfold bindL;rw[qT λw a=>h w (m1 _ a)];split
  .have:x≠n:=by rintro rfl;exact h v CY
   simp[this]
  .rfl
def qN{kindOf:Str->Option NameKind}{x:Str}:∀{binds:List (Str × Value)} {m:Str->Option Value},(∀v,(x,v)∉binds)->bindC kindOf binds m x=m x
 | [],_,_=>rfl
 | (n,v)::r,m,h=>by
  unfold bindC;rw[qN λw a=>h w (m1 _ a)];split
  .rfl
  .have:x≠n:=by rintro rfl;exact h v CY
   simp[this]
def qy{kindOf:Str->Option NameKind}{x:Str}{v:Value}:∀{P:List Str} {a:List Value} {i:Nat} {m:Str->Option Value},P.Nodup->P[i]?=some x->a[i]?=some v->kindOf x=some .local ->
  bindL kindOf (P.zip a) m x=some v
 | [],_,_,_,_,h,_,_=>by simp at h
 | _::_,[],_,_,_,_,h,_=>by simp at h
 | p::P,w::a,0,m,nd,f,j,l=>by
  simp at f j;subst f;subst j;show bindL kindOf ((p,w)::P.zip a) m p=_;unfold bindL;rw[qT λv hv=>(CU.mp nd).1 (DI hv).1,d_ l];simp
 | p::P,w::a,i+1,m,nd,f,j,l=>by
  show bindL kindOf ((p,w)::P.zip a) m x=_;unfold bindL;exact qy (i:=i) (CU.mp nd).2 (by simpa using f) (by simpa using j) l
def qI{kindOf:Str->Option NameKind}{x:Str}{v:Value}:∀{P:List Str} {a:List Value} {i:Nat} {m:Str->Option Value},P.Nodup->P[i]?=some x->a[i]?=some v->kindOf x≠some .local ->
  bindC kindOf (P.zip a) m x=some v
 | [],_,_,_,_,h,_,_=>by simp at h
 | _::_,[],_,_,_,_,h,_=>by simp at h
 | p::P,w::a,0,m,nd,f,j,l=>by
  simp at f j;subst f;subst j;show bindC kindOf ((p,w)::P.zip a) m p=_;unfold bindC;rw[qN λv hv=>(CU.mp nd).1 (DI hv).1,g_ l];simp
 | p::P,w::a,i+1,m,nd,f,j,l=>by
  show bindC kindOf ((p,w)::P.zip a) m x=_;unfold bindC;exact qI (i:=i) (CU.mp nd).2 (by simpa using f) (by simpa using j) l
def start(N:List Str)(a:List V):St:=a.map some++List.replicate (N.length - a.length) none
def sy(r:DD)(P:Program)(w:World)(K:hR)(mg:Str->Option Value)(base:Heap)(N:List Str)(i:Str)(a:Scope)(f:Addr)(l:Value)(A:Around)(outer:List Env)(s:Shared)(H:Hp)(E:XK):Cx where
 prog:=P
 w:=w
 K:=K
 mg:=mg
 base:=base
 A:=A.deeper (envOfC i a s.heap.objs.size f l)
 N:=N
 s₀:=s
 H₀:=H
 env:=envOfC i a s.heap.objs.size f l
 outer:=outer
 stack:=envOfC i a s.heap.objs.size f l::outer
 ex:=[]
 calm:=true
 fn:=λ_=>true
 pn:=[]
 xe:=λe u=>wpAny (model P w) (A.deeper (envOfC i a s.heap.objs.size f l)) (leaving (envOfC i a s.heap.objs.size f l) e) (λ_ j=>r outer H s E e j) (λy j=>r outer H s E y j) u
def uQ{a:Scope}{n:Nat}{x:Str}(h:a.names.lookup x=some .cell):∃c,(cellsFrom n a.names []).lookup x=some c:=by
 have q:=PySem.W.cellsFrom_some a.names n [] (.inl h);exact Option.isSome_iff_exists.mp q
def zO{T:DD}{P:Program}{w:World}{K:hR}{mg:Str->Option Value}{base:Heap}{N ps:List Str}{l:Str}{j:Scope}{f:Addr}{Q:Value}{A:Around}{outer:List Env}{s U:Shared}{H:Hp}{E:XK}{R:List Value}{I:List V}
  (S:u_ N ps j) (hd:A.handled=none) (C:EF P w K mg base A outer s H) (hl:I.length=ps.length) (r:aJ I R)
  (x:InCallC s s.heap.objs.size (bindL (envOfC l j s.heap.objs.size f Q).kindOf (ps.zip R) λ_=>none) (cellsFrom (s.heap.objs.size+1) j.names []) (bindC (envOfC l j s.heap.objs.size f Q).kindOf (ps.zip R) λ_=>none) U) :
  Inv (sy T P w K mg base N l j f Q A outer s H E) [] (start N I) H U:=by
 have ai:ps.length<=N.length:=by have:=congrArg List.length S.pre;rw[Er] at this;lia
 obtain⟨O,tk,rfl,Y⟩:=x.done;have F:∀b:Addr,b∉(sy T P w K mg base N l j f Q A outer s H E).ex:=λb z=>absurd (show b∈([]:List Addr) from z) (by simp)
 refine⟨⟨C.mod,S.kind,rfl,rfl,j_ _,λy z c O B=>?_,λy G=>?_,λy c _ h=>?_,λ_=>hd,Around.frames_deeper C.frames,.inr ⟨rfl,rfl⟩,λb z=>absurd z (F b),C.bs,C.bsz,λb _ _=>F b,λb z=>absurd z (F b),C.funs,C.frf,C.tree,⟨_,_,rfl,S.gen,S.co,rfl,rfl⟩⟩,
  rfl,C.bare,Un.kept Y,⟨_,x.toInCall.ns,λi y v O B h3=>?_⟩,λy c h=>⟨_,x.cell y c h⟩,C.hok.fresh (j_ _),λy c h=>?_,λp L=>absurd (show p∈([]:List (Addr × Obj)) from L) (by simp),C.hok.kept Y,?_⟩
 .exact name_of_addr x.apart (PySem.mem_of_lookup O) (PySem.mem_of_lookup B)
 .have G:j.names.lookup y=some .cell\/j.names.lookup y=some .free:=G;rcases G with G|G
  .exact uQ G
  .exact absurd rfl (S.nofree _ (PySem.mem_of_lookup G))
 .exact Dm (x.above y c (PySem.mem_of_lookup h))
 .have M:i<I.length:=by
   unfold start at B;by_cases M:i<I.length
   .exact M
   .rw[C5 (by simpa using M)] at B;rw[He] at B
    split at B <;> cases B
  have ha:I[i]?=some v:=by
   unfold start at B;rw[xu (by simpa using M),tt] at B
   cases e:I[i]? with
   | none=>rw[e] at B;cases B
   | some a=>rw[e] at B;cases B;rfl
  obtain⟨u,X,Z⟩:=r.get ha;have L:ps[i]?=some y:=by
   rw[<-S.pre,List.getElem?_take_of_lt (by lia)];exact O
  have J:ps.Nodup:=by rw[<-S.pre];exact S.nd.sublist (List.take_sublist _ _)
  refine⟨u,Z,?_⟩;rcases S.par y (Ee L) with k|k
  .exact .inl ⟨k,qy J L X k⟩
  .obtain⟨c,e⟩:=uQ (n:=s.heap.objs.size+1) k;refine .inr ⟨.inl k,c,e,?_⟩;have q:=x.cell y c e;rw[qI J L X (by show j.names.lookup y≠_;rw[k];decide)] at q;exact q
 .exact C.hok.fresh (Dm (x.above y c (PySem.mem_of_lookup h)))
 .unfold start;show _=N.length;rw[Dj,oI,Ld];lia
def LR{U:DD}{P:Program}{w:World}{K:hR}{mg:Str->Option Value}{base:Heap}{k:Nat}{f:Addr}{F i:Str}{l:Arguments}{z:List Stmt}{a:Scope}{dV kV T pm j ct oc:Value}{an od:Option Addr}
  {Z:Array (Option Value)} {N ps:List Str} {sp:Sp} (lk:K.lookup f=some ⟨oc,od,.func (PySem.W.fnOf F i l z a dV kV T pm an j ct),Z⟩) (al:PySem.W.codeIn K j i=true) (S:u_ N ps a)
  (len:∀B H Q E,sp B H Q E->B.length=ps.length)
  (G:∀(A:Around) (outer:List Env) (s:Shared) (H:Hp) (B:List V) (Q:VK) (E:XK),Room k (A.deeper (envOfC i a s.heap.objs.size f j))->sp B H Q E ->
   ∃t,PSs (sy U P w K mg base N i a f j A outer s H E) z t/\t { nx:=λ_ C=>Q .non C,rt:=Q} (start N B) H) :
  FnOk P w K mg base U (k+1) f (PySem.W.fnOf F i l z a dV kV T pm an j ct) ps sp:=by
 refine⟨len,λA outer s H ao us B Q E hr O hb r R=>?_⟩;have hl:=len _ _ _ _ R;have KX:K.In s.heap:=O.mod.kin.keeps λb o e=>(O.bs b o e).1;have ai:s.heap.NoLimit:=O.mod.nolimit.keeps λb o e=>(O.bs b o e).1;have L:∀y∈ps.zip us,a.names.lookup y.1=some .local\/(a.names.lookup y.1=some .cell/\((cellsFrom (s.heap.objs.size+1) a.names []).lookup y.1).isSome=true):=λ⟨n,v⟩ hy=>by
  rcases S.par n (DI hy).1 with q|q
  .exact .inl q
  .exact .inr ⟨q,PySem.W.cellsFrom_some _ _ _ (.inl q)⟩
 refine codeAny_call_function hr.depth (KX _ _ lk) rfl S.co S.gen rfl (PySem.W.codeRec_of KX al) (hb _ _ _ _ ?_);refine wpAny_newFunctionEnv_cells S.kind L λenv he s1 x=>?_;subst he;refine⟨ai.keeps x.toInCall.keep,codeAny_func ?_⟩;obtain⟨t,ht,hq⟩:=G A outer s H B Q E (hr.deeper _) R;have I:Inv (sy U P w K mg base N i a f j A outer s H E) [] (start N B) H s1:=zO S hr.hd O hl r x;refine wpAny_mono (ht [] s1 (start N B) H _ I hq) (λfl Y M=>?_) λe Y M=>M;have fin:∀{X:St} {C:Hp} {v:V} {u:Value},Inv (sy U P w K mg base N i a f j A outer s H E) [] X C Y->aS v u->Q v C->CE outer P w H s Q u Y :=
  λ{X C v u} J rv q=>⟨v,C,J.os,J.bare,J.base,J.hok,rv,q⟩
 cases fl with
 | ret u =>
  obtain⟨v,X,C,J,rv,q⟩:=M;exact fin J rv q
 | next =>
  obtain⟨X,C,J,q⟩:=M;exact fin (v:=V.non) (u:=Value.none) J rfl q
 | brk =>
  obtain⟨_,_,_,q⟩:=M;exact False.elim q
 | cont =>
  obtain⟨_,_,_,q⟩:=M;exact False.elim q
section
variable {X:Cx} {x:Str} {p pos:Pos} {e:Expr} {es:List Expr} {t:TA} {id T:String} {r:List V->Hp->VK->Prop}
def QW(r:List V->Hp->VK->Prop)(t:TA):TE:=λZ H Q=>t Z H λa f=>r a f Q
def oj(l:dY X (.builtin id) r)(F:Gl X x)(B:X.mg x=none)(hv:bootBuiltins x=some (.builtin id))(j:PA X (e::es) t)(z:x≠"__name__":=by decide)(a:(x == ("__debug__":Str))=false:=by decide)
  (u:starEach (e::es) X.env=(false,eval e X.env)::starEach es X.env:=by rfl) (f:(backTo pos (starEach es X.env)).any (·.1)=false:=by rfl):PE X (.Call (.Name x p) (e::es) [] pos) (QW r t):=by
 intro i s Z H Q I h;refine wpAny_Call_Name_kw (jW I F B hv ?_ z a);exact PyProof.Rows.callWith_builtin1 (l_ (j pos i s Z H _ I h) λG E ⟨J,C,y,L,q1⟩=>l i E Z C J G Q y L q1) u f
def qP(l:dY X (.type T) r)(F:Gl X x)(B:X.mg x=none)(hv:bootBuiltins x=some (.type T))(j:PA X (e::es) t)(z:x≠"__name__":=by decide)(a:(x == ("__debug__":Str))=false:=by decide)
  (u:starEach (e::es) X.env=(false,eval e X.env)::starEach es X.env:=by rfl) (f:(backTo pos (starEach es X.env)).any (·.1)=false:=by rfl):PE X (.Call (.Name x p) (e::es) [] pos) (QW r t):=by
 intro i s Z H Q I h;refine wpAny_Call_Name_kw (jW I F B hv ?_ z a);exact PyProof.Rows.callWith_type1 (l_ (j pos i s Z H _ I h) λG E ⟨J,C,y,L,q1⟩=>l i E Z C J G Q y L q1) u f
end
end L2
namespace HT
open PyProof.Rows
section
open PySem.SeqAt
open PySem.AutoSeq1 (wpAny_loadPart')
open PySem.MeetsSeq PySem.MeetsSeq2 PySem.MeetsSeq3
end
section
variable {prog:Program} {w:World} {A:Around} {E:Value->Shared->Prop} {s:Shared}
def EG(I:IsTup s.heap t vs.toArray)(M:IsTup s.heap b ws.toArray)(hv:vs≠[])
  (J:ws=[]->Q (.ref t) s) (L:ws≠[]->Q (.ref s.heap.objs.size) { s with heap:=s.heap.push { cls:=.type "tuple",data:=.seq (vs++ws).toArray}})
  (y:vs.length+ws.length<=sizeLine):wpAny (model prog w) A (binaryOp .Add (.ref t) (.ref b)) Q E s:=by
 obtain⟨⟨cls,H,G,B⟩,r,z,n,hd⟩:=id I;obtain⟨⟨C,i,data2,j⟩,a,f,F,l⟩:=id M;simp only at z hd f l;subst z hd f l;have e:vs.toArray++ws.toArray=(vs++ws).toArray:=by simp
 by_cases u:ws=[]
 .exact concat_meets ⟨_,r,rfl⟩ ⟨_,a,rfl⟩ noFill_tuple_add seq_tuple_add PySem.F.slot_tuple_add PySem.F.entry_tuple_add (PySem.F.args_tuple_add_2 _ _)
   (tuple_addW1 t b vs.toArray ws.toArray n F H i B j (by simpa using hv) (by simp[u])) ⟨r,a,J u⟩
 .refine concat_meets ⟨_,r,rfl⟩ ⟨_,a,rfl⟩ noFill_tuple_add seq_tuple_add PySem.F.slot_tuple_add PySem.F.entry_tuple_add (PySem.F.args_tuple_add_2 _ _)
   (tuple_addW2 t b vs.toArray ws.toArray n F H i B j (by simpa using hv) (by simpa using u) (by rw[u0,u0];exact y)) ⟨r,a,?_⟩
  rw[e];exact L u
def mw(n d:Nat):Option Int->Nat
 | none=>d
 | some v=>if v<0 then (v+(n:Int)).toNat else min v.toNat n
def tV(n d:Nat):mw n d none=d:=rfl
def we(n d k:Nat):mw n d (some (k:Int))=min k n:=by
 show (if (k:Int)<0 then ((k:Int)+(n:Int)).toNat else min (k:Int).toNat n)=min k n;rw[g_ (by lia),v_]
def HV(n d:Nat)(hd:d<=n)(o:Option Int):mw n d o<=n:=by
 cases o with
 | none=>exact hd
 | some v =>
  show (if v<0 then (v+(n:Int)).toNat else min v.toNat n)<=n;by_cases hv:v<0
  .rw[d_ hv];lia
  .rw[g_ hv];exact Nat.min_le_right _ _
def wK(v:Int)(n d:Nat):(if v<0 then max (v+(n:Int)) 0 else min v (n:Int))=((mw n d (some v):Nat):Int):=by
 show (if v<0 then max (v+(n:Int)) 0 else min v (n:Int))=(((if v<0 then (v+(n:Int)).toNat else min v.toNat n):Nat):Int);by_cases hv:v<0
 .simp only[d_ hv];lia
 .simp only[g_ hv];lia
def xL(lo a:Option Int)(n:Nat):Builtin.Slice.sliceAdjust lo a 1 (n:Int)=(((mw n 0 lo:Nat):Int),((mw n n a:Nat):Int)):=by
 have f:¬((1:Int)<0):=by lia
 unfold Builtin.Slice.sliceAdjust;simp only[f,if_false];refine Prod.ext ?_ ?_
 .cases lo with
  | none=>rfl
  | some v=>exact wK v n 0
 .cases a with
  | none=>rfl
  | some v=>exact wK v n n
def xS(i j:Nat):Builtin.Slice.slicePlaces (i:Int) (j:Int) 1=j - i:=by
 unfold Builtin.Slice.slicePlaces;have a:(1:Int)>0:=by lia
 simp only[a,if_true,Int.ediv_one]
 split <;> lia
def ph(p:IsPart v o)(h:Q o s):wpAny (model prog w) A (Builtin.Slice.slicePartIndex v) Q E s:=by
 cases p with
 | none=>exact slicePart_none h
 | int i t=>exact slicePart_int h
def nM{r:Addr}{j l:Value}{lo a:Option Int}{n:Nat}{Q:Int × Int × Nat->Shared->Prop}(y:s.heap.IsSliceOf r j l .none)(pl:IsPart j lo)(z:IsPart l a)
  (h:Q (((mw n 0 lo:Nat):Int),1,mw n n a - mw n 0 lo) s):wpAny (model prog w) A (Builtin.Slice.sliceApplied (.ref r) (pure (n:Int))) Q E s:=by
 obtain⟨os,f,u,i⟩:=id y;unfold Builtin.Slice.sliceApplied Builtin.Slice.sliceFields;refine b_ (b_ (wpAny_field f i (x:=j) rfl (b_ (wpAny_field f i (x:=l) rfl (b_ (wpAny_field f i (x:=.none) rfl (i3 ?_)))))));refine b_ (slicePart_none ?_);show wpAny _ _ (if ((1:Int) == 0)=true then _ else _) _ _ s;rw[g_ (by decide)];refine b_ (ph pl (b_ (ph z (b_ (i3 ?_)))));show wpAny _ _ (match Builtin.Slice.sliceAdjust lo a 1 (n:Int) with | (lo,a)=>pure (lo,(1:Int),Builtin.Slice.slicePlaces lo a 1)) _ _ s;rw[xL lo a n];show wpAny _ _ (pure (((mw n 0 lo:Nat):Int),(1:Int),Builtin.Slice.slicePlaces ((mw n 0 lo:Nat):Int) ((mw n n a:Nat):Int) 1)) _ _ s;rw[xS];exact i3 h
def BR(xs:Array Value)(i k:Nat):((List.range k).filterMap λ(m:Nat)=>xs[((i:Int)+(m:Int) * 1).toNat]?).toArray=((xs.toList.drop i).take k).toArray:=by
 have e:(λ(m:Nat)=>xs[((i:Int)+(m:Int) * 1).toNat]?)=λm=>xs[i+m]?:=by
  funext m
  have:((i:Int)+(m:Int) * 1).toNat=i+m:=by lia
  rw[this]
 rw[e]
 have:=pick_run xs i k
 rw[List.filterMap_map] at this;have e2:((λx=>xs[x]?)∘λx=>i+x)=λm=>xs[i+m]?:=rfl;rw[e2] at this;rw[this]
def m6{t l:Addr}{items:Array Value}{z B:Value}{lo f:Option Int}{Q:Value->Shared->Prop}(i:IsTup s.heap t items)(C:s.heap.IsSliceOf l z B .none)(pl:IsPart z lo)(H:IsPart B f)
  (I:¬(mw items.size 0 lo=0/\mw items.size items.size f=items.size))
  (h:Q (.ref s.heap.objs.size) { s with heap:=s.heap.push { cls:=.type "tuple",data:=.seq ((items.toList.drop (mw items.size 0 lo)).take (mw items.size items.size f - mw items.size 0 lo)).toArray}})
  (G:items.size<=sizeLine):wpAny (model prog w) A (getItem (.ref t) (.ref l)) Q E s:=by
 have a:sizeOk (.seq ((items.toList.drop (mw items.size 0 lo)).take (mw items.size items.size f - mw items.size 0 lo)).toArray):=by
  show ((items.toList.drop (mw items.size 0 lo)).take (mw items.size items.size f - mw items.size 0 lo)).toArray.size<=sizeLine;rw[u0,Er,OD,CD];lia
 have J:mw items.size items.size f<=items.size:=HV _ _ (j_ _) f;obtain⟨os,y,j,F⟩:=id C;have r:s.TypeIs (.ref l) "slice":=⟨os,y,j⟩;unfold getItem
 try with_reducible refine wpAny_holding ?_
 first | refine b_ (i3 ?_) | skip
 refine b_ (wpAny_sequenceKey i.typeIs (by decide) ?_)
 refine b_ (wpAny_callSpecial?_slot (name:=Str.ofString "__getitem__") i.typeIs PyProof.Rows.slot_tuple_getitem
  (wpAny_call_entry PyProof.Rows.slot_tuple_getitem i.typeIs entry_tuple_getitem ?_ (args_tuple_getitem _ _)))
 show wpAny _ _ (Builtin.Tuple.tupleItemsOf (.ref t) >>= _) _ _ s;refine b_ (tupleItemsOf_ i ?_);refine b_ (wpAny_typeOf r ?_);rw[d_ (by decide)];refine b_ (nM C pl H ?_);have u:¬((((mw items.size 0 lo:Nat):Int) == 0 && (1:Int) == 1 && (mw items.size items.size f - mw items.size 0 lo) == items.size)=true):=by
  intro q;rw[Gk,Gk] at q;have q1:((mw items.size 0 lo:Nat):Int)=0:=eq_of_beq q.1.1;have L:mw items.size items.size f - mw items.size 0 lo=items.size:=eq_of_beq q.2;exact I ⟨by lia,by lia⟩
 show wpAny _ _ (if (((mw items.size 0 lo:Nat):Int) == 0 && (1:Int) == 1 && (mw items.size items.size f - mw items.size 0 lo) == items.size)=true then _ else _) _ _ s;rw[g_ u,BR]
 first
  | exact b_ (m:=Builtin.Tuple.tupleExact _) (wpAny_newObj_type (i3 ⟨_,rfl,i3 h⟩) a)
  | exact b_ (m:=Builtin.Tuple.tupleExact _) (wpAny_newObj_type (b_ (i3 (i3 ⟨_,rfl,i3 h⟩))) a)
  | exact b_ (b_ (m:=Builtin.Tuple.tupleExact _) (wpAny_newObj_type (i3 (i3 ⟨_,rfl,i3 h⟩)) a))
  | exact b_ (b_ (m:=Builtin.Tuple.tupleExact _) (wpAny_newObj_type (i3 ⟨_,rfl,i3 h⟩) a))
end
end HT
namespace L2
open PySem.Spec PyProof.Rows
abbrev TO:=St->Hp->(Option Int->Hp->Prop)->Prop
def PO(X:Cx)(e:Option Expr)(t:TO):Prop :=
 ∀(a:List (Addr × Obj)) (s:Shared) (Z:St) (H:Hp) (Q:Option Int->Hp->Prop),Inv X a Z H s->t Z H Q ->
  wpAny (model X.prog X.w) X.A (evalPart e X.env) (λu i=>∃o f,Inv X a Z f i/\IsPart u o/\Q o f) X.xe s
def EH:TO:=λ_ H Q=>Q none H
def LS(t:TE):TO:=λZ H Q=>t Z H λx a=>∃i,x=.int i/\Q (some i) a
section
variable {X:Cx} {e:Expr} {te:TE} {lo hi:Option Expr} {tl th:TO} {pos p2:Pos}
def EI:PO X none EH:=by
 intro a s Z H Q I h;rw[evalPart_none];exact i3 ⟨none,H,I,.none,h⟩
def EJ(h:PE X e te):PO X (some e) (LS te):=by
 intro l s Z H Q I j;rw[evalPart_some];refine l_ (h l s Z H _ I j) λu y ⟨x,f,a,r,q1⟩=>?_;obtain⟨i,rfl,q⟩:=q1;obtain⟨t,rfl⟩:=r;exact⟨some i,f,a,.int i t,q⟩
def OY(X:Cx)(r:V->Option Int->Option Int->Hp->VK->Prop):Prop :=
 ∀(a:List (Addr × Obj)) (s:Shared) (Z:St) (H:Hp) (x:V) (v i j:Value) (lo hi:Option Int) (f:Addr) (Q:VK),Inv X a Z H s->aS x v->s.heap.IsSliceOf f i j .none->IsPart i lo->IsPart j hi->r x lo hi H Q ->
  ∃T id,typeLookup (.type T) "__getitem__"=pure (some (.builtin id))/\s.TypeIs v T/\wpAny (model X.prog X.w) X.A (getItem v (.ref f)) (EP X a Z Q) X.xe s
def T7(r:V->Option Int->Option Int->Hp->VK->Prop)(te:TE)(tl th:TO):TE:=λZ H Q=>te Z H λx f=>tl Z f λl i=>th Z i λu a=>r x l u a Q
def A0(U:OY X r)(E:PE X e te)(F:PO X lo tl)(hu:PO X hi th):PE X (.Subscript e (.Slice lo hi none p2) pos) (T7 r te tl th):=by
 intro f s Z H Q I h;refine Subscript_ (l_ (E f s Z H _ I h) λv P ⟨x,O,G,r1,q1⟩=>?_);refine wpAny_Slice (l_ (F f P Z O _ G q1) λi Y ⟨l,L,I2,pl,S⟩=>l_ (hu f Y Z L _ I2 S) λj a ⟨u,y,z,pu,M⟩=>?_);rw[evalPart_none];refine i3 ?_;have C:Inv X f Z y { a with heap:=a.heap.push { cls:=.type "slice",data:=.fields #[i,j,.none]}}:=z.kept (t':=a.toks) λb ob q=>mz _ q;obtain⟨T,id,J,B,R⟩:=U f { a with heap:=a.heap.push { cls:=.type "slice",data:=.fields #[i,j,.none]}} Z y x v i j l u a.heap.objs.size Q C r1 (Heap.IsSliceOf.new ..) pl pu M;show wpAny (model X.prog X.w) X.A (subscriptTail e (.Slice lo hi none p2) v (.ref a.heap.objs.size)) (EP X f Z Q) X.xe { a with heap:=a.heap.push { cls:=.type "slice",data:=.fields #[i,j,.none]}};exact tail_any (ops:=[.ref a.heap.objs.size,v]) B J R (by with_unfolding_all rfl)
def iI(xs:List V)(lo hi:Option Int):List V:=(xs.drop (HT.mw xs.length 0 lo)).take (HT.mw xs.length xs.length hi - HT.mw xs.length 0 lo)
def nj(xs:List V)(lo hi:Option Int):(iI xs lo hi).length<=xs.length:=by
 unfold iI;rw[Er,OD];lia
def QX(K:hR):V->Option Int->Option Int->Hp->VK->Prop:=λx lo hi H Q=>∃a xs,x=.ref a/\SqT K H a xs /\
 ¬(HT.mw xs.length 0 lo=0/\HT.mw xs.length xs.length hi=xs.length)/\∀p,H p=none->Q (.ref p) (m_ H p (.tup (iI xs lo hi)))
def HW:OY X (QX X.K):=by
 intro J s Z H x v E F lo hi G Q I u z pl B h;obtain⟨a,xs,rfl,C,y,q⟩:=h;cases u;obtain⟨i,r,j,l⟩:=I.tuple C;have f:i.toArray.size=xs.length:=by rw[u0];exact r.length.symm
 refine⟨"tuple",_,PyProof.Rows.slot_tuple_getitem.lookup,j.typeIs,?_⟩;refine HT.m6 j z pl B (by rw[f];exact y) ?_ (by rw[f];exact l);rw[f];refine⟨.ref s.heap.objs.size,_,I.laid (t':=s.toks) (o:=.tup (iI xs lo hi)) (λb L q=>mz _ q) (j_ _) ?_,rfl,q _ (I.hok.fresh (j_ _))⟩;exact⟨yi (nj xs lo hi) l,_,(r.drop (HT.mw xs.length 0 lo)).take (HT.mw xs.length xs.length hi - HT.mw xs.length 0 lo),gX.new _ _⟩
def LU(K:hR):R2:=λx y H Q=>∃a b xs ys,x=.ref a/\y=.ref b/\SqT K H a xs/\SqT K H b ys/\xs≠[]/\xs.length+ys.length<=sizeLine /\
 (ys=[]->Q (.ref a) H)/\(ys≠[]->∀p,H p=none->Q (.ref p) (m_ H p (.tup (xs++ys))))
def aJ.nil_iff(r:aJ xs us):us=[]↔xs=[]:=by
 cases r with
 | nil=>simp
 | cons _ _=>simp
def EK:OpR X (binaryOp .Add) (LU X.K):=by
 intro M s Z H x y v u Q I C B h;obtain⟨a,b,xs,ys,rfl,rfl,r,G,J,l,q1,F⟩:=h;cases C;cases B;obtain⟨E,i,L,_⟩:=I.tuple r;obtain⟨j,f,p2,_⟩:=I.tuple G;refine HT.EG L p2 (λz=>J (i.nil_iff.mp z)) (λz=>⟨.ref a,H,I,rfl,q1 (f.nil_iff.mp z)⟩) (λz=>?_) (by rw[<-i.length,<-f.length];exact l);refine⟨.ref s.heap.objs.size,_,I.laid (t':=s.toks) (o:=.tup (xs++ys)) (λb O q=>mz _ q) (j_ _) ?_,rfl,F (λw=>z (f.nil_iff.mpr w)) _ (I.hok.fresh (j_ _))⟩;exact⟨by rw[Dj];exact l,_,i.append f,gX.new _ _⟩
end
def z9(n:Nat)(i:Int):Option Nat:=if 0<=i then (if i<n then some i.toNat else none) else if -(n:Int)<=i then some (i+n).toNat else none
def nk{α:Type}(xs:List α)(i:Int):Option α:=(z9 xs.length i).bind λj=>xs[j]?
def ww(h:z9 n i=some j):seqIndex? i n=some j/\j<n /\ -(n:Int)<=i/\i<n:=by
 unfold z9 at h;by_cases f:0<=i
 .rw[d_ f] at h;by_cases a:i<n
  .rw[d_ a] at h;have e:i.toNat=j:=Option.some.inj h;exact⟨by rw[seqIndex_of f a,e],by lia,by lia,a⟩
  .rw[g_ a] at h;cases h
 .rw[g_ f] at h;by_cases a:-(n:Int)<=i
  .rw[d_ a] at h;have e:(i+n).toNat=j:=Option.some.inj h;exact⟨by rw[seqIndex_neg (by lia) a,e],by lia,a,by lia⟩
  .rw[g_ a] at h;cases h
def pY(h:nk xs i=some v):∃j,seqIndex? i xs.length=some j/\xs[j]?=some v/\j<xs.length /\ -(xs.length:Int)<=i/\i<xs.length:=by
 unfold nk at h
 cases e:z9 xs.length i with
 | none=>rw[e] at h;cases h
 | some j =>
  rw[e] at h;obtain⟨a,f,r,l⟩:=ww e;exact⟨j,a,h,f,r,l⟩
def cW{α:Type}{xs:List α}{j:Nat}{v:α}(h:xs[j]?=some v):nk xs (j:Int)=some v:=by
 have a:j<xs.length:=(tr.mp h).1;have e:z9 xs.length (j:Int)=some j:=by
  unfold z9;rw[d_ (by lia),d_ (by lia)];simp
 unfold nk;rw[e];exact h
def ir(b:Expr):Prop:=∀o i,subscripted b false o i=operate [o,i] (getItem o i)
def IxR(X:Cx)(r:R2):Prop :=
 ∀(f a:Expr) (i:List (Addr × Obj)) (s:Shared) (Z:St) (H:Hp) (x y:V) (v u:Value) (Q:VK),Inv X i Z H s->aS x v->aS y u->r x y H Q ->
  subscripted a false v u=operate [v,u] (getItem v u)->wpAny (model X.prog X.w) X.A (subscriptTail f a v u) (EP X i Z Q) X.xe s
def Ei(X:Cx)(id:String)(r:V->List V->Hp->VK->Prop):Prop :=
 ∀(a:List (Addr × Obj)) (s:Shared) (Z:St) (H:Hp) (x:V) (xs:List V) (v:Value) (f:List Value) (Q:VK),Inv X a Z H s->aS x v->aJ xs f->r x xs H Q ->
  wpAny (model X.prog X.w) X.A (call (.builtin id) (v::f)) (EP X a Z Q) X.xe s
section
variable {X:Cx} {a b:Expr} {ta tb:TE} {pos:Pos}
def IxR.or(h:IxR X r)(C:IxR X r'):IxR X (λx y H Q=>r x y H Q\/r' x y H Q):=by
 intro f i z s Z H x y v u Q I B l q j;rcases q with q|q
 .exact h f i z s Z H x y v u Q I B l q j
 .exact C f i z s Z H x y v u Q I B l q j
def LV{r:R2}(z:IxR X r)(f:PE X a ta)(F:PE X b tb)(B:ir b):PE X (.Subscript a b pos) (LH r ta tb):=by
 intro G s Z H Q I h;exact Subscript_ (HL f F I h λv u C x y l E j i q=>z a b G C Z l x y v u Q E j i q (B _ _))
def LW(K:hR):R2:=λx y H Q=>∃p xs i v,x=.ref p/\y=.int i/\SqL K H p xs/\nk xs i=some v/\Q v H
def LX(K:hR):R2:=λx y H Q=>∃p xs i v,x=.ref p/\y=.int i/\SqT K H p xs/\nk xs i=some v/\Q v H
def LY:R2:=λx y H Q=>∃z i c,x=.str z/\y=.int i/\z.length<=sizeLine/\nk z.cps.toList i=some c/\Q (.str ⟨#[c]⟩) H
def EL:IxR X (LW X.K):=by
 intro l B M s Z H x y v u Q I P O h G;obtain⟨p,xs,i,z,rfl,rfl,Y,R,q⟩:=h;cases P;obtain⟨t,rfl⟩:=O;obtain⟨C,r,pl,hz⟩:=I.list Y;obtain⟨j,f,h2,h3,h4,U⟩:=pY R;obtain⟨w,J,E⟩:=r.get h2;have S:=r.length;have hn:=jL;have fin:EP X M Z Q w s:=⟨z,H,I,E,q⟩;by_cases L:0<=i
 .have F:i.toNat=j:=by
   rw[seqIndex_of L U] at f;exact Option.some.inj f
  exact item_listR pl.isList L (by lia) (by rw[F];simpa using J) fin G
 .have F:(i+(C.toArray.size:Int)).toNat=j:=by
   rw[seqIndex_neg (by lia) h4] at f;rw[u0,<-S];exact Option.some.inj f
  exact subscriptTail_builtinR (x:=w) pl.isList.typeIs slot_list_getitem.lookup
   (wpAny_getItem_list_neg (Q:=λr T=>r=w/\EP X M Z Q r T) pl.isList (by lia) (by rw[u0] <;> lia) (by lia) (by rw[F];simpa using J) ⟨rfl,fin⟩) G
def HX:IxR X (LX X.K):=by
 intro f l C s Z H x y v u Q I F E h S;obtain⟨p,xs,i,z,rfl,rfl,M,G,q⟩:=h;cases F;obtain⟨t,rfl⟩:=E;obtain⟨O,r,pl,hz⟩:=I.tuple M;obtain⟨j,P,R,h3,h4,Y⟩:=pY G;obtain⟨w,T,B⟩:=r.get R;have J:=r.length;have U:=jL;have fin:EP X C Z Q w s:=⟨z,H,I,B,q⟩;exact subscriptTail_builtinR (x:=w) pl.typeIs slot_tuple_getitem.lookup
  (getItem_tuple (j:=j) (Q:=λr L=>r=w/\EP X C Z Q r L) pl (by lia) (by lia) (by rw[u0,<-J];exact P) (by simpa using T) ⟨rfl,fin⟩) S
def HY:IxR X LY:=by
 intro f l T s Z H x y v u Q I C B h L;obtain⟨z,i,c,rfl,rfl,R,E,q⟩:=h;obtain⟨t,rfl⟩:=C;obtain⟨S,rfl⟩:=B;obtain⟨j,r,J,P,M,G⟩:=pY E;have F:z.cps.toList.length=z.length:=by simp[Str.length]
 rw[F] at r M G;have O:=jL
 exact tail_any (typeIs_str s z t) slot_str_getitem.lookup (getItem_str (c:=c) (by
  have e1:decide (i < -(2 ^ 63:Int))=false:=decide_eq_false (by lia);have e2:decide (i>=2 ^ 63)=false:=decide_eq_false (by lia)
  rw[e1,e2,Bool.or_false]) (by rw[r];simpa using J) ⟨.str ⟨#[c]⟩,H,I.tok _,⟨_,rfl⟩,q⟩) L
def T8(K:hR):R2:=λx y H Q=>LW K x y H Q\/LX K x y H Q\/LY x y H Q
def HZ:IxR X (T8 X.K):=EL.or (HX.or HY)
def yk(f:List Value)(n j:Nat)(u:Value):Obj.mapSeq (·.setIfInBounds j u) { cls:=.type "list",data:=.seq f.toArray n}={ cls:=.type "list",data:=.seq (f.set j u).toArray n}:=by
 simp[Obj.mapSeq]
def Inv.lst{i:List (Addr × Obj)}{Z:St}{H:Hp}{s:Shared}{p:Addr}{xs:List V}(I:Inv X i Z H s)(h:H p=some (.lst xs)) :
  ∃(f:List Value) (n:Nat),aJ xs f/\s.heap.get? p=some { cls:=.type "list",data:=.seq f.toArray n}/\xs.length<=sizeLine:=by
 obtain⟨z,f,n,r,e⟩:=I.hok p _ h;exact⟨f,n,r,e,z⟩
def Inv.lstUpd{y:List (Addr × Obj)}{Z:St}{H:Hp}{s:Shared}{p:Addr}{xs ys:List V}{j i:List Value}{n l:Nat}{f:Obj->Obj}(I:Inv X y Z H s)(h:H p=some (.lst xs))
  (B:s.heap.get? p=some { cls:=.type "list",data:=.seq j.toArray n}) (hf:f { cls:=.type "list",data:=.seq j.toArray n}={ cls:=.type "list",data:=.seq i.toArray l}) (r:aJ ys i) (z:ys.length<=sizeLine) (t:Nat) :
  Inv X y Z (m_ H p (.lst ys)) { s with heap:=s.heap.update p f,toks:=t}:=by
 have e:(s.heap.update p f).get? p=some { cls:=.type "list",data:=.seq i.toArray l}:=by
  rw[Lg f B (by rw[hf] <;> rfl),hf]
 refine I.write (x:=p) (e:=p) (by rw[h];trivial) (.inl rfl) (λb u C q=>(Ov _ _ (Ne.symm C)).trans q) ⟨_,e⟩ ?_;exact⟨z,i,l,r,e⟩
def LZ:V->V->V->Hp->(Hp->Prop)->Prop:=λo i v H Q=>∃p xs k j,o=.ref p/\i=.int k/\H p=some (.lst xs)/\z9 xs.length k=some j/\Q (m_ H p (.lst (xs.set j v)))
def A7:LB X LZ:=by
 intro S s Z H o i v ov U u Q I O M L h;obtain⟨p,xs,k,j,rfl,rfl,C,R,q⟩:=h;cases O;obtain⟨t,rfl⟩:=M;obtain⟨f,n,r,z,P⟩:=I.lst C;obtain⟨l,Y,E,F⟩:=ww R;have y:=r.length;have T:=jL;have J:Inv X S Z (m_ H p (.lst (xs.set j v))) { s with heap:=s.heap.update p (Obj.mapSeq (·.setIfInBounds j u))} :=
  I.lstUpd C z (yk f n j u) (r.set L j) (by rw[Ql];exact P) s.toks
 by_cases G:0<=k
 .have B:k.toNat=j:=by
   rw[seqIndex_of G F] at l;exact Option.some.inj l
  exact PySem.W.ki_setAt z G (by lia) (by rw[u0,<-y];exact F) (by rw[B];exact⟨_,J,q⟩)
 .have B:(k+(f.toArray.size:Int)).toNat=j:=by
   rw[seqIndex_neg (by lia) E] at l;rw[u0,<-y];exact Option.some.inj l
  exact PySem.W.ki_setBack z (by lia) (by rw[u0,<-y];exact E) (by lia) (by rw[B];exact⟨_,J,q⟩)
def tL(lo f:Option Int)(n:Nat):(sliceBounds lo f none n).1=((HT.mw n 0 lo:Nat):Int)/\(sliceBounds lo f none n).2.1=((HT.mw n n f:Nat):Int)/\(sliceBounds lo f none n).2.2=1:=by
 refine⟨?_,?_,rfl⟩
 .cases lo with
  | none=>simp[sliceBounds,HT.mw]
  | some i =>
   simp only[sliceBounds,HT.mw,OE,show (1:Int)>0 by decide,if_true];by_cases h:i<0
   .simp only[h,if_true] <;> lia
   .simp only[h,if_false] <;> lia
 .cases f with
  | none=>simp[sliceBounds,HT.mw]
  | some i =>
   simp only[sliceBounds,HT.mw,OE,show (1:Int)>0 by decide,if_true];by_cases h:i<0
   .simp only[h,if_true] <;> lia
   .simp only[h,if_false] <;> lia
def qZ(f:List Value)(lo i:Option Int):slicePick f.toArray lo i none=((f.drop (HT.mw f.length 0 lo)).take (HT.mw f.length f.length i - HT.mw f.length 0 lo)).toArray:=by
 obtain⟨j,l,r⟩:=tL lo i f.toArray.size;unfold slicePick;rw[j,l,r];simp only[sliceRange_one,pick_run,u0] <;> rfl
def QY(K:hR):V->Option Int->Option Int->Hp->VK->Prop:=λx lo f H Q=>∃a xs,x=.ref a/\SqL K H a xs/\∀p,H p=none->Q (.ref p) (m_ H p (.lst (iI xs lo f)))
def vI:OY X (QY X.K):=by
 intro J s Z H x v E F lo i G Q I l z pl B h;obtain⟨a,xs,rfl,C,q⟩:=h;cases l;obtain⟨y,r,j,u⟩:=I.list C;have f:=r.length;refine⟨"list",_,slot_list_getitem.lookup,j.isList.typeIs,?_⟩;refine wpAny_getItem_list_slice j.isList z pl B .none (by simp) ?_ (by rw[u0] <;> lia);rw[qZ,<-f];refine⟨.ref s.heap.objs.size,_,I.laid (t':=s.toks) (o:=.lst (iI xs lo i)) (λb L q=>mz _ q) (j_ _) ?_,rfl,q _ (I.hok.fresh (j_ _))⟩;exact⟨yi (nj xs lo i) u,_,0,(r.drop (HT.mw xs.length 0 lo)).take (HT.mw xs.length xs.length i - HT.mw xs.length 0 lo),wy _ rfl⟩
def sS:dY X (.type "list") (λxs H Q=>∃p ys,xs=[.ref p]/\(SqL X.K H p ys\/SqT X.K H p ys)/\∀l,H l=none->Q (.ref l) (m_ H l (.lst ys))):=by
 intro L s Z H xs M Q I r h;obtain⟨p,ys,rfl,B,q⟩:=h;obtain⟨u,rfl,J⟩:=gE r;cases J;have fin:∀(f:List Value),aJ ys f->ys.length<=sizeLine->∀(i:Heap) (y:Nat),(∀b G,s.heap.get? b=some G->i.get? b=some G) ->
   i.get? s.heap.objs.size=some { cls:=.type "list",dict:=none,data:=.seq f.toArray y,slots:=#[]}->EP X L Z Q (.ref s.heap.objs.size) { s with heap:=i}:=λf j C i y kp e =>
  ⟨.ref s.heap.objs.size,_,I.laid (t':=s.toks) kp (j_ _) (show ObjOk X.prog X.w _ i _ (.lst ys) from⟨C,f,y,j,e⟩),rfl,q _ (I.hok.fresh (j_ _))⟩
 rcases B with B|B
 .obtain⟨f,j,pl,C⟩:=I.list B;have z:=j.length;obtain⟨o,F,E,n,hd⟩:=pl.isList;exact call_list_seq p (.inl rfl) F E hd (λi y kp e=>fin f j C i y kp e) (by simp only[u0] <;> lia)
 .obtain⟨f,j,pl,C⟩:=I.tuple B;have z:=j.length;obtain⟨o,F,E,n,hd⟩:=pl;exact call_list_seq p (.inr rfl) F E hd (λi y kp e=>fin f j C i y kp e) (by simp only[u0] <;> lia)
def lc:dY X (.type "tuple") (λxs H Q=>∃p ys,xs=[.ref p]/\((SqL X.K H p ys/\∀l,H l=none->Q (.ref l) (m_ H l (.tup ys)))\/(SqT X.K H p ys/\Q (.ref p) H))):=by
 intro E s Z H xs J Q I r h;obtain⟨p,ys,rfl,h⟩:=h;obtain⟨u,rfl,F⟩:=gE r;cases F;rcases h with ⟨y,q⟩|⟨y,q⟩
 .obtain⟨f,j,pl,C⟩:=I.list y;have z:=j.length;refine call_tuple_list pl.isList (λi kp=>?_) (by simp only[u0] <;> lia);have B:Inv X E Z H { s with heap:=i}:=I.kept (t':=s.toks) kp;have G:Inv X E Z (m_ H i.objs.size (.tup ys)) { s with heap:=i.push { cls:=.type "tuple",data:=.seq f.toArray}} :=
   B.laid (t':=s.toks) (λb o e=>mz _ e) (j_ _) (show ObjOk X.prog X.w _ _ _ (.tup ys) from⟨C,f,j,gX.new _ _⟩)
  exact⟨.ref i.objs.size,_,G,rfl,q _ (B.hok.fresh (j_ _))⟩
 .obtain⟨f,j,pl,C⟩:=I.tuple y;exact call_tuple_same pl ⟨.ref p,H,I,rfl,q⟩
def OZ(K:hR)(T:String)(x:V)(H:Hp):Prop:=match x with
 | .str _=>T="str"
 | .int _=>T="int"
 | .ref p=>(T="list"/\∃xs,SqL K H p xs)\/(T="tuple"/\∃o,K.lookup p=some o/\o.cls=.type "tuple"/\o.dict=none) \/
   (T="dict"/\((∃f,H p=some (.dK f))\/∃f,H p=some (.dT f)))\/(T="set"/\∃S n,H p=some (.set S n))
 | _=>False
def AF{C:List (Addr × Obj)}{Z:St}{H:Hp}{s:Shared}{T:String}{x:V}{v:Value}(I:Inv X C Z H s)(r:aS x v)(ty:OZ X.K T x H) :
  s.TypeIs v T/\∀a,v=.ref a->∃l,s.heap.get? a=some l/\l.dict=none:=by
 cases x with
 | str z =>
  obtain⟨t,rfl⟩:=r;cases (show T="str" from ty);exact⟨typeIs_str s z t,λ_ e=>nomatch e⟩
 | int i =>
  obtain⟨t,rfl⟩:=r;cases (show T="int" from ty);exact⟨typeIs_int s i t,λ_ e=>nomatch e⟩
 | ref p =>
  cases r;rcases ty with ⟨rfl,xs,y⟩|⟨rfl,o,f,u,hd⟩|⟨rfl,f⟩|⟨rfl,S,n,f⟩
  .obtain⟨B,_,pl,_⟩:=I.list y;refine⟨pl.isList.typeIs,λa e=>?_⟩;cases e;obtain⟨o,n,e,c,hd,_⟩:=pl;exact⟨o,e,hd⟩
  .refine⟨⟨o,I.kIn p o f,u⟩,λa e=>?_⟩;cases e;exact⟨o,I.kIn _ o f,hd⟩
  .have z:∃o,s.heap.get? p=some o/\o.ExactDict:=by
    rcases f with ⟨j,f⟩|⟨j,f⟩
    .obtain⟨_,_,_,_,o,_,_,e,ex,_⟩:=I.hok p _ f;exact⟨o,e,ex⟩
    .obtain⟨_,_,_,_,o,_,_,e,ex,_⟩:=I.hok p _ f;exact⟨o,e,ex⟩
   obtain⟨o,e,ex⟩:=z;refine⟨⟨o,e,ex.1⟩,λa e2=>?_⟩;cases e2;exact⟨o,e,ex.2.1⟩
  .obtain⟨o,_,_,_,e,ex,_⟩:=I.hok p _ f;refine⟨⟨o,e,ex.1⟩,λa e2=>?_⟩;cases e2;exact⟨o,e,ex.2.1⟩
 | _=>exact False.elim ty
def QZ(K:hR)(T:String)(r:V->List V->Hp->VK->Prop)(to:TE):TE:=λZ H Q=>to Z H λx f=>OZ K T x f/\r x [] f Q
def T9(K:hR)(T:String)(r:V->List V->Hp->VK->Prop)(to:TE)(t:TA):TE:=λZ H Q=>to Z H λx f=>OZ K T x f/\t Z f λxs i=>r x xs i Q
variable {o e:Expr} {es:List Expr} {to:TE} {t:TA} {name:Str} {apos cpos:Pos} {T id:String} {r:V->List V->Hp->VK->Prop}
def H4(z:PlainAttrs T)(slot:Slot T name id)(j:typeOf (.builtin id)=pure (.type "method_descriptor"))(B:Ei X id r)(J:PE X o to)
  (i:attributeBase o name X.env (eval o X.env)=eval o X.env:=by rfl) (f:(apos.endLine == cpos.line)=true:=by rfl):PE X (.Call (.Attribute o name apos) [] [] cpos) (QZ X.K T r to):=by
 intro u s Z H Q I h;refine wpAny_Call_method0_late i f (l_ (J u s Z H _ I h) λv E ⟨x,C,l,y,ty,q1⟩=>?_);obtain⟨F,G⟩:=AF l y ty;exact⟨T,id,z,slot,j,F,G,Calls.callWith_builtin rfl (PySem.evalArgs_none (B u E Z C x [] v [] Q l y .nil q1))⟩
def L0(G:PlainAttrs T)(slot:Slot T name id)(u:typeOf (.builtin id)=pure (.type "method_descriptor"))(J:Ei X id r)(Y:PE X o to)(E:PA X (e::es) t)
  (j:attributeBase o name X.env (eval o X.env)=eval o X.env:=by rfl)
  (l:((backTo cpos (starEach (e::es) X.env)).all (λx=>!x.1) && (backToKw cpos (keywordEach [] X.env)).all (λx=>x.1.isSome)
   && decide ((e::es).length+([]:List Keyword).length+(if ([]:List Keyword).isEmpty then 0 else 1)<30))=true:=by rfl)
  (i:(apos.endLine == cpos.line)=true:=by rfl) (hs:starEach (e::es) X.env=(false,eval e X.env)::starEach es X.env:=by rfl) (f:(backTo cpos (starEach es X.env)).any (·.1)=false:=by rfl) :
  PE X (.Call (.Attribute o name apos) (e::es) [] cpos) (T9 X.K T r to t):=by
 intro y s Z H Q I h;refine wpAny_Call_method_late j l i rfl (l_ (Y y s Z H _ I h) λv M ⟨x,L,B,C,ty,q1⟩=>?_);obtain⟨O,R⟩:=AF B C ty;refine⟨T,id,G,slot,u,O,R,?_⟩;have z:=E cpos y M Z L _ B q1;rw[hs] at z ⊢;refine Calls.callWith_builtin (by show (false || (backTo cpos (starEach es X.env)).any (·.1))=false;rw[f] <;> rfl) (Calls.evalArgs_plain ?_);exact l_ z λP s2 ⟨vs,F,I2,S,U⟩=>J y s2 Z F x vs v P Q I2 C S U
end
def Q0(X:Cx)(id:String)(r:V->List V->Hp->VK->Prop):Prop :=
 ∀(a:List (Addr × Obj)) (s:Shared) (Z:St) (H:Hp) (x:V) (xs:List V) (v:Value) (f:List Value) (Q:VK),Inv X a Z H s->aS x v->aJ xs f->r x xs H Q ->
  wpAny (model X.prog X.w) X.A (call (.builtin id) (v::f)) (EP X a Z Q) X.xe s
def aJ.zero(h:aJ [] us):us=[]:=by cases h;rfl
def aJ.one(h:aJ [x] us):∃u,us=[u]/\aS x u:=by
 cases h with|cons r t=>exact⟨_,by rw[aJ.zero t],r⟩
def aJ.eraseIdx(i:Nat)(r:aJ xs us):aJ (xs.eraseIdx i) (us.eraseIdx i):=by
 induction r generalizing i with
 | nil=>exact .nil
 | cons a t f =>
  cases i with
  | zero=>exact t
  | succ i=>exact .cons a (f i)
def aJ.rep(h:aJ xs us):∀k:Nat,aJ (List.replicate k xs).flatten (List.replicate k us).flatten
 | 0=>.nil
 | k+1=>by
  rw[DF,DF,Ep,Ep];exact aJ.append h (aJ.rep h k)
def qS{α:Type}:∀(l:List α) (i:Nat),(l.eraseIdx i).length<=l.length
 | [],_=>j_ _
 | _::_,0=>Gn _
 | _::r,i+1=>Nat.succ_le_succ (qS r i)
def qu(f:List Value):∀(k:Nat) (a:List Value),
  List.foldl (λi j=>i++j) a.toArray (List.replicate k f.toArray)=(a++(List.replicate k f).flatten).toArray
 | 0,a=>by simp
 | k+1,a=>by
  have e:a.toArray++f.toArray=(a++f).toArray:=by simp
  have e2:(a++f)++(List.replicate k f).flatten=a++(List.replicate (k+1) f).flatten:=by
   rw[DF,Ep,Lk]
  rw[<-e2,<-qu f k (a++f),<-e,DF,Qm]
section
variable {X:Cx} {Mq:List (Addr × Obj)} {Z:St} {H:Hp} {s:Shared} {l b:Addr} {xs ys zs:List V}
def Inv.lset{a its':List Value}{n:Nat}{f:Array Value->Array Value}{i:Nat}(I:Inv X Mq Z H s)(y:H l=some (.lst xs))
  (e:s.heap.get? l=some { cls:=.type "list",data:=.seq a.toArray n}) (hf:f a.toArray=its'.toArray) (hv:aJ ys its') (z:ys.length<=sizeLine) :
  Inv X Mq Z (m_ H l (.lst ys)) { s with heap:=s.heap.update l (Obj.mapSeq f),toks:=i}:=by
 have q:=PySem.IsL.update e f;rw[hf] at q;refine I.write (x:=l) (e:=l) (by rw[y];exact trivial) (.inl rfl) (λB u r j=>(Ov s.heap (Obj.mapSeq f) (Ne.symm r)).trans j) ⟨_,q⟩ ?_;exact⟨z,its',_,hv,q⟩
def Inv.lnew(I:Inv X Mq Z H s)(hv:aJ ys its)(a:ys.length<=sizeLine) :
  Inv X Mq Z (m_ H s.heap.objs.size (.lst ys)) { s with heap:=s.heap.push { cls:=.type "list",data:=.seq its.toArray},toks:=t'} :=
 I.laid (λ_ _ q=>mz _ q) (j_ _) ⟨a,its,0,hv,wy _ rfl⟩
def Inv.fresh(I:Inv X Mq Z H s):H s.heap.objs.size=none:=I.hok.fresh (j_ _)
def Inv.lstM(I:Inv X Mq Z H s)(f:H l=some (.lst xs)):xs.length<=sizeLine/\∃(a:List Value) (n:Nat),aJ xs a/\xs.length=a.length/\s.heap.get? l=some { cls:=.type "list",data:=.seq a.toArray n}:=by
 obtain⟨z,a,n,r,e⟩:=I.hok l _ f;exact⟨z,a,n,r,r.length,e⟩
def Cd(h:n<=sizeLine):Builtin.List.listTooLong n=false:=by
 unfold Builtin.List.listTooLong;exact decide_eq_false (by lia)
end
section
variable {X:Cx}
def EM:V->List V->Hp->VK->Prop:=λx a H Q=>∃l xs y,x=.ref l/\a=[y]/\H l=some (.lst xs)/\xs.length<sizeLine/\Q .non (m_ H l (.lst (xs++[y])))
def qH:Q0 X "list.append" EM:=by
 intro L s Z H x J v G Q I j i h;obtain⟨l,xs,y,rfl,rfl,f,E,q⟩:=h;cases j;obtain⟨u,rfl,B⟩:=i.one;obtain⟨z,a,n,r,C,e⟩:=I.lstM f;refine call_meets F.slot_list_append ⟨_,e,rfl⟩ F.entry_list_append (F.args_list_append_2 _ _) (PySem.list_append l a.toArray n u (by rw[u0];lia)) ⟨e,?_⟩;refine⟨.non,_,I.lset (its':=a++[u]) f e (by simp) (r.append (.cons B .nil)) ?_,rfl,q⟩;rw[Dj,P5];lia
def H_:V->List V->Hp->VK->Prop:=λx a H Q=>∃l xs i k y,x=.ref l/\a=[.int i]/\H l=some (.lst xs) /\ -(2 ^ 63)<=i/\i<2 ^ 63/\seqIndex? i xs.length=some k/\xs[k]?=some y/\Q y (m_ H l (.lst (xs.eraseIdx k)))
def Bn:Q0 X "list.pop" H_:=by
 intro T s Z H x S v R Q I C B h;obtain⟨l,xs,i,k,y,rfl,rfl,j,J,M,P,O,q⟩:=h;cases C;obtain⟨u,rfl,G⟩:=B.one;obtain⟨t,rfl⟩:=G;obtain⟨z,a,n,r,E,e⟩:=I.lstM j;obtain⟨w,L,f⟩:=r.get O;refine call_meets F.slot_list_pop ⟨_,e,rfl⟩ F.entry_list_pop (F.args_list_pop_2 _ _)
  (MeetsSeq.list_pop_at l a.toArray n i t k w (fitsIndex_both J M) (by rw[u0,<-E];exact P) (by rw[<-Ec];exact L) (by rw[u0];lia)) ⟨e,?_⟩
 refine⟨y,_,I.lset (its':=a.eraseIdx k) j e ?_ (r.eraseIdx k) ?_,f,q⟩
 .show a.toArray.eraseIdxIfInBounds k=(a.eraseIdx k).toArray;rw[List.eraseIdxIfInBounds_toArray]
 .have:=qS xs k
  lia
def Ia:V->List V->Hp->VK->Prop:=λx a H Q=>∃l xs,x=.ref l/\a=[]/\H l=some (.lst xs)/\Q .non (m_ H l (.lst []))
def Bw:Q0 X "list.clear" Ia:=by
 intro E s Z H x C v B Q I u j h;obtain⟨l,xs,rfl,rfl,i,q⟩:=h;cases u;have a:=j.zero;subst a;obtain⟨z,f,n,r,y,e⟩:=I.lstM i;refine call_meets F.slot_list_clear ⟨_,e,rfl⟩ F.entry_list_clear (F.args_list_clear_1 _) (AutoSeq1.list_clear_list_0 l f.toArray n (by rw[u0];lia)) ⟨e,?_⟩;exact⟨.non,_,I.lset (its':=[]) (ys:=[]) i e rfl .nil (Cz _),rfl,q⟩
def Q1:R2:=λx y H Q=>∃l b xs a,x=.ref l/\y=.ref b/\H l=some (.lst xs)/\H b=some (.lst a)/\xs.length+a.length<=sizeLine/\∀p,H p=none->Q (.ref p) (m_ H p (.lst (xs++a)))
def Ib:OpR X (binaryOp .Add) Q1:=by
 intro P s Z H x y v u Q I C j h;obtain⟨l,b,xs,J,rfl,rfl,B,E,O,q⟩:=h;cases C;cases j;obtain⟨z,f,n,r,L,e⟩:=I.lstM B;obtain⟨R,a,M,G,i,e2⟩:=I.lstM E;refine PySem.P.add_list e e2 ?_ (by rw[u0,u0];lia);have F:f.toArray++a.toArray=(f++a).toArray:=by simp
 rw[F];exact⟨.ref _,_,I.lnew (t':=s.toks) (r.append G) (by rw[Dj];lia),rfl,q _ I.fresh⟩
def Q2:R2:=λx y H Q=>∃l k xs,x=.ref l/\y=.int k/\H l=some (.lst xs) /\ -(2 ^ 63)<=k/\k<2 ^ 63/\xs.length * k.toNat<=sizeLine /\
 ∀p,H p=none->Q (.ref p) (m_ H p (.lst (List.replicate k.toNat xs).flatten))
def wn{α:Type}(xs:List α)(k:Nat):(List.replicate k xs).flatten.length=k * xs.length:=by
 induction k with
 | zero=>simp
 | succ k a=>rw[DF,Ep,Dj,a,Eh,Nat.add_comm]
def Ic:OpR X (binaryOp .Mult) Q2:=by
 intro Mq s Z H x y v u Q I P M h;obtain⟨l,k,xs,rfl,rfl,O,h1,h2,L,q⟩:=h;cases P;obtain⟨t,rfl⟩:=M;obtain⟨z,f,n,r,R,e⟩:=I.lstM O;have B:f.toArray.size * k.toNat<=sizeLine:=by rw[u0,<-R];exact L
 have j:¬f.toArray.size * k.toNat>(2 ^ 63 - 1) / 8:=by
  have:(sizeLine:Nat)<=(2 ^ 63 - 1) / 8:=by decide
  lia
 have E:¬(!Builtin.List.listFitsIndex k)=true:=by
  rw[fitsIndex_both h1 h2];exact DB
 have i:¬Builtin.List.listTooLong (f.toArray.size * k.toNat)=true:=by
  rw[Cd B];exact DB
 have C:List.foldl (λJ G=>J++G) #[] (List.replicate (if f.toArray.isEmpty=true then 0 else k.toNat) f.toArray)=(List.replicate k.toNat f).flatten.toArray:=by
  have Y:∀m:Nat,List.foldl (λJ G=>J++G) #[] (List.replicate m f.toArray)=(List.replicate m f).flatten.toArray:=λm=>by
   have:=qu f m []
   rw[List.nil_append] at this;exact this
  rw[Y]
  cases f with
  | nil=>simp
  | cons a r'=>rw[g_ (by simp)]
 refine wpAny_binaryOp_repeat_ref (T:="list") (U:="int") (by decide) ⟨_,e,rfl⟩ (λS=>typeIs_int S k t) noFill_list_mul F.fills_int_mul F.slot_int_rmul repeat_list F.slot_int_index.lookup
  (call_meets F.slot_int_rmul (typeIs_int s k t) F.entry_int_rmul (F.args_int_rmul_2 _ _) (int___rmul___int_list k t l f.toArray n)
   ⟨e,rfl,⟨_,e,rfl⟩,call_meets F.slot_list_mul ⟨_,e,rfl⟩ F.entry_list_mul (F.args_list_mul_2 _ _) (AutoListH.list___mul___list_int_3 l f.toArray n k t E j i) ⟨e,?_⟩⟩)
 rw[C];exact⟨.ref _,_,I.lnew (t':=s.toks) (r.rep k.toNat) (by rw[wn,OO];exact L),rfl,q _ I.fresh⟩
end
section
variable {prog:Program} {w:World} {A:Around} {E:Value->Shared->Prop} {s:Shared}
end
section
variable {X:Cx}
end
end L2
namespace Att
open PySem.W PySem.Calls PyProof.Rows
def oE:∀(ns:List Int) (f:List Value),WellAll P h f (ns.map WData.int)->IntsAre f ns:=by
 intro ns
 induction ns with
 | nil =>
  intro f w;rw[Hj] at w;cases w;exact .nil
 | cons n ns i =>
  intro f w;rw[m3] at w
  cases w with
  | cons a b =>
   cases a;exact .cons _ _ (i _ b)
def AC{l:OpenLaw}{n:Nat}(J:l.most=some n){P:Params}{h:Heap}{f:List WData}{j:List Value}
  (i:l.row.toRowW.claim.pre f=true) (C:WellAll P h j f) :
  ∃a G ns,j=[Value.ref a]/\f=[WData.list (ns.map WData.int)]/\h.get? a=some { cls:=.type "list",data:=.seq G.toArray}/\IntsAre G ns/\ns.length<=n:=by
 have E:WShape.hasAll [] f [.list .int]=true:=(pre_splitW i).1;have F:l.pre.holds [] { args:=f}=true:=(pre_splitW i).2;obtain⟨d,r,rfl,M,O⟩:=hasAllW_cons E;obtain rfl:=hasAllW_nil O;obtain⟨xs,rfl,L⟩:=hasW_list M;obtain⟨ns,rfl⟩:=items_int L;have u:ns.length<=n:=by
  unfold OpenLaw.pre at F;have B:(WTm.not (.lt (.lit (.int (n:Int))) (.len (.arg 0)))).holds [] { args:=[.list (ns.map .int)]}=true:=by
   have B:=(holds_andW F).1;rw[J] at B;exact B
  have z:=condW_of B (w_not (w_lt w_lit (w_len_list (w_arg rfl))));rw[oI] at z;refine Nat.le_of_not_lt λq=>?_;have R:(n:Int)<((ns.length:Nat):Int):=by lia
  first
   | (rw[decide_eq_true R] at z;exact absurd z (by decide))
   | (simp at z;lia)
 cases C with
 | cons H I =>
  cases I
  cases H with
  | list Q y=>exact⟨_,_,ns,rfl,rfl,Q,oE ns _ y,u⟩
def Az(l:OpenLaw)(a:List WData):l.row.toRowW.claim.post a (.bool true) a=true :=
 postW_of (r:=l.row.toRowW) (X:=(true == true))
  (show WShape.has [] (.bool true) .bool=true by first | rfl | decide | simp[WShape.has,WShape.arms,WShape.armsAll])
  (show (WTm.eq .res (.lit (.bool true))).value [] { args:=a,res:=some (.bool true),after:=a}=some (.bool (true == true)) from w_eq_bool (w_res rfl) w_lit) rfl
def u9{l:OpenLaw}{n:Nat}{q:Program}{loose:List Str}{XP:(Str->Option Value)->Heap->Prop}{S:World->Heap->Prop}{d:DefRec}
  (hn:l.most=some n) (I:d.params.defaults=[])
  (call:∀(w:World) (s₀ i:Shared) (mg J:Str->Option Value) (C:Addr) (o:Obj) (L H j:Value) (a:Addr) (y:List Value) (ns:List Int),
   Ground q loose [] XP w s₀ mg J i.heap->S w i.heap ->
   i.heap.get? C=some o->o.data=.func (docDef d.name d.params d.body d.scope L H j)->i.heap.CodeRec H d.name->mg d.name=some (.ref C) ->
   i.heap.get? a=some { cls:=.type "list",data:=.seq y.toArray}->IntsAre y ns->ns.length<=n->i.gens=#[] ->
   codeAny (model l.prog w) callerA (.call (.ref C) ⟨[.ref a],[]⟩) (λr F=>r=.ok (.ret (.bool true))/\OldK i.heap F.heap/\F.os=i.os/\AllBare F.gens) i) :
  WalkO q loose XP S l.row.toRowW d [] (λf y=>PySem.call f y):=by
 intro w s₀ i mg J G Y C o L H j X kV ho hd O U P hg Q T as z R Z M ai;obtain rfl:X=.none:=Dflts.none U I;obtain rfl:kV=.none:=Dflts.noKw U;obtain⟨a,y,ns,rfl,rfl,E,u,B⟩:=AC hn z M;refine enter_call (codeAny_mono (call w s₀ i mg J C o L H j a y ns G Y ho (fd_plain hd) O P E u B hg) λr F hq=>?_);obtain⟨rfl,h2,h3,h4⟩:=hq;exact⟨.inl ⟨.bool true,.bool true,[],rfl,λ_=>rfl,.bool true,Az l _,λ_=>⟨List.Pairwise.nil,λ_ hm=>(nomatch hm)⟩⟩,h2,h3,h4⟩
section
variable {prog:Program} {w:World} {A:Around} {E:Value->Shared->Prop} {s:Shared} {K:Frag}
end
end Att
namespace L2
open PySem.Spec PyProof.Rows
def qG:∀{a:List Value} {ns:List Int},IntsAre a ns->aJ (ns.map V.int) a
 | _,_,.nil=>.nil
 | _,_,.cons n t h=>.cons ⟨t,rfl⟩ (qG h)
def Ie(H:Hp):Prop:=∀b,H b=none\/∃o xs,H b=some (.frz o (.lst xs))
def BP{P:Program}{w:World}{K:hR}{mg mb:Str->Option Value}{CX:DD}{k:Nat}{fa a:Addr}{fd:FuncData}{x:Str}{sp:Sp}{f:Shared}{L:List Value}{ns:List Int}
  (KX:K.In f.heap) (U:f.heap.Ns mainGlobals mg) (l:f.heap.Ns builtinsNs mb) (an:∀x:Str,x≠"__name__"->mb x=bootBuiltins x) (S:f.heap.NoLimit) (B:f.heap.NoSeer) (ao:P.given.tree=none) (hg:f.gens=#[])
  (M:f.heap.get? a=some { cls:=.type "list",data:=.seq L.toArray}) (hi:IntsAre L ns) (hl:ns.length<=sizeLine) (hr:Room k callerA)
  (F:∀base:Heap,K.In base->base.Ns mainGlobals mg->FnOk P w K mg base CX k fa fd [x] sp) (J:∀(s:Shared) (u:Value),BindsTo s fd ⟨[u],[]⟩ [(x,u)])
  (al:∀H:Hp,Ie H->SqL K H a (ns.map V.int)->sp [.ref a] H (λv _=>v=.bl true) λ_ _ _=>False)
  (ap:∀H e y,CX [] H f (λ_ _ _=>False) e y->False) :
  codeAny (model P w) callerA (.call (.ref fa) ⟨[.ref a],[]⟩) (λr y=>r=.ok (.ret (.bool true))/\OldK f.heap y.heap/\y.os=f.os/\AllBare y.gens) f:=by
 have rv:=qG hi;have Q:=hi.length;have I:∀H:Hp,Ie H->SqL K H a (ns.map V.int)->HOk P w H f.heap->(∀b,H b≠none->b=a)->(H a≠none->K.lookup a=none) ->
   codeAny (model P w) callerA (.call (.ref fa) ⟨[.ref a],[]⟩) (λr y=>r=.ok (.ret (.bool true))/\OldK f.heap y.heap/\y.os=f.os/\AllBare y.gens) f:=by
  intro H hO hS hok hA hK;have i:∀{b:Addr} {o:Obj},f.heap.get? b=some o->H b=none->(km f.heap H).get? b=some o:=λe n=>BQ e n;have ai:∀{b:Addr} {o:Obj} {T:Array DictEntry} {R:Nat},f.heap.get? b=some o->o.data=.dict T R->H b=none:=λ{b o T R} e d=>by
   cases q:H b with
   | none=>rfl
   | some u =>
    have Y:b=a:=hA b (by rw[q];simp);subst Y;rw[M] at e;cases e;have d':Data.seq L.toArray _=Data.dict T R:=d;cases d'
  have j:∀{b:Addr} {m:Str->Option Value},f.heap.Ns b m->(km f.heap H).Ns b m:=λ{b m} ⟨o,T,R,e,d,r⟩=>⟨o,T,R,i e (ai e d),d,r⟩
  have X:K.In (km f.heap H):=λb o e=>i (KX b o e) (by
   cases q:H b with
   | none=>rfl
   | some u =>
    have Y:b=a:=hA b (by rw[q];simp);subst Y
    rw[hK (by rw[q];simp)] at e;cases e)
  have hM:Mod K mg (km f.heap H):=⟨X,j U,⟨mb,j l,an⟩,let ⟨E,G,C⟩:=S;⟨E,j G,C⟩,let ⟨E,G,C⟩:=B.statics;⟨E,j G,C⟩,let ⟨E,G,C⟩:=B.mods;⟨E,j G,C⟩,let ⟨E,G,C⟩:=B.imp;⟨E,j G,C⟩,let ⟨E,bm,ob,G,C,h3,h4,h5⟩:=B.main;⟨E,bm,ob,j G,C,i h3 (by
   cases q:H bm with
   | none=>rfl
   | some u =>
    have Y:bm=a:=hA bm (by rw[q];simp);subst Y;rw[M] at h3;cases h3
    exact absurd (show Value.type "list"=Value.type "module" from h4) (by decide)),h4,h5⟩⟩
  have e0:EF P w K mg (km f.heap H) callerA [] f H:=⟨rfl,hM,λb o e=>Et e,Nat.le_of_eq (AI _ _),trivial,λb l=>absurd (show b∈([]:List Addr) from l) (by simp),hok,.of_eq hg,ao⟩;refine codeAny_mono ((F _ X (j U)).run callerA [] f H ⟨[.ref a],[]⟩ [.ref a] [.ref a] _ _ hr e0 (J f (.ref a)) (.cons rfl .nil) (al H hO hS)) λr y h=>?_
  cases r with
  | error e=>exact (ap H e y h).elim
  | ok fl =>
   cases fl with
   | next=>exact False.elim h
   | brk=>exact False.elim h
   | cont=>exact False.elim h
   | ret u =>
    obtain⟨v,H',os,bare,un,O,r',q⟩:=h;have q':v=.bl true:=q;subst q';obtain rfl:u=Value.bool true:=r';refine⟨rfl,OldK.of_keep λb o e=>?_,os,bare⟩
    cases q:H b with
    | none=>exact un.keep b o e q (by intro z;exact absurd (show b∈([]:List Addr) from z) (by simp)) (by simp)
    | some u =>
     rcases hO b with z|⟨ob,xs,z⟩
     .rw[q] at z;cases z
     .have z2:=un.frzs b ob _ z;obtain⟨e1,_⟩:=hok b _ z;obtain⟨e2,_⟩:=O b _ z2;rw[e] at e1;cases e1;exact e2
 cases hk:K.lookup a with
 | some o =>
  have e:=KX a o hk;rw[M] at e;cases e;refine I (λ_=>none) (λ_=>.inl rfl) (.inr ⟨_,L.toArray,_,hk,rfl,rfl,rfl,by rw[u0,Q];exact hl,by simpa using rv⟩) (λb u z=>by have Z:(none:Option HO)=some u:=z;cases Z) (λb z=>absurd rfl z) λz=>absurd rfl z
 | none =>
  refine I (λb=>if b=a then some (.frz { cls:=.type "list",data:=.seq L.toArray} (.lst (ns.map V.int))) else none) (λb=>?_) (.inl (.inr ⟨{ cls:=.type "list",data:=.seq L.toArray},d_ rfl⟩)) (λb u z=>?_) (λb z=>?_) λ_=>hk
  .by_cases l:b=a
   .exact .inr ⟨_,_,d_ l⟩
   .exact .inl (g_ l)
  .by_cases l:b=a
   .have Z:=(d_ l).symm.trans z;cases Z;subst l;exact⟨M,by rw[oI];exact hl,L,_,rv,M⟩
   .have Z:=(g_ l).symm.trans z;cases Z
  .by_cases l:b=a
   .exact l
   .exact absurd (g_ l) z
abbrev oh{K:hR}{h:Heap}(_:K.In h):hR:=K
def EN{l:PySem.W.OpenLaw}{n k:Nat}{q:Program}{loose:List Str}{XP:(Str->Option Value)->Heap->Prop}{O:World->Heap->Prop}{d:DefRec}{K:Params->hR}{CX:World->DD}{sp:World->Sp}{x:Str}
  (U:l.most=some n) (C:n<=sizeLine) (B:d.params.defaults=[]) (hr:Room k callerA) (X:PyProof.Rows.importsNone q=true) (E:l.prog.given.tree=none)
  (hY:∀(w:World) (h:Heap),O w h->(K w.params).In h)
  (F:∀(w:World) (mg:Str->Option Value) (z:Addr) (h:Heap),(K w.params).In h->h.Ns mainGlobals mg->mg d.name=some (.ref z) ->
   ∃fd:FuncData,(∀(s:Shared) (u:Value),BindsTo s fd ⟨[u],[]⟩ [(x,u)]) /\
    ∀base:Heap,(K w.params).In base->base.Ns mainGlobals mg->FnOk l.prog w (K w.params) mg base (CX w) k z fd [x] (sp w))
  (L:∀(w:World) (H:Hp) (a:Addr) (ns:List Int),ns.length<=n->Ie H->SqL (K w.params) H a (ns.map V.int)->sp w [.ref a] H (λv _=>v=.bl true) λ_ _ _=>False)
  (J:∀(w:World) (H:Hp) (s:Shared) (e:Value) (I:Shared),CX w [] H s (λ_ _ _=>False) e I->False) :
  PySem.W.WalkO q loose XP O l.row.toRowW d [] (λf Q=>PySem.call f Q):=by
 refine Att.u9 U B λw s₀ r mg mb z o pm cd R a Q ns G Y ho hd Z M y j i hg=>?_;have P:=hY w _ Y;obtain⟨fd,hb,hF⟩:=F w mg z _ P G.T.g M;exact BP P G.T.g G.T.b G.T.builtins G.T.nolimit (G.T.seer X) E hg y j (yi i C) hr hF hb (λH S T=>L w H a ns i S T) λH e I=>J w H r e I
def iu(s:Stmt):Arguments:=match s with
 | .FunctionDef _ a _ _ _ _ _ _ _ _=>a
 | _=>{ posonlyargs:=[],args:=[],vararg:=none,kwonlyargs:=[],kw_defaults:=[],kwarg:=none,defaults:=[]}
def aI(s:Stmt):List Stmt:=match s with
 | .FunctionDef _ _ b _ _ _ _ _ _ _=>b
 | _=>[]
def aq(s:Stmt):Scope:=match s with
 | .FunctionDef _ _ _ _ _ _ a _ _ _=>a
 | _=>{ kind:=.function,names:=[],isGenerator:=false,isCoroutine:=false}
structure Fun (K:hR) (x qual:Str) (st:Stmt) (f:Addr) (fd:FuncData):Prop where
 ex:∃(oc:Value) (od:Option Addr) (kV doc pm:Value) (an:Option Addr) (cdv ct:Value) (osl:Array (Option Value)),
  fd=PySem.W.fnOf x qual (iu st) (aI st) (aq st) .none kV doc pm an cdv ct/\K.lookup f=some ⟨oc,od,.func fd,osl⟩/\PySem.W.codeIn K cdv qual=true
 kp:PySem.W.keepIn K (.ref f)=true
section
variable {P:Program} {w:World} {K:hR} {mg:Str->Option Value} {base:Heap}
def Fun.binds{x a:Str}{st:Stmt}{f:Addr}{fd:FuncData}{ps:List Str}(F:Fun K x a st f fd)
  (h:∀(kV i r:Value) (l:Option Addr) (j ct:Value) (u:List Value),u.length=ps.length->bindArgs (PySem.W.fnOf x a (iu st) (aI st) (aq st) .none kV i r l j ct) ⟨u,[]⟩=pure (ps.zip u)):oC K fd ps []:=by
 obtain⟨C,B,kV,i,r,l,j,ct,z,rfl,E,y⟩:=F.ex;exact .all (h kV i r l j ct)
def Ig{x a:Str}{st:Stmt}{f:Addr}{B:Value}{z y:Option Addr}{r:Array (Option Value)}{kV j u i ct:Value}(l:K.lookup f=some ⟨B,z,.func (PySem.W.fnOf x a (iu st) (aI st) (aq st) .none kV j u y i ct),r⟩)
  (c:PySem.W.codeIn K i a=true) (k:PySem.W.keepIn K (.ref f)=true):Fun K x a st f (PySem.W.fnOf x a (iu st) (aI st) (aq st) .none kV j u y i ct):=⟨⟨B,z,kV,j,u,y,i,ct,r,rfl,l,c⟩,k⟩
end
section
variable {X:Cx}
end
end L2
namespace MM
open PySem.Spec PyProof.Rows L2
inductive PV where
 | non | bl (b:Bool) | int (i:Int) | str (x:Str) | tup (xs:List PV) | frl (xs:List PV) | loc (n:Nat)
structure Dd where
 cls:Str
 fs:List (Str × PV):=[]
inductive MO where
 | lst (xs:List PV)
 | dic (fz:Bool) (ks:List Int) (xs:List PV)
 | exc (x:Dd)
def MO.fzd:MO->Bool
 | .dic fz _ _=>fz
 | _=>false
abbrev MH:=List MO
abbrev oe:=List (Option PV)
inductive Out (α:Type) where
 | ok (a:α) (h:MH)
 | exc (x:Dd) (h:MH)
 | bad
def Out.bind{α β:Type}(o:Out α)(f:α->MH->Out β):Out β:=match o with
 | .ok a h=>f a h
 | .exc x h=>.exc x h
 | .bad=>.bad
@[simp] theorem Out.bind_ok(a:α)(h:MH)(f:α->MH->Out β):(Out.ok a h).bind f=f a h:=rfl
@[simp] theorem Out.bind_exc(x:Dd)(h:MH)(f:α->MH->Out β):(Out.exc x h).bind f=.exc x h:=rfl
@[simp] theorem Out.bind_bad(f:α->MH->Out β):(Out.bad:Out α).bind f=.bad:=rfl
inductive SOut where
 | nx (Z:oe) (h:MH)
 | rt (v:PV) (h:MH)
 | bk (Z:oe) (h:MH)
 | ct (Z:oe) (h:MH)
 | exc (x:Dd) (Z:oe) (h:MH)
 | rse (x:Dd) (Z:oe) (h:MH)
 | bad
def Out.ne{α:Type}(o:Out α):Out α:=match o with
 | .exc _ _=>.bad
 | o=>o
@[simp] theorem Out.ne_ok(a:α)(h:MH):(Out.ok a h).ne=.ok a h:=rfl
@[simp] theorem Out.ne_bad:(Out.bad:Out α).ne=.bad:=rfl
@[simp] theorem Out.ne_ne(o:Out α):o.ne.ne=o.ne:=by cases o <;> rfl
def SqF(K:hR)(H:Hp)(a:Addr)(ys:List V):Prop :=
 (∃o,H a=some (.frz o (.lst ys))) \/
  ∃(o:Obj) (f:Array Value) (n:Nat),K.lookup a=some o/\o.cls=.type "list"/\o.dict=none/\o.data=.seq f n/\f.size<=sizeLine/\aJ ys f.toList
def SqF.sq{K:hR}{H:Hp}{a:Addr}{ys:List V}(h:SqF K H a ys):SqL K H a ys:=by
 rcases h with h|h
 .exact .inl (.inr h)
 .exact .inr h
mutual
inductive RP (K:hR) (U:List Addr) (H:Hp):PV->V->Prop where
 | non:RP K U H .non .non
 | bl (b:Bool):RP K U H (.bl b) (.bl b)
 | int (i:Int):RP K U H (.int i) (.int i)
 | str (x:Str):RP K U H (.str x) (.str x)
 | tup {xs:List PV} {a:Addr} {ys:List V} (s:SqT K H a ys) (r:RPs K U H xs ys):RP K U H (.tup xs) (.ref a)
 | frl {xs:List PV} {a:Addr} {ys:List V} (s:SqF K H a ys) (r:RPs K U H xs ys):RP K U H (.frl xs) (.ref a)
 | loc {n:Nat} {a:Addr} (e:U[n]?=some a):RP K U H (.loc n) (.ref a)
inductive RPs (K:hR) (U:List Addr) (H:Hp):List PV->List V->Prop where
 | nil:RPs K U H [] []
 | cons {x:PV} {y:V} {xs:List PV} {ys:List V} (r:RP K U H x y) (t:RPs K U H xs ys):RPs K U H (x::xs) (y::ys)
end
structure Le (U:List Addr) (H:Hp) (U':List Addr) (H':Hp):Prop where
 pre:∃m,U'=U++m
 tup:∀a xs,H a=some (.tup xs)->H' a=some (.tup xs)
 frz:∀a o u,H a=some (.frz o u)->H' a=some (.frz o u)
def Le.refl(U:List Addr)(H:Hp):Le U H U H:=⟨⟨[],by simp⟩,λ_ _ h=>h,λ_ _ _ h=>h⟩
def Le.trans(a:Le U H U1 H1)(b:Le U1 H1 U2 H2):Le U H U2 H2:=by
 obtain⟨m,e⟩:=a.pre;obtain⟨f,i⟩:=b.pre;exact⟨⟨m++f,by rw[i,e,Lk]⟩,λc xs h=>b.tup c xs (a.tup c xs h),λc o u h=>b.frz c o u (a.frz c o u h)⟩
def Le.get{U f:List Addr}{H i:Hp}(l:Le U H f i){n:Nat}{a:Addr}(e:U[n]?=some a):f[n]?=some a:=by
 obtain⟨m,j⟩:=l.pre;rw[j,xu (tr.mp e).1];exact e
def Le.sqt{K:hR}{U i:List Addr}{H f:Hp}(l:Le U H i f){a:Addr}{xs:List V}(h:SqT K H a xs):SqT K f a xs:=by
 rcases h with (h|⟨o,h⟩)|h
 .exact .inl (.inl (l.tup _ _ h))
 .exact .inl (.inr ⟨o,l.frz _ _ _ h⟩)
 .exact .inr h
def Le.sqf{K:hR}{U i:List Addr}{H f:Hp}(l:Le U H i f){a:Addr}{xs:List V}(h:SqF K H a xs):SqF K f a xs:=by
 rcases h with ⟨o,h⟩|h
 .exact .inl ⟨o,l.frz _ _ _ h⟩
 .exact .inr h
section
variable {K:hR} {U U':List Addr} {H H':Hp}
def RP.le(l:Le U H U' H'){x:PV}{y:V}(r:RP K U H x y):RP K U' H' x y :=
 RP.rec (motive_1:=λx y _=>RP K U' H' x y) (motive_2:=λx y _=>RPs K U' H' x y) .non .bl .int .str (λs _ i=>.tup (l.sqt s) i) (λs _ i=>.frl (l.sqf s) i) (λe=>.loc (l.get e)) .nil (λ_ _ a b=>.cons a b) r
def RPs.le(l:Le U H U' H')(r:RPs K U H xs ys):RPs K U' H' xs ys:=by
 induction xs generalizing ys with
 | nil=>cases r;exact .nil
 | cons x xs f=>cases r with | cons a t=>exact .cons (a.le l) (f t)
def RPs.length(r:RPs K U H xs ys):xs.length=ys.length:=by
 induction xs generalizing ys with
 | nil=>cases r;rfl
 | cons x xs f=>cases r with | cons a t=>exact congrArg (·+1) (f t)
def RPs.get{xs:List PV}{ys:List V}{i:Nat}{x:PV}(r:RPs K U H xs ys)(e:xs[i]?=some x):∃y,ys[i]?=some y/\RP K U H x y:=by
 induction xs generalizing ys i with
 | nil=>cases e
 | cons x xs f =>
  cases r with
  | cons a t =>
   cases i with
   | zero=>cases e;exact⟨_,rfl,a⟩
   | succ i=>have z:=@f _ i t e;exact z
def RPs.set(r:RP K U H x u)(i:Nat)(q:RPs K U H xs us):RPs K U H (xs.set i x) (us.set i u):=by
 induction xs generalizing us i with
 | nil=>cases q;exact .nil
 | cons x xs f =>
  cases q with
  | cons a t =>
   cases i with
   | zero=>exact .cons r t
   | succ i=>exact .cons a (f i t)
def RPs.append(r:RPs K U H xs us)(s:RPs K U H ys ws):RPs K U H (xs++ys) (us++ws):=by
 induction xs generalizing us with
 | nil=>cases r;exact s
 | cons x xs f=>cases r with | cons a t=>exact .cons a (f t)
def RPs.take(n:Nat)(r:RPs K U H xs us):RPs K U H (xs.take n) (us.take n):=by
 induction n generalizing xs us with
 | zero=>exact .nil
 | succ n f =>
  cases xs with
  | nil=>cases r;exact .nil
  | cons x xs=>cases r with | cons a t=>exact .cons a (f t)
def RPs.drop(n:Nat)(r:RPs K U H xs us):RPs K U H (xs.drop n) (us.drop n):=by
 induction n generalizing xs us with
 | zero=>exact r
 | succ n f =>
  cases xs with
  | nil=>cases r;exact .nil
  | cons x xs=>cases r with | cons a t=>exact f t
def RPs.ints:∀(ns:List Int),RPs K U H (ns.map PV.int) (ns.map V.int)
 | []=>.nil
 | n::r=>.cons (.int n) (RPs.ints r)
end
def L3(a C:Addr)(h:Heap):Prop:=∃o f,h.get? a=some o/\o.cls=.ref C/\o.data=.fields f
abbrev DL:=Str->Option Value
def kz(a:List Int)(ys:List V):List (p6 × V):=(a.map Sum.inl).zip ys
def dO(fz:Bool)(a:Option HO)(u:HO):Prop:=match fz with
 | false=>a=some u
 | true=>∃o,a=some (.frz o u)
def RO(K:hR)(mg:DL)(U:List Addr)(H:Hp)(a:Addr):MO->Option HO->Prop
 | .lst xs,f=>∃ys,f=some (.lst ys)/\RPs K U H xs ys
 | .dic fz i xs,f=>∃ys:List V,ys.length=i.length/\RPs K U H xs ys/\dO fz f (.dK (kz i ys))
 | .exc x,f=>x.fs=[]/\∃C,mg x.cls=some (.ref C)/\f=some (.ext (L3 a C))
def i7{fz:Bool}{P:Program}{w:World}{H:Hp}{h:Heap}{a:Addr}{f:List (p6 × V)}(ok:HOk P w H h)(e:dO fz (H a) (.dK f)):f.length<=sizeLine/\(a == sysModules)=false/\∃i,KV f i/\h.DictOf (cX P w) a i:=by
 cases fz with
 | false=>exact (show ObjOk P w H h a (.dK f) from ok a _ e)
 | true =>
  obtain⟨o,e⟩:=e;exact (show ObjOk P w H h a (.frz o (.dK f)) from ok a _ e).2
structure RH (K:hR) (mg:DL) (U:List Addr) (H:Hp) (h:MH):Prop where
 len:U.length=h.length
 nd:U.Nodup
 at':∀(n:Nat) (a:Addr) (o:MO),U[n]?=some a->h[n]?=some o->RO K mg U H a o (H a)
def RO.le{K:hR}{mg:DL}{U f:List Addr}{H i:Hp}{a:Addr}(l:Le U H f i){o:MO}{j:Option HO}(r:RO K mg U H a o j):RO K mg f i a o j:=by
 cases o with
 | lst xs=>obtain⟨ys,e,r⟩:=r;exact⟨ys,e,r.le l⟩
 | dic fz u xs=>obtain⟨ys,e,r,q⟩:=r;exact⟨ys,e,r.le l,q⟩
 | exc x=>exact r
def RO.some{K:hR}{mg:DL}{U:List Addr}{H:Hp}{a:Addr}{o:MO}{f:Option HO}(r:RO K mg U H a o f):f≠none:=by
 cases o with
 | lst xs=>obtain⟨ys,e,_⟩:=r;rw[e];simp
 | dic fz i xs =>
  obtain⟨ys,_,_,q⟩:=r
  cases fz with
  | false=>rw[show f=_ from q];simp
  | true=>obtain⟨o,q⟩:=q;rw[q];simp
 | exc x=>obtain⟨_,C,_,e⟩:=r;rw[e];simp
def RO.plain{K:hR}{mg:DL}{U:List Addr}{H:Hp}{a:Addr}{o:MO}{f:Option HO}(r:RO K mg U H a o f)(hf:o.fzd=false):(∀xs,f≠Option.some (.tup xs))/\∀p u,f≠Option.some (.frz p u):=by
 cases o with
 | lst xs=>obtain⟨ys,e,_⟩:=r;rw[e];exact⟨(λ_ z=>nomatch z),(λ_ _ z=>nomatch z)⟩
 | dic fz i xs =>
  obtain⟨ys,_,_,q⟩:=r
  cases fz with
  | false=>rw[show f=_ from q];exact⟨(λ_ z=>nomatch z),(λ_ _ z=>nomatch z)⟩
  | true=>cases hf
 | exc x=>obtain⟨_,C,_,e⟩:=r;rw[e];exact⟨(λ_ z=>nomatch z),(λ_ _ z=>nomatch z)⟩
section
variable {K:hR} {mg:DL} {U:List Addr} {H:Hp} {h:MH}
def RH.obj(r:RH K mg U H h){n:Nat}{a:Addr}(e:U[n]?=some a):∃o,h[n]?=some o/\RO K mg U H a o (H a):=by
 have f:n<h.length:=by rw[<-r.len];exact (tr.mp e).1
 exact⟨h[n],by simp[f],r.at' n a _ e (by simp[f])⟩
def RH.new(r:RH K mg U H h){p:Addr}(B:H p=none){o:MO}{ho:HO}(G:RO K mg U H p o (some ho)):RH K mg (U++[p]) (m_ H p ho) (h++[o])/\Le U H (U++[p]) (m_ H p ho):=by
 have f:∀n a,U[n]?=some a->a≠p:=λn a e z=>by
  obtain⟨E,_,q⟩:=r.obj e;rw[z,B] at q;exact q.some rfl
 have l:Le U H (U++[p]) (m_ H p ho):=⟨⟨[p],rfl⟩,λa xs e=>by rw[bt (cc e B)];exact e,λa J u e=>by rw[bt (cc e B)];exact e⟩;refine⟨⟨by simp[r.len],?_,λn a E e1 e2=>?_⟩,l⟩
 .rw[KO];refine⟨r.nd,by simp,λa F b I=>?_⟩;obtain⟨n,e⟩:=KI.mp F;have C:b=p:=by simpa using I
  rw[C];exact f n a e
 .by_cases i:n<U.length
  .rw[xu i] at e1;rw[xu (by rw[<-r.len];exact i)] at e2;rw[bt (f n a e1)];exact (r.at' n a E e1 e2).le l
  .rw[C5 (by lia)] at e1;rw[C5 (by rw[<-r.len];lia)] at e2;have j:n - U.length=0:=by
    rcases P9 (n - U.length) with z|z
    .exact z
    .rw[Ed (by simp;lia)] at e1;cases e1
   rw[j] at e1;have y:n - h.length=0:=by have:=r.len;lia
   rw[y] at e2;simp at e1 e2;subst e1;subst e2;rw[cp];exact G.le l
def RH.put(r:RH K mg U H h){n:Nat}{a:Addr}(e:U[n]?=some a){o:MO}{ho:HO}(E:RO K mg U H a o (some ho))(hd:∃i,h[n]?=some i/\i.fzd=false:=by exact⟨_,by assumption,rfl⟩):RH K mg U (m_ H a ho) (h.set n o)/\Le U H U (m_ H a ho):=by
 obtain⟨i,eo,q⟩:=r.obj e;obtain⟨M,f,hf⟩:=hd;rw[f] at eo;cases eo;obtain⟨q1,G⟩:=q.plain hf
 have l:Le U H U (m_ H a ho):=⟨⟨[],by simp⟩,λb xs z=>by
   have:b≠a:=by rintro rfl;exact q1 _ z
   rw[bt this];exact z,λb P u z=>by
   have:b≠a:=by rintro rfl;exact G _ _ z
   rw[bt this];exact z⟩
 refine⟨⟨by simp[r.len],r.nd,λm b y e1 e2=>?_⟩,l⟩;by_cases j:m=n
 .subst j;rw[e] at e1;cases e1;rw[cp]
  have:m<h.length:=by rw[<-r.len];exact (tr.mp e).1
  rw[Cw this] at e2;cases e2;exact E.le l
 .rw[o0 (λz=>j z.symm)] at e2;have J:b≠a:=by
   rintro rfl;have F:=tr.mp e;have I:=tr.mp e1;obtain⟨O,B⟩:=F;obtain⟨L,C⟩:=I;exact j ((List.getElem_inj r.nd).mp (C.trans B.symm))
  rw[bt J];exact (r.at' m b y e1 e2).le l
def RH.tup(r:RH K mg U H h){p:Addr}(f:H p=none)(ys:List V):RH K mg U (m_ H p (.tup ys)) h/\Le U H U (m_ H p (.tup ys)):=by
 have i:∀n a,U[n]?=some a->a≠p:=λn a e z=>by
  obtain⟨j,_,q⟩:=r.obj e;rw[z,f] at q;exact q.some rfl
 have l:Le U H U (m_ H p (.tup ys)):=⟨⟨[],by simp⟩,λa xs e=>by rw[bt (cc e f)];exact e,λa y u e=>by rw[bt (cc e f)];exact e⟩;exact⟨⟨r.len,r.nd,λn a o e1 e2=>by rw[bt (i n a e1)];exact (r.at' n a o e1 e2).le l⟩,l⟩
end
def RS(K:hR)(U:List Addr)(H:Hp)(a:oe)(Z:L2.St):Prop :=
 Z.length=a.length/\∀(i:Nat) (v:PV),a[i]?=some (some v)->∃f,Z[i]?=some (some f)/\RP K U H v f
def RS.le{K:hR}{U a:List Addr}{H f:Hp}{σp:oe}{Z:L2.St}(l:Le U H a f)(r:RS K U H σp Z):RS K a f σp Z :=
 ⟨r.1,λi v e=>by obtain⟨j,u,q⟩:=r.2 i v e;exact⟨j,u,q.le l⟩⟩
def RS.set{K:hR}{U:List Addr}{H:Hp}{a:oe}{Z:L2.St}(r:RS K U H a Z)(i:Nat){v:PV}{f:V}(q:RP K U H v f):RS K U H (a.set i (some v)) (Z.set i (some f)):=by
 refine⟨by simp[r.1],λj u e=>?_⟩;by_cases l:j=i
 .subst l;by_cases y:j<a.length
  .rw[Cw y] at e;cases e;exact⟨f,Cw (by rw[r.1];exact y),q⟩
  .rw[Ed (by simp;lia)] at e;cases e
 .rw[o0 (λz=>l z.symm)] at e;obtain⟨B,C,E⟩:=r.2 j u e;exact⟨B,by rw[o0 (λz=>l z.symm)];exact C,E⟩
def T_(B:Heap)(fs:List Addr)(h:Heap):Prop:=∀b o,h.get? b=some o->b∉fs->∃a,B.get? b=some a
def Q3(l:List Env)(H:Hp)(a:Heap)(C f:Addr)(h:Heap):Prop :=
 ∃B t,Heap.FlyingW B l f (.ref C) (.ref t) h/\(∀b o,H b=some o->∃i,B.get? b=some i)/\T_ B (Bz l) a/\H f=none
structure Gq (X:Cx) (h:Heap):Prop where
 old:∀b o,X.s₀.heap.get? b=some o->b∉X.ex->∃o',h.get? b=some o'
 cell:∀x c,X.env.cells.lookup x=some c->∃o,h.get? c=some o
 pin:∀p∈X.pn,∃o,h.get? p.1=some o
def Inv.bears{X:Cx}{f:List (Addr × Obj)}{Z:L2.St}{H:Hp}{s:Shared}(I:Inv X f Z H s):Gq X s.heap :=
 ⟨λb o e n=>I.base.there b o e n,λx c e=>let ⟨_,o,eo,_⟩:=I.cell x c e;⟨o,eo⟩,λp a=>⟨_,(I.pin p (Gj _ a)).1⟩⟩
def XP(X:Cx)(j:oe)(U:List Addr)(H:Hp)(x:Dd)(h:MH):Prop:=∀(r C:Addr) (i:List Addr) (a:Hp) (u:L2.St) (l:Shared) (f:Heap),x.fs=[]->X.mg x.cls=some (.ref C)->Le U H i a->RH X.K X.mg i a h->RS X.K i a j u ->
 Inv X [] u a l->Gq X f->Q3 X.stack a f C r l.heap->X.xe (.ref r) l
def XM(X:Cx)(j:oe)(U:List Addr)(H:Hp)(x:Dd)(h:MH):Prop:=∀(r C:Addr) (i:List Addr) (f:Hp) (y:L2.St) (l:Shared) (u:Heap) (a:List Value),x.fs=[]->X.mg x.cls=some (.ref C)->Le U H i f->RH X.K X.mg i f h->RS X.K i f j y ->
 Inv X [] y f { l with heap:=u}->Heap.MadeExcOf u l.heap r (.ref C) a->X.xe (.ref r) l
def XP.le(l:Le U H U' H')(q:XP X σp U H x h):XP X σp U' H' x h :=
 λf C r y u j a e1 e2 i=>q f C r y u j a e1 e2 (l.trans i)
def XM.le(l:Le U H U' H')(q:XM X σp U H x h):XM X σp U' H' x h :=
 λi C u z y r f a e1 e2 j=>q i C u z y r f a e1 e2 (l.trans j)
abbrev Rl(α β:Type):=List Addr->Hp->α->β->Prop
def Ful{α β:Type}(X:Cx)(R:Rl α β)(i:oe)(U:List Addr)(H:Hp)(o:Out α)(Q:β->Hp->Prop):Prop:=match o with
 | .ok v j=>∀f a l,Le U H f a->RH X.K X.mg f a j->R f a v l->Q l a
 | .exc x j=>XP X i U H x j
 | .bad=>False
def jE{α β:Type}(X:Cx)(R:Rl α β)(U:List Addr)(H:Hp)(o:Out α)(Q:β->Hp->Prop):Prop:=match o with
 | .ok v j=>∀f a i,Le U H f a->RH X.K X.mg f a j->R f a v i->Q i a
 | _=>False
def Ful.zero(f:Ful X R σp U H o.ne Q):jE X R U H o Q:=by
 cases o with
 | ok v h=>exact f
 | exc x h=>exact f
 | bad=>exact f
def Ful.le(l:Le U H U1 H1)(f:Ful X R σp U H o Q):Ful X R σp U1 H1 o Q:=by
 cases o with
 | ok v h=>exact λi j a r=>f i j a (l.trans r)
 | exc x h=>exact XP.le (X:=X) (σp:=σp) (x:=x) (h:=h) l f
 | bad=>exact f
def Ful.bind{α β γ δ:Type}{X:Cx}{R:Rl α β}{S:Rl γ δ}{a:oe}{U:List Addr}{H:Hp}{o:Out α}{f:α->MH->Out γ}{Q:δ->Hp->Prop}{z:β->Hp->Prop}(q:Ful X S a U H (o.bind f) Q)
  (k:∀u i v j y,o=.ok v y->Le U H u i->RH X.K X.mg u i y->R u i v j->Ful X S a u i (f v y) Q->z j i):Ful X R a U H o z:=by
 cases o with
 | ok v h=>exact λB C j l r w=>k B C v j h rfl l r w (Ful.le l q)
 | exc x h=>exact q
 | bad=>exact q
abbrev RV'(X:Cx):Rl PV V:=λU H=>RP X.K U H
abbrev RVs'(X:Cx):Rl (List PV) (List V):=λU H=>RPs X.K U H
abbrev L4{α:Type}:Rl α α:=λ_ _ x y=>x=y
abbrev Mx(α:Type):=oe->MH->Out α
inductive tM {α β:Type} (X:Cx) (R:Rl α β) (m:Mx α) (Z:L2.St) (H:Hp) (Q:β->Hp->Prop):Prop
 | mk (U:List Addr) (σp:oe) (h:MH) (rs:RS X.K U H σp Z) (rh:RH X.K X.mg U H h) (q:Ful X R σp U H (m σp h) Q):tM X R m Z H Q
def ME(X:Cx)(e:Expr)(m:Mx PV):Prop:=PE X e (tM X (RV' X) m)
def MT(X:Cx)(e:Expr)(m:Mx Bool):Prop:=PT X e (tM X L4 m)
def MW(X:Cx)(e:Expr)(m:Mx Bool):Prop:=PW X e (tM X L4 m)
def MA(X:Cx)(a:List Expr)(m:Mx (List PV)):Prop:=PA X a (tM X (RVs' X) m)
def PE.imp(h:PE X e t)(i:∀Z H Q,t' Z H Q->t Z H Q):PE X e t':=λa s Z H Q I q=>h a s Z H Q I (i Z H Q q)
def PT.imp(h:PT X e t)(i:∀Z H Q,t' Z H Q->t Z H Q):PT X e t':=λa s Z H Q I q=>h a s Z H Q I (i Z H Q q)
def PW.imp(h:PW X e t)(i:∀Z H Q,t' Z H Q->t Z H Q):PW X e t':=λa f s Z H Q I q=>h a f s Z H Q I (i Z H Q q)
def PA.imp(h:PA X e t)(i:∀Z H Q,t' Z H Q->t Z H Q):PA X e t':=λa f s Z H Q I q=>h a f s Z H Q I (i Z H Q q)
def PS.imp(h:PS X e t)(i:∀D Z H,t' D Z H->t D Z H):PS X e t':=λa s Z H D I q=>h a s Z H D I (i D Z H q)
def PSs.imp(h:PSs X e t)(i:∀D Z H,t' D Z H->t D Z H):PSs X e t':=λa s Z H D I q=>h a s Z H D I (i D Z H q)
def bG(X:Cx)(U:List Addr)(H:Hp)(o:SOut)(D:Ends):Prop:=match o with
 | .nx f j=>∀i a l,Le U H i a->RH X.K X.mg i a j->RS X.K i a f l->D.nx l a
 | .bk f j=>∀i a l,Le U H i a->RH X.K X.mg i a j->RS X.K i a f l->D.bk l a
 | .ct f j=>∀i a l,Le U H i a->RH X.K X.mg i a j->RS X.K i a f l->D.ct l a
 | .rt v j=>∀i a r,Le U H i a->RH X.K X.mg i a j->RP X.K i a v r->D.rt r a
 | .exc x f j=>XP X f U H x j
 | .rse x f j=>XM X f U H x j
 | .bad=>False
def bG.le(l:Le U H U1 H1)(f:bG X U H o D):bG X U1 H1 o D:=by
 cases o with
 | nx a h=>exact λj r i u=>f j r i (l.trans u)
 | bk a h=>exact λj r i u=>f j r i (l.trans u)
 | ct a h=>exact λj r i u=>f j r i (l.trans u)
 | rt v h=>exact λj r i u=>f j r i (l.trans u)
 | exc x a h=>exact XP.le (X:=X) (σp:=a) (x:=x) (h:=h) l f
 | rse x a h=>exact XM.le (X:=X) (σp:=a) (x:=x) (h:=h) l f
 | bad=>exact f
abbrev n8:=oe->MH->SOut
inductive O0 (X:Cx) (m:n8) (D:Ends) (Z:L2.St) (H:Hp):Prop
 | mk (U:List Addr) (σp:oe) (h:MH) (rs:RS X.K U H σp Z) (rh:RH X.K X.mg U H h) (q:bG X U H (m σp h) D):O0 X m D Z H
def MS(X:Cx)(st:Stmt)(m:n8):Prop:=PS X st (O0 X m)
def C1(X:Cx)(st:List Stmt)(m:n8):Prop:=PSs X st (O0 X m)
section
variable {X:Cx} {N W G:List Str} {k:Nat}
structure Good (X:Cx) (N W G:List Str) (k:Nat):Prop where
 hN:X.N=N
 nd:N.Nodup
 loc:∀x∈N,Loc X.env.scope x
 fn:∀x∈W,X.fn x=true\/X.env.scope.names.lookup x=some .local
 gl:∀x∈G,Gl X x
 dbg:∀x∈N++G,(x == ("__debug__":Str))=false/\(x == ("__classdict__":Str))=false/\x≠"__name__"
 calm:X.calm=true
 room:Room k X.A
 po:PassesOwn (model X.prog X.w) X.A X.env X.xe
def Good.x(g:Good X N W G k){i:Nat}{x:Str}(a:N[i]?=some x):X.N[i]?=some x:=by rw[g.hN];exact a
def bo{l:List Str}{i:Nat}{x:Str}(a:l[i]?=some x):x∈l:=Ee a
def rJ(X:Cx)(g:PV->PV->MH->Out PV):R2:=λf a H Q=>∃U h x y,RH X.K X.mg U H h/\RP X.K U H x f/\RP X.K U H y a/\jE X (RV' X) U H (g x y h) Q
abbrev Cm(X:Cx)(f:Value->Value->Sem Value)(g:PV->PV->MH->Out PV):Prop:=OpR X f (rJ X g)
def uJ(X:Cx)(g:PV->MH->Out PV):V->Hp->VK->Prop:=λa H Q=>∃U h x,RH X.K X.mg U H h/\RP X.K U H x a/\jE X (RV' X) U H (g x h) Q
abbrev S9(X:Cx)(f:Value->Sem Value)(g:PV->MH->Out PV):Prop:=OX X f (uJ X g)
def cJ(X:Cx)(g:List PV->MH->Out PV):List V->Hp->VK->Prop:=λa H Q=>∃U h xs,RH X.K X.mg U H h/\RPs X.K U H xs a/\jE X (RV' X) U H (g xs h) Q
abbrev dw(X:Cx)(f:Value)(g:List PV->MH->Out PV):Prop:=dY X f (cJ X g)
def az(i:Nat):Mx PV:=λZ h=>match Z[i]? with
 | some (some v)=>.ok v h
 | _=>.bad
def mC(v:PV):Mx PV:=λ_ h=>.ok v h
def Ac(g:Good X N W G k)(i:Nat){x:Str}{a:Pos}(j:N[i]?=some x):ME X (.Name x a) (az i):=by
 have d:=g.dbg x (Gj _ (bo j));have hv:OV X.env.scope x:=by
  rcases g.loc x (bo j) with q|q
  .exact .inl q
  .exact .inr (.inl q)
 refine PE.imp (Hr (g.x j) hv d.1 d.2.1) λZ H Q ⟨U,l,h,B,y,f⟩=>?_;unfold az at f
 cases e:l[i]? with
 | none=>rw[e] at f;exact f.elim
 | some o =>
  rw[e] at f
  cases o with
  | none=>exact f.elim
  | some v =>
   obtain⟨u,z,r⟩:=B.2 i v e;exact⟨u,z,f U H u (Le.refl _ _) y r⟩
def aH:ME X (.Constant (.int i) j pos) (mC (.int i)):=PE.imp Hs λ_ H _ ⟨U,_,_,_,a,f⟩=>f U H _ (Le.refl _ _) a (.int i)
def zr:ME X (.Constant (.str i) j pos) (mC (.str i)):=PE.imp Ht λ_ H _ ⟨U,_,_,_,a,f⟩=>f U H _ (Le.refl _ _) a (.str i)
def rO:ME X (.Constant (.bool i) j pos) (mC (.bl i)):=PE.imp Lr λ_ H _ ⟨U,_,_,_,a,f⟩=>f U H _ (Le.refl _ _) a (.bl i)
def aC(f:PV->PV->MH->Out PV)(l j:Mx PV):Mx PV:=λZ h=>(l Z h).bind λx a=>(j Z a).bind λy i=>(f x y i).ne
def O3(f:PV->MH->Out PV)(i:Mx PV):Mx PV:=λZ h=>(i Z h).bind λx a=>(f x a).ne
def sM{f:PV->PV->MH->Out PV}{r l:Mx PV}{Z:L2.St}{H:Hp}{Q:VK}(q:tM X (RV' X) (aC f r l) Z H Q):LH (rJ X f) (tM X (RV' X) r) (tM X (RV' X) l) Z H Q:=by
 obtain⟨U,a,h,u,J,q⟩:=q;refine⟨U,a,h,u,J,Ful.bind q λF S x T L _ I j C q1=>?_⟩;refine⟨F,a,L,u.le I,j,Ful.bind q1 λE R y P M _ z i B O=>?_⟩;exact⟨E,M,x,y,i,C.le z,B,O.zero⟩
def aW(i:Cm X (binaryOp op) f)(j:ME X a ma)(l:ME X b mb):ME X (.BinOp a op b pos) (aC f ma mb) :=
 PE.imp (LI i j l) λ_ _ _ q=>sM q
def L5(r:S9 X (unaryOp op) f)(u:ME X a ma):ME X (.UnaryOp op a pos) (O3 f ma) :=
 PE.imp (LJ r u) λ_ _ _ ⟨U,j,h,z,B,q⟩=>⟨U,j,h,z,B,Ful.bind q λC F x H l _ E i y q1=>⟨C,l,x,i,y,q1.zero⟩⟩
def Au(i:Cm X (compareOp op) f)(j:ME X a ma)(r:ME X b mb)(l:behindInMarks op b=false):ME X (.Compare a [op] [b] pos) (aC f ma mb) :=
 PE.imp (EC i j r l) λ_ _ _ q=>sM q
def mB(m:Mx PV):Mx Bool:=λZ h=>(m Z h).bind λv a=>match v with
 | .bl b=>.ok b a
 | _=>.bad
def L6(q:tM X L4 (mB m) Z H Q):tM X (RV' X) m Z H λx i=>∃c,x=.bl c/\Q c i:=by
 obtain⟨U,f,h,u,r,q⟩:=q;refine⟨U,f,h,u,r,Ful.bind q λl i x B z _ y a j q1=>?_⟩
 cases j with
 | bl b=>exact⟨b,rfl,q1 l i b (Le.refl _ _) a rfl⟩
 | _=>exact q1.elim
def AJ(j:Cm X (compareOp op) f)(l:ME X a ma)(B:ME X b mb)(y:behindInMarks op b=false):MT X (.Compare a [op] [b] pos) (mB (aC f ma mb)) :=
 PT.imp (ED j l B y) λZ H Q q=>by
  obtain⟨U,i,h,u,z,q⟩:=L6 q;exact sM (Q:=λx r=>∃k,x=.bl k/\Q k r) ⟨U,i,h,u,z,q⟩
def pg(h:ME X e m)(f:∀a,isTrue e X.env a=(do let v <-a;standAt e.pos;holding [v] (truthy v)):=by intro _;rfl):MT X e (mB m) :=
 PT.imp (Hu h f) λ_ _ _ q=>L6 q
def pJ(m:Mx Bool):Mx Bool:=λZ h=>(m Z h).bind λb a=>.ok (!b) a
def oQ(h:MT X e m):MT X (.UnaryOp .Not e pos) (pJ m) :=
 PT.imp (Hx h) λ_ _ _ ⟨U,f,h,j,r,q⟩=>⟨U,f,h,j,r,Ful.bind q λu l x B y _ z a i q1=>by
  cases i;exact q1 u l _ (Le.refl _ _) a rfl⟩
def Ih(a b:Mx Bool):Mx Bool:=λZ h=>(a Z h).bind λx f=>if x=true then b Z f else .ok false f
def KY(a b:Mx Bool):Mx Bool:=λZ h=>(a Z h).bind λx f=>if x=true then .ok true f else b Z f
section
variable {a b:Expr} {rest:List Expr} {ma mb:Mx Bool} {pos:Pos}
def EO(f:MT X a ma):MW X (.BoolOp .And [a] pos) ma:=Ew f
def sF(f:MT X a ma):MW X (.BoolOp .Or [a] pos) ma:=Hv f
def Ii(r:MT X a ma)(E:MW X (.BoolOp .And (b::rest) pos) mb):MW X (.BoolOp .And (a::b::rest) pos) (Ih ma mb) :=
 PW.imp (Hw r E) λZ H Q ⟨U,i,h,l,B,q⟩=>⟨U,i,h,l,B,Ful.bind q λj z x F C _ y f u q1=>by
  cases u
  cases x with
  | true=>rw[d_ rfl] at q1 ⊢;exact⟨j,i,C,l.le y,f,q1⟩
  | false=>rw[g_ DB] at q1 ⊢;exact q1 j z _ (Le.refl _ _) f rfl⟩
def rP(r:MT X a ma)(E:MW X (.BoolOp .Or (b::rest) pos) mb):MW X (.BoolOp .Or (a::b::rest) pos) (KY ma mb) :=
 PW.imp (Ls r E) λZ H Q ⟨U,i,h,l,B,q⟩=>⟨U,i,h,l,B,Ful.bind q λj z x F C _ y f u q1=>by
  cases u
  cases x with
  | true=>rw[d_ rfl] at q1 ⊢;exact q1 j z _ (Le.refl _ _) f rfl
  | false=>rw[g_ DB] at q1 ⊢;exact⟨j,i,C,l.le y,f,q1⟩⟩
def MW.mt(h:MW X e m):MT X e m:=PW.pt h
end
def xN(a b:Mx PV):Mx PV:=λZ h=>(a Z h).bind λx f=>match x with
 | .bl c=>if c=true then b Z f else .ok (.bl false) f
 | _=>.bad
def xp(a:Mx PV):Mx PV:=λZ h=>(a Z h).bind λx f=>match x with
 | .bl c=>.ok (.bl (!c)) f
 | _=>.bad
section
variable {a b:Expr} {rest:List Expr} {ma mb:Mx PV} {pos:Pos}
def Ij(f:ME X a ma):ME X (.BoolOp op [a] pos) ma:=Hy f
def Ik(r:ME X a ma)(E:ME X (.BoolOp .And (b::rest) pos) mb):ME X (.BoolOp .And (a::b::rest) pos) (xN ma mb) :=
 PE.imp (Hz r E) λZ H Q ⟨U,i,h,l,B,q⟩=>⟨U,i,h,l,B,Ful.bind q λj z x F C _ y f u q1=>by
  cases u with
  | bl c =>
   refine⟨c,rfl,?_⟩;dsimp only at q1
   cases c with
   | true=>rw[d_ rfl] at q1 ⊢;exact⟨j,i,C,l.le y,f,q1⟩
   | false=>rw[g_ DB] at q1 ⊢;exact q1 j z _ (Le.refl _ _) f (.bl false)
  | _=>exact q1.elim⟩
def Il(j:ME X a ma):ME X (.UnaryOp .Not a pos) (xp ma) :=
 PE.imp (HA j) λZ H Q ⟨U,i,h,z,y,q⟩=>⟨U,i,h,z,y,Ful.bind q λr u x E C _ B f l q1=>by
  cases l with
  | bl c=>exact⟨c,rfl,q1 r u _ (Le.refl _ _) f (.bl _)⟩
  | _=>exact q1.elim⟩
def Im(c:Mx Bool)(a b:Mx PV):Mx PV:=λZ h=>(c Z h).bind λx f=>if x=true then a Z f else b Z f
def Io(z:MT X c mc)(y:ME X a ma)(E:ME X b mb):ME X (.IfExp c a b pos) (Im mc ma mb) :=
 PE.imp (B5 z y E) λZ H Q ⟨U,f,h,j,C,q⟩=>⟨U,f,h,j,C,Ful.bind q λl F x I u _ r i B q1=>by
  cases B
  cases x with
  | true=>rw[d_ rfl] at q1 ⊢;exact⟨l,f,u,j.le r,i,q1⟩
  | false=>rw[g_ DB] at q1 ⊢;exact⟨l,f,u,j.le r,i,q1⟩⟩
end
def h_:Mx (List PV):=λ_ h=>.ok [] h
def aw(a:Mx PV)(r:Mx (List PV)):Mx (List PV):=λZ h=>(a Z h).bind λx f=>(r Z f).bind λxs i=>.ok (x::xs) i
def ba:MA X [] h_:=PA.imp tN λZ H Q ⟨U,a,h,i,f,q⟩=>q U H _ (Le.refl _ _) f .nil
def aF(r:ME X e m)(M:MA X es ms)(O:starEach (e::es) X.env=(false,eval e X.env)::starEach es X.env:=by rfl):MA X (e::es) (aw m ms) :=
 PA.imp (mN r M O) λZ H Q ⟨U,a,h,j,I,q⟩=>⟨U,a,h,j,I,Ful.bind q λC R x T J _ F i z q1 =>
  ⟨C,a,J,j.le F,i,Ful.bind q1 λB E y P S _ l f u L=>L B E _ (Le.refl _ _) f (.cons (z.le l) u)⟩⟩
def ql(xs:List PV)(h:MH):Out PV:=if xs.length<=sizeLine then .ok (.loc h.length) (h++[.lst xs]) else .bad
def z_(xs:List PV)(h:MH):Out PV:=if xs.length<=sizeLine then .ok (.tup xs) h else .bad
def mP{U:List Addr}{H:Hp}{h:MH}{xs:List PV}{ys:List V}{Q:VK}(i:RH X.K X.mg U H h)(a:RPs X.K U H xs ys)(f:jE X (RV' X) U H (ql xs h) Q):ys.length<=sizeLine/\∀p,H p=none->Q (.ref p) (m_ H p (.lst ys)):=by
 unfold ql at f
 split at f
 .rename_i u
  refine⟨by rw[<-a.length];exact u,λp j=>?_⟩;obtain⟨r,l⟩:=i.new j (o:=.lst xs) (ho:=.lst ys) ⟨ys,rfl,a⟩;refine f _ _ _ l r (.loc ?_);rw[<-i.len];simp
 .exact f.elim
def wc{U:List Addr}{H:Hp}{h:MH}{xs:List PV}{ys:List V}{Q:VK}(l:RH X.K X.mg U H h)(i:RPs X.K U H xs ys)(f:jE X (RV' X) U H (z_ xs h) Q):ys.length<=sizeLine/\∀p,H p=none->Q (.ref p) (m_ H p (.tup ys)):=by
 unfold z_ at f
 split at f
 .rename_i u
  refine⟨by rw[<-i.length];exact u,λp j=>?_⟩;obtain⟨r,a⟩:=l.tup j ys;exact f _ _ _ a r (.tup (.inl (.inl cp)) (i.le a))
 .exact f.elim
def Ip{a:oe}{U:List Addr}{H:Hp}{h:MH}{xs:List PV}{Q:VK}(f:Ful X (RV' X) a U H (ql xs h) Q):jE X (RV' X) U H (ql xs h) Q:=by
 unfold ql at f ⊢
 split at f
 .rw[d_ (by assumption)];exact f
 .exact f.elim
def Iq{a:oe}{U:List Addr}{H:Hp}{h:MH}{xs:List PV}{Q:VK}(f:Ful X (RV' X) a U H (z_ xs h) Q):jE X (RV' X) U H (z_ xs h) Q:=by
 unfold z_ at f ⊢
 split at f
 .rw[d_ (by assumption)];exact f
 .exact f.elim
def iP(m:Mx (List PV)):Mx PV:=λZ h=>(m Z h).bind ql
def tP(m:Mx (List PV)):Mx PV:=λZ h=>(m Z h).bind z_
def Ir(h:MA X es ms):ME X (.List es pos) (iP ms) :=
 PE.imp (HU h) λZ H Q ⟨U,f,h,l,j,q⟩=>⟨U,f,h,l,j,Ful.bind q λr y x B z _ u a i q1=>mP a i (Ip q1)⟩
def Is(h:MA X es ms):ME X (.Tuple es j pos) (tP ms) :=
 PE.imp (HS h) λZ H Q ⟨U,f,h,r,l,q⟩=>⟨U,f,h,r,l,Ful.bind q λu z x C B _ y a i q1=>wc a i (Iq q1)⟩
def SOut.then(o:SOut)(k:n8):SOut:=match o with
 | .nx Z h=>k Z h
 | o=>o
def bp(a b:n8):n8:=λZ h=>(a Z h).then b
def ox:n8:=λZ h=>.nx Z h
def ip:C1 X [] ox:=PSs.imp Ex λD Z H ⟨U,f,h,a,i,q⟩=>q U H Z (Le.refl _ _) i a
def EQ{st:Stmt}{m:n8}(h:MS X st m):C1 X [st] m:=Ey h
def bG.then{U:List Addr}{H:Hp}{o:SOut}{k:n8}{D:Ends}(q:bG X U H (o.then k) D):bG X U H o { D with nx:=λZ H=>O0 X k D Z H}:=by
 cases o with
 | nx a h=>exact λf i j l r s=>⟨f,a,h,s,r,bG.le l q⟩
 | _=>exact q
def A3{st:Stmt}{a:List Stmt}{m u:n8}(i:MS X st m)(j:C1 X a u):C1 X (st::a) (bp m u) :=
 PSs.imp (AN i j) λD Z H ⟨U,f,h,l,r,q⟩=>⟨U,f,h,l,r,bG.then q⟩
def cB(m:Mx PV):n8:=λZ h=>match m Z h with
 | .ok v a=>.rt v a
 | .exc x a=>.exc x Z a
 | .bad=>.bad
def Iu(j:ME X e m):MS X (.Return (some e) pos) (cB m) :=
 PS.imp (HB j) λD Z H ⟨U,a,h,f,l,q⟩=>⟨U,a,h,f,l,by
  unfold cB at q
  cases e:m a h with
  | ok v i=>rw[e] at q;exact q
  | exc x i=>rw[e] at q;exact q
  | bad=>rw[e] at q;exact q⟩
def y_{α:Type}(m:Mx α)(k:α->n8):n8:=λZ h=>match m Z h with
 | .ok v a=>k v Z a
 | .exc x a=>.exc x Z a
 | .bad=>.bad
def bG.ex{α β:Type}{R:Rl α β}{m:Mx α}{k:α->n8}{U:List Addr}{H:Hp}{a:oe}{h:MH}{D:Ends}{Q:β->Hp->Prop}(q:bG X U H (y_ m k a h) D)
  (w:∀i f v j u,Le U H i f->RH X.K X.mg i f u->R i f v j->bG X i f (k v a u) D->Q j f):Ful X R a U H (m a h) Q:=by
 unfold y_ at q
 cases e:m a h with
 | ok v y=>rw[e] at q;exact λi f j l r z=>w i f v j y l r z (bG.le l q)
 | exc x y=>rw[e] at q;exact q
 | bad=>rw[e] at q;exact q
def hU(m:Mx PV):n8:=y_ m λ_=>ox
def pI{e:Expr}{m:Mx PV}{a:Pos}(j:ME X e m)(C:swapsWith e none a.line X.env=pure false:=by rfl):MS X (.Expr e a) (hU m) :=
 PS.imp (Ez j C) λD Z H ⟨U,f,h,i,B,q⟩=>⟨U,f,h,i,B,bG.ex q λu y v E F l r z w=>w u y Z (Le.refl _ _) r (i.le l)⟩
def C6(c:Mx Bool)(a b:n8):n8:=y_ c λx=>if x=true then a else b
def k4{c:Expr}{a b:List Stmt}{C:Mx Bool}{y u:n8}{i:Pos}(I:MT X c C)(F:C1 X a y)(L:C1 X b u):MS X (.If c a b i) (C6 C y u) :=
 PS.imp (Lz I F L) λD Z H ⟨U,f,h,j,J,q⟩=>⟨U,f,h,j,J,bG.ex q λB O v M E l r z w=>by
  cases z
  cases v with
  | true=>rw[d_ rfl];exact⟨B,f,E,j.le l,r,w⟩
  | false=>rw[g_ DB];exact⟨B,f,E,j.le l,r,w⟩⟩
def bM(i:Nat)(m:Mx PV):n8:=y_ m λv Z h=>.nx (Z.set i (some v)) h
def oD(g:Good X N W G k)(i:Nat){x:Str}{e:Expr}{m:Mx PV}{f a:Pos}(u:N[i]?=some x)(I:W[i]?=some x)(B:ME X e m)(J:swapsWith e (some (.Name x a)) f.line X.env=pure false:=by rfl) :
  MS X (.Assign [.Name x a] e f) (bM i m):=by
 refine PS.imp (HG (X:=X) (i:=i) (by rw[g.hN];exact g.nd) (g.x u) (g.loc x (bo u)) B J (g.fn x (bo I))) λD Z H ⟨U,j,h,y,F,q⟩=>?_;exact⟨U,j,h,y,F,bG.ex q λC E v L M l r z w=>w C E _ (Le.refl _ _) r ((y.le l).set i z)⟩
end
section
variable {X:Cx} {N W G:List Str} {k:Nat}
abbrev Mg:=PV->n8
def om(X:Cx)(U:List Addr)(H:Hp)(o:SOut)(Q:L2.St->Hp->Prop):Prop:=match o with
 | .nx a j=>∀i f l,Le U H i f->RH X.K X.mg i f j->RS X.K i f a l->Q l f
 | .exc x a j=>XP X a U H x j
 | _=>False
def om.le(l:Le U H U1 H1)(f:om X U H o Q):om X U1 H1 o Q:=by
 cases o with
 | nx a h=>exact λj r i u=>f j r i (l.trans u)
 | exc x a h=>exact XP.le (X:=X) (σp:=a) (x:=x) (h:=h) l f
 | _=>exact f
inductive tG (X:Cx) (g:Mg) (v':V) (Z:L2.St) (H:Hp) (Q:L2.St->Hp->Prop):Prop
 | mk (U:List Addr) (σp:oe) (h:MH) (v:PV) (rs:RS X.K U H σp Z) (rh:RH X.K X.mg U H h) (rv:RP X.K U H v v') (q:om X U H (g v σp h) Q):tG X g v' Z H Q
def MG(X:Cx)(a:Expr)(g:Mg):Prop:=PG X a (tG X g)
def PG.imp(h:PG X e t)(i:∀v Z H Q,t' v Z H Q->t v Z H Q):PG X e t':=λa s Z H v u Q I r q=>h a s Z H v u Q I r (i v Z H Q q)
def CG(i:Nat):Mg:=λv Z h=>.nx (Z.set i (some v)) h
def wQ(g:Good X N W G k)(i:Nat)(a:N[i]?=some x)(u:W[i]?=some x):MG X (.Name x pos) (CG i) :=
 PG.imp (vP (by rw[g.hN];exact g.nd) (g.x a) (g.loc x (bo a)) (g.fn x (bo u))) λy Z H Q ⟨U,l,h,v,j,r,f,q⟩=>q U H _ (Le.refl _ _) r (j.set i f)
abbrev ER:=List PV->n8
inductive S_ (X:Cx) (g:ER) (v':List V) (Z:L2.St) (H:Hp) (Q:L2.St->Hp->Prop):Prop
 | mk (U:List Addr) (σp:oe) (h:MH) (v:List PV) (rs:RS X.K U H σp Z) (rh:RH X.K X.mg U H h) (rv:RPs X.K U H v v') (q:om X U H (g v σp h) Q):S_ X g v' Z H Q
def L7(X:Cx)(a:List Expr)(g:ER):Prop:=PGs X a (S_ X g)
def PGs.imp(h:PGs X e t)(i:∀v Z H Q,t' v Z H Q->t v Z H Q):PGs X e t':=λa s Z H v u Q I r q=>h a s Z H v u Q I r (i v Z H Q q)
def L8:ER:=λa Z h=>match a with
 | []=>.nx Z h
 | _=>.bad
def Gs(a:Mg)(r:ER):ER:=λf Z h=>match f with
 | v::i=>(a v Z h).then (r i)
 | []=>.bad
def qo:L7 X [] L8:=PGs.imp EA λl Z H Q ⟨U,i,h,v,f,j,a,q⟩=>by
 cases a with
 | nil=>exact⟨rfl,q U H Z (Le.refl _ _) j f⟩
 | cons _ _=>exact q.elim
def iK(i:MG X e a)(F:L7 X es r)
  (I:(assignEach (e::es) X.env).map (·.2)=assign e X.env::(assignEach es X.env).map (·.2):=by rfl):L7 X (e::es) (Gs a r) :=
 PGs.imp (BI i F I) λO Z H Q ⟨U,f,h,v,J,E,u,q⟩=>by
  cases u with
  | nil=>exact q.elim
  | @cons x y xs ys B rr =>
   refine⟨_,_,rfl,U,f,h,x,J,E,B,?_⟩;dsimp only[Gs] at q
   cases e:a x f h with
   | nx j i=>rw[e] at q;exact λz P R l L C=>⟨z,j,i,xs,C,L,rr.le l,om.le l q⟩
   | exc M j i=>rw[e] at q;exact q
   | _=>rw[e] at q;exact q
def KZ(r:ER)(n:Nat):Mg:=λv Z h=>match v with
 | .tup xs=>if xs.length=n then r xs Z h else .bad
 | _=>.bad
def uL(g:Good X N W G k){a:List Expr}{j:Nat}{r:ER}{n:Nat}{f:Pos}(h:L7 X a r)(z:(assignEach a X.env).length=n:=by rfl)(l:(assignEach a X.env).findIdx? (·.1)=none:=by rfl) :
  MG X (.Tuple a j f) (KZ r n) :=
 PG.imp (HC g.calm h z l) λE Z H Q ⟨U,i,h,v,C,B,u,q⟩=>by
  cases u with
  | tup s rr =>
   dsimp only[KZ] at q
   split at q
   .rename_i y
    exact⟨_,_,rfl,s,by rw[<-rr.length];exact y,U,i,h,_,C,B,rr,q⟩
   .exact q.elim
  | _=>exact q.elim
def pr(m:Mx PV)(g:Mg):n8:=y_ m λv Z h=>match g v Z h with
 | .nx f a=>.nx f a
 | .exc x f a=>.exc x f a
 | _=>.bad
def uy{f e:Expr}{m:Mx PV}{g:Mg}{i:Pos}(y:ME X e m)(I:MG X f g)(L:swapsWithSole [f] e i.line X.env=pure false:=by rfl)(F:swappedStores [f] e X.env=pure none:=by rfl)
  (j:(assignEach [f] X.env).map (·.2)=[assign f X.env]:=by rfl):MS X (.Assign [f] e i) (pr m g) :=
 PS.imp (HE y I L F j) λD Z H ⟨U,a,h,u,E,q⟩=>⟨U,a,h,u,E,bG.ex q λC O v M j l r z w=>⟨C,a,j,v,u.le l,r,z,by
  cases e:g v a j with
  | nx B J=>rw[e] at w;exact w
  | exc x B J=>rw[e] at w;exact w
  | _=>rw[e] at w;exact w⟩⟩
def Iv(i j:Nat)(m:Mx (List PV)):n8:=y_ m λa Z h=>match a with
 | [v,w]=>.nx ((Z.set i (some v)).set j (some w)) h
 | _=>.bad
def Iw(g:Good X N W G k)(i j:Nat)(F:N[i]?=some x)(J:N[j]?=some y)(f:i≠j)(C:MA X [a,b] m)
  (Q:X.env.scope.names.lookup x=some .local) (P:X.env.scope.names.lookup y=some .local)
  (M:swappedStores [.Tuple [.Name x px,.Name y py] kt pt] (.Tuple [a,b] k2 pt2) X.env=pure (some [x,y]))
  (O:swapsWithSole [.Tuple [.Name x px,.Name y py] kt pt] (.Tuple [a,b] k2 pt2) pos.line X.env=pure false:=by rfl) :
  MS X (.Assign [.Tuple [.Name x px,.Name y py] kt pt] (.Tuple [a,b] k2 pt2) pos) (Iv i j m) :=
 PS.imp (HH g.calm (by rw[g.hN];exact g.nd) (g.x F) (g.x J) f Q P C M O) λD Z H ⟨U,u,h,B,L,q⟩=>⟨U,u,h,B,L,bG.ex q λE I v S T l r z w=>by
  cases z with
  | nil=>exact w.elim
  | cons z1 z =>
   cases z with
   | nil=>exact w.elim
   | cons R z =>
    cases z with
    | nil=>exact⟨_,_,rfl,w E I _ (Le.refl _ _) r (((B.le l).set i z1).set j R)⟩
    | cons _ _=>exact w.elim⟩
def nu(o i v:PV)(h:MH):Option MH:=match o,i with
 | .loc n,.int j=>(match h[n]? with
  | some (.lst xs)=>(z9 xs.length j).map λp=>h.set n (.lst (xs.set p v))
  | _=>none)
 | _,_=>none
def Gu(mo f:Mx PV):Mg:=λv=>y_ mo λo=>y_ f λi Z h=>match nu o i v h with
 | some a=>.nx Z a
 | none=>.bad
def sC(ho:ME X o mo)(hi:ME X i mi)
  (T:∀v,assign (.Subscript o i pos) X.env v=(do
   let u <-holding [v] (eval o X.env)
   let z <-holding [v,u] (eval i X.env)
   standAt pos
   holding [v,u,z] (setItem u z v)
   release [v,u,z] []):=by intro _;rfl):MG X (.Subscript o i pos) (Gu mo mi) :=
 PG.imp (HD ho hi A7 T) λv' Z H Q ⟨U,f,h,v,J,rh,S,q⟩=>by
  refine⟨U,f,h,J,rh,?_⟩;unfold Gu y_ at q
  cases e:mo f h with
  | exc x I=>rw[e] at q;exact q
  | bad=>rw[e] at q;exact q
  | ok u I =>
   rw[e] at q;intro U1 H1 o' r E ro;refine⟨U1,f,I,J.le r,E,?_⟩;dsimp only at q
   cases e2:mi f I with
   | exc x R=>rw[e2] at q;exact XP.le (X:=X) (σp:=f) (x:=x) (h:=R) r q
   | bad=>rw[e2] at q;exact q
   | ok z R =>
    rw[e2] at q;intro U2 H2 i' y l Y;dsimp only at q;have F:=ro.le y;have C:=(S.le r).le y;unfold nu at q
    cases F with
    | @loc n a P =>
     cases Y with
     | int j =>
      dsimp only at q;obtain⟨ob,eo,B⟩:=l.obj P;rw[eo] at q
      cases ob with
      | dic fz ks xs=>exact q.elim
      | exc x=>exact q.elim
      | lst xs =>
       obtain⟨ys,ey,M⟩:=B;dsimp only at q
       cases L:z9 xs.length j with
       | none=>rw[L] at q;exact q.elim
       | some p =>
        rw[L] at q;refine⟨a,ys,j,p,rfl,rfl,ey,by rw[<-M.length];exact L,?_⟩;obtain⟨r3,O⟩:=l.put P (o:=.lst (xs.set p v)) (ho:=.lst (ys.set p v')) ⟨_,rfl,RPs.set C p M⟩;exact q U2 _ Z (r.trans (y.trans O)) r3 (J.le (r.trans (y.trans O)))
     | _=>exact q.elim
    | _=>exact q.elim
structure MIt where
 xs:List PV
 gd:List (Nat × List PV):=[]
def MIt.ok(a:MIt)(h:MH):Prop:=∀p∈a.gd,h[p.1]?=some (.lst p.2)
def nP(X:Cx):Rl MIt It:=λu r f J=>∀U H h (i:Nat),Le u r U H->RH X.K X.mg U H h->f.ok h ->
 (i<f.xs.length->J.go i H/\∀l a,J.yld i H l a->∃j x,Le U H j a/\RH X.K X.mg j a h/\f.xs[i]?=some x/\RP X.K j a x l)/\(f.xs.length<=i->J.stop i H)
def MI(X:Cx)(f a:Expr)(m:Mx MIt):Prop:=PI X f a (tM X (nP X) m)
def PI.imp(h:PI X tg e t)(i:∀Z H Q,t' Z H Q->t Z H Q):PI X tg e t':=λa s Z H Q I q=>h a s Z H Q I (i Z H Q q)
def z5(i:MIt)(g:Mg)(b:n8):List PV->n8
 | []=>λZ h=>if i.ok h then .nx Z h else .bad
 | x::r=>λZ h=>if i.ok h then (match g x Z h with
   | .nx j l=>(match b j l with
    | .nx f a=>z5 i g b r f a
    | .ct f a=>z5 i g b r f a
    | .bk f a=>.nx f a
    | .rt v a=>.rt v a
    | .exc e f a=>.exc e f a
    | .rse e f a=>.rse e f a
    | .bad=>.bad)
   | .exc e j l=>.exc e j l
   | _=>.bad) else .bad
def lh(f:Mx MIt)(g:Mg)(b:n8):n8:=y_ f λa=>z5 a g b a.xs
def t7(gd:Good X N W G k)(hi:MI X tg iter mi)(hg:MG X tg g)(hb:C1 X body mb)
  (hs:∀x,foldedSetIterable iter X.env x=pure x:=by intro _;rfl):MS X (.For tg iter body [] pos) (lh mi g mb):=by
 refine PS.imp (HK gd.po gd.calm hi hg hb hs) λD Z H ⟨U,l,h,rs,rh,q⟩=>⟨U,l,h,rs,rh,bG.ex q λP H1 f J h1 l1 S jr w=>?_⟩;refine⟨λi m Z H=>m=f.xs.length - i/\i<=f.xs.length/\∃U l h,Le P H1 U H/\RS X.K U H l Z/\RH X.K X.mg U H h/\bG X U H (z5 f g mb (f.xs.drop i) l h) D,⟨_,rfl,Cz _,P,l,h1,Le.refl _ _,rs.le l1,S,w⟩,?_⟩;rintro i m Z2 T ⟨rfl,hi,U2,C,Q,l2,M,E,r⟩;by_cases u:i<f.xs.length
 .have ed:f.xs.drop i=f.xs[i]::f.xs.drop (i+1):=Ot u;rw[ed] at r;unfold z5 at r
  split at r
  .rename_i hok
   obtain⟨j1,j2⟩:=jr U2 T Q i l2 E hok;obtain⟨go,yl⟩:=j1 u;refine .inr ⟨go,λZ3 L=>∃R B h3,Le P H1 R L/\RS X.K R L B Z3/\RH X.K X.mg R L h3/\bG X R L (z5 f g mb (f.xs.drop (i+1)) B h3) D,λZ3 L z=>⟨_,by ext,rfl,u,z⟩,λx' H' y=>?_⟩;obtain⟨U',x,l',ai,ex,rx⟩:=yl x' H' y;have al:x=f.xs[i]:=by rw[p_ u] at ex;exact (Option.some.inj ex).symm
   subst al;refine⟨U',C,Q,_,M.le l',ai,rx,?_⟩;have j:=bG.le l' r
   cases eg:g f.xs[i] C Q with
   | nx Z4 h4 =>
    rw[eg] at j;intro U5 H5 Z5 l5 r5 s5;refine⟨U5,Z4,h4,s5,r5,?_⟩;have a:=bG.le l5 j;have l6:Le P H1 U5 H5:=l2.trans (l'.trans l5);dsimp only at a
    cases em:mb Z4 h4 with
    | nx I F=>rw[em] at a;exact λU7 H7 Z7 O Y s7=>⟨U7,I,F,l6.trans O,s7,Y,bG.le O a⟩
    | ct I F=>rw[em] at a;exact λU7 H7 Z7 O Y s7=>⟨U7,I,F,l6.trans O,s7,Y,bG.le O a⟩
    | bk I F=>rw[em] at a;exact a
    | rt v F=>rw[em] at a;exact a
    | exc e I F=>rw[em] at a;exact a
    | rse e I F=>rw[em] at a;exact a
    | bad=>rw[em] at a;exact a
   | exc e Z4 h4=>rw[eg] at j;exact j
   | _=>rw[eg] at j;exact j.elim
  .exact r.elim
 .have e:i=f.xs.length:=by ext
  rw[e,Qc] at r;unfold z5 at r
  split at r
  .rename_i hok
   obtain⟨j1,j2⟩:=jr U2 T Q i l2 E hok;exact .inl ⟨j2 (by ext),r U2 T Z2 (Le.refl _ _) E M⟩
  .exact r.elim
def Gw(v:PV)(h:MH):Out MIt:=match v with
 | .loc n=>(match h[n]? with
  | some (.lst xs)=>.ok ⟨xs,[(n,xs)]⟩ h
  | _=>.bad)
 | .frl xs=>.ok ⟨xs,[]⟩ h
 | _=>.bad
def L9(m:Mx PV):Mx MIt:=λZ h=>(m Z h).bind Gw
def vW(J:∀f j h,Le U H f j->RH X.K X.mg f j h->(⟨xs,gd⟩:MIt).ok h->∃ys,SqL X.K j a ys/\RPs X.K f j xs ys):nP X U H ⟨xs,gd⟩ (QO X.K a):=by
 intro f j h i l C ok;obtain⟨ys,u,E⟩:=J f j h l C ok;refine⟨λr=>?_,λr=>⟨ys,u,by rw[<-E.length];exact r⟩⟩;have F:xs[i]?=some (xs[i]'r):=p_ r;obtain⟨y,B,I⟩:=E.get F;refine⟨⟨ys,y,u,B⟩,λL M ⟨e,z⟩=>?_⟩;subst e
 have:ys[i]?=some L:=z ys u
 rw[B] at this;cases this;exact⟨f,_,Le.refl _ _,C,F,I⟩
def ES(J:ME X l m):MI X tg l (L9 m) :=
 PI.imp (EB J) λZ H Q ⟨U,B,h,P,O,q⟩=>⟨U,B,h,P,O,Ful.bind q λC E x x' h1 _ Y f I q1=>by
  cases I with
  | @loc n a e =>
   obtain⟨R,eo,u⟩:=f.obj e;dsimp only[Gw] at q1;rw[eo] at q1
   cases R with
   | dic fz ks xs=>exact q1.elim
   | exc x=>exact q1.elim
   | lst xs =>
    obtain⟨ys,L,T⟩:=u;refine⟨a,rfl,⟨ys,SqL.of L⟩,q1 C E _ (Le.refl _ _) f (vW λF M S l i ok=>?_)⟩;obtain⟨j,y,z⟩:=i.at' n a _ (l.get e) (ok (n,xs) (by simp));exact⟨j,SqL.of y,z⟩
  | frl s r =>
   exact⟨_,rfl,⟨_,s.sq⟩,q1 C E _ (Le.refl _ _) f (vW λF M S l i ok=>⟨_,(l.sqf s).sq,r.le l⟩)⟩
  | _=>exact q1.elim⟩
def L_(m:Mx PV):Mx MIt:=λZ h=>(m Z h).bind λv a=>match v with
 | .tup xs=>.ok ⟨xs,[]⟩ a
 | _=>.bad
def Ix(O:ME X l m):MI X tg l (L_ m) :=
 PI.imp (HJ O) λZ H Q ⟨U,C,h,Y,T,q⟩=>⟨U,C,h,Y,T,Ful.bind q λR S x I h1 _ l1 j M q1=>by
  cases M with
  | @tup xs a ys s r =>
   refine⟨_,rfl,⟨_,s⟩,q1 R S _ (Le.refl _ _) j ?_⟩;intro J H' h' i l B ok;have u:=l.sqt s;have P:=r.le l;refine⟨λf=>?_,λf=>⟨ys,u,by rw[<-r.length];exact f⟩⟩;have F:xs[i]?=some (xs[i]'f):=p_ f;obtain⟨y,E,L⟩:=P.get F;refine⟨⟨ys,y,u,E⟩,λI H2 ⟨e,z⟩=>?_⟩;subst e
   have:ys[i]?=some I:=z ys u
   rw[E] at this;cases this;exact⟨J,_,Le.refl _ _,B,F,L⟩
  | _=>exact q1.elim⟩
def bZ(lo:Int)(n:Nat):List PV:=(List.range n).map λ(i:Nat)=>PV.int (lo+(i:Int))
def yt(lo:Int)(n:Nat):(bZ lo n).length=n:=by simp[bZ]
def ET(lo:Int)(n:Nat):nP X U H ⟨bZ lo n,[]⟩ (OW lo n):=by
 intro j u h i l r ok;have f:(bZ lo n).length=n:=yt lo n;refine⟨λa=>⟨by rw[f] at a;exact a,λy z ⟨e1,e2⟩=>?_⟩,λa=>by rw[f] at a;exact a⟩;subst e1;subst e2;rw[f] at a;exact⟨j,.int (lo+i),Le.refl _ _,r,by simp[bZ,a],.int _⟩
def eR(m:Mx (List PV)):Mx MIt:=λZ h=>(m Z h).bind λf a=>match f with
 | [.int j]=>if -(2 ^ 62)<=j/\j<2 ^ 62 then .ok ⟨bZ 0 j.toNat,[]⟩ a else .bad
 | _=>.bad
def qE(I:Gl X "range")(C:X.mg "range"=none)(u:MA X [a] m)(J:starEach [a] X.env=[(false,eval a X.env)]:=by rfl):MI X tg (.Call (.Name "range" p) [a] [] pos) (eR m):=by
 refine PI.imp (At I C u J) λZ H Q ⟨U,i,h,L,F,q⟩=>⟨U,i,h,L,F,Ful.bind q λz E x S P _ O f y q1=>?_⟩
 cases y with
 | nil=>exact q1.elim
 | cons r B =>
  cases B with
  | nil =>
   cases r with
   | int j =>
    dsimp only at q1
    split at q1
    .rename_i l
     exact⟨j,rfl,l.1,l.2,q1 z E _ (Le.refl _ _) f (ET 0 j.toNat)⟩
    .exact q1.elim
   | _=>exact q1.elim
  | cons R M=>cases r <;> exact q1.elim
def ck(c:Mx Bool)(b:n8):Nat->n8
 | 0=>λ_ _=>.bad
 | n+1=>y_ c λx=>if x=true then (λZ h=>match b Z h with
   | .nx f a=>ck c b n f a
   | .ct f a=>ck c b n f a
   | .bk f a=>.nx f a
   | .rt v a=>.rt v a
   | .exc e f a=>.exc e f a
   | .rse e f a=>.rse e f a
   | .bad=>.bad) else ox
def Iy(c:Mx Bool)(b:n8):n8:=λZ h=>if z:∃n,ck c b n Z h≠.bad then ck c b (Classical.choose z) Z h else .bad
def lL:∀{n:Nat} {Z:oe} {h:MH},ck c b n Z h≠.bad->ck c b (n+1) Z h=ck c b n Z h
 | 0,_,_,q=>absurd rfl q
 | n+1,Z,h,q=>by
  rw[ck] at q
  conv=>lhs;rw[ck]
  conv=>rhs;rw[ck]
  unfold y_ at q ⊢
  cases e:c Z h with
  | exc x a=>rfl
  | bad=>rfl
  | ok x a =>
   rw[e] at q;dsimp only at q ⊢
   cases x with
   | false=>rfl
   | true =>
    simp only[if_true] at q ⊢
    cases em:b Z a with
    | nx i f=>rw[em] at q;exact lL q
    | ct i f=>rw[em] at q;exact lL q
    | _=>rfl
def wW(q:ck c b n Z h≠.bad)(l:n<=m):ck c b m Z h=ck c b n Z h:=by
 induction l with
 | refl=>rfl
 | step l a=>rw[lL (by rw[a];exact q),a]
def lT(q:ck c b n Z h≠.bad):Iy c b Z h=ck c b n Z h:=by
 have z:∃n,ck c b n Z h≠.bad:=⟨n,q⟩;unfold Iy;rw[dif_pos z];have a:=Classical.choose_spec z;rcases Nat.le_total n (Classical.choose z) with l|l
 .exact wW q l
 .exact (wW a l).symm
def AV(gd:Good X N W G k)(L:MT X c mc)(hb:C1 X body mb):MS X (.While c body [] pos) (Iy mc mb):=by
 refine PS.imp (AR gd.po L hb) λD Z H ⟨U,a,h,T,R,q⟩=>?_;refine⟨λm Z H=>∃U a h,RS X.K U H a Z/\RH X.K X.mg U H h/\bG X U H (ck mc mb m a h) D,?_,?_⟩
 .unfold Iy at q
  split at q
  .exact⟨_,U,a,h,T,R,q⟩
  .exact q.elim
 .rintro m M H1 ⟨O,f,S,i,u,q1⟩
  cases m with
  | zero=>exact q1.elim
  | succ m =>
   rw[ck] at q1;refine⟨O,f,S,i,u,bG.ex q1 λF P v v' J E I z w=>?_⟩;cases z
   cases v with
   | false=>rw[g_ DB] at w ⊢;exact w F P M (Le.refl _ _) I (i.le E)
   | true =>
    rw[d_ rfl] at w ⊢;refine⟨λZ H=>∃U a h,RS X.K U H a Z/\RH X.K X.mg U H h/\bG X U H (ck mc mb m a h) D,λZ' H' z=>⟨m,OF _,z⟩,F,f,J,i.le E,I,?_⟩
    cases em:mb f J with
    | nx l j=>rw[em] at w;exact λC Y Q r B y=>⟨C,l,j,y,B,bG.le r w⟩
    | ct l j=>rw[em] at w;exact λC Y Q r B y=>⟨C,l,j,y,B,bG.le r w⟩
    | bk l j=>rw[em] at w;exact w
    | rt v j=>rw[em] at w;exact w
    | exc e l j=>rw[em] at w;exact w
    | rse e l j=>rw[em] at w;exact w
    | bad=>rw[em] at w;exact w
def cq(f:PV->Option PyData):List PV->Option (List PyData)
 | []=>some []
 | x::r=>match f x,cq f r with
  | some d,some a=>some (d::a)
  | _,_=>none
def rd:Nat->MH->PV->Option PyData
 | 0,_,v=>(match v with
  | .non=>some .none
  | .bl b=>some (.bool b)
  | .int i=>some (.int i)
  | .str x=>some (.str x)
  | _=>none)
 | n+1,h,v=>(match v with
  | .non=>some .none
  | .bl b=>some (.bool b)
  | .int i=>some (.int i)
  | .str x=>some (.str x)
  | .tup xs=>(cq (rd n h) xs).map PyData.tuple
  | .frl xs=>(cq (rd n h) xs).map PyData.list
  | .loc m=>(match h[m]? with
   | some (.lst xs)=>(cq (rd n h) xs).map PyData.list
   | _=>none))
def eY{y:Heap}{f:PV->Option PyData}{K:hR}{U:List Addr}{H:Hp}(hf:∀v l u d,RP K U H v l->aS l u->f v=some d->∃j,Reads y u d j) :
  ∀{xs:List PV} {ys:List V} {i:List Value} {a:List PyData},RPs K U H xs ys->aJ ys i->cq f xs=some a->∃j,ReadsAll y i a j:=by
 intro xs
 induction xs with
 | nil =>
  intro ys i a r v e;cases r;cases v;cases e;exact⟨_,.nil⟩
 | cons x xs C =>
  intro ys i a r v e;cases r with|cons r t=>cases v with|cons v w =>
  simp only[cq] at e
  split at e
  .rename_i d B e1 e2
   cases e;obtain⟨F,q1⟩:=hf _ _ _ _ r v e1;obtain⟨E,z⟩:=C t w e2;exact⟨_,.cons q1 z⟩
  .cases e
def d7{F:List (Addr × Obj)}{Z:L2.St}{H:Hp}{s:Shared}{U:List Addr}{h:MH}(I:Inv X F Z H s)(M:RH X.K X.mg U H h) :
  ∀(n:Nat) (v:PV) (y:V) (u:Value) (d:PyData),RP X.K U H v y->aS y u->rd n h v=some d->∃z,Reads s.heap u d z:=by
 intro n
 induction n with
 | zero =>
  intro v y u d rp r e
  cases rp with
  | non=>cases e;cases r;exact⟨_,.none⟩
  | bl b=>cases e;cases r;exact⟨_,.bool b⟩
  | int i=>cases e;obtain⟨t,rfl⟩:=r;exact⟨_,.int i t⟩
  | str i=>cases e;obtain⟨t,rfl⟩:=r;exact⟨_,.str i t⟩
  | _=>cases e
 | succ n C =>
  intro v y u d rp r e
  cases rp with
  | non=>cases e;cases r;exact⟨_,.none⟩
  | bl b=>cases e;cases r;exact⟨_,.bool b⟩
  | int i=>cases e;obtain⟨t,rfl⟩:=r;exact⟨_,.int i t⟩
  | str i=>cases e;obtain⟨t,rfl⟩:=r;exact⟨_,.str i t⟩
  | @tup xs a ys s rr =>
   cases r;simp only[rd] at e
   cases q:cq (rd n h) xs with
   | none=>rw[q] at e;cases e
   | some E =>
    rw[q] at e;cases e;obtain⟨j,f,⟨o,e1,e2,m,e3⟩,_⟩:=I.tuple s;obtain⟨z,l⟩:=eY (C) rr f q;exact⟨_,.tuple e1 e2 e3 (by simpa using l)⟩
  | @frl xs a ys s rr =>
   cases r;simp only[rd] at e
   cases q:cq (rd n h) xs with
   | none=>rw[q] at e;cases e
   | some E =>
    rw[q] at e;cases e;obtain⟨j,f,⟨o,m,e1,e2,_,e3⟩,_⟩:=I.list s.sq;obtain⟨z,l⟩:=eY (C) rr f q;exact⟨_,.list e1 e2 e3 (by simpa using l)⟩
  | loc O =>
   cases r;simp only[rd] at e;obtain⟨P,eo,B⟩:=M.obj O;rw[eo] at e
   cases P with
   | dic fz R xs=>cases e
   | exc x=>cases e
   | lst xs =>
    obtain⟨ys,L,J⟩:=B;dsimp only at e
    cases q:cq (rd n h) xs with
    | none=>rw[q] at e;cases e
    | some E =>
     rw[q] at e;cases e;obtain⟨j,f,⟨o,Q,e1,e2,_,e3⟩,_⟩:=I.list (SqL.of (K:=X.K) L);obtain⟨z,l⟩:=eY (C) J f q;exact⟨_,.list e1 e2 e3 (by simpa using l)⟩
def CA(x y:PV)(h:MH):Out PV:=match rd 60 h x,rd 60 h y with
 | some a,some b=>if SeqAt.shaped a=true/\SeqAt.shaped b=true then .ok (.bl (PyData.eqv a b)) h else .bad
 | _,_=>.bad
def CC(x y:PV)(h:MH):Out PV:=match rd 60 h x,rd 60 h y with
 | some a,some b=>if SeqAt.shaped a=true/\SeqAt.shaped b=true then .ok (.bl (!PyData.eqv a b)) h else .bad
 | _,_=>.bad
def yA(L:Room k X.A):Cm X (compareOp .Eq) CA:=by
 intro O s Z H M r u v Q I f i ⟨U,h,x,y,j,C,z,q⟩;unfold CA at q
 split at q
 .rename_i a b J E
  split at q
  .rename_i l
   obtain⟨_,B⟩:=d7 I j 60 x M u a C f J;obtain⟨_,F⟩:=d7 I j 60 y r v b z i E;exact eq_dataH B F l.1 l.2 L.units ⟨.bl _,H,I,rfl,q U H _ (Le.refl _ _) j (.bl _)⟩
  .exact q.elim
 .exact q.elim
def yj(L:Room k X.A):Cm X (compareOp .NotEq) CC:=by
 intro O s Z H M r u v Q I f i ⟨U,h,x,y,j,C,z,q⟩;unfold CC at q
 split at q
 .rename_i a b J E
  split at q
  .rename_i l
   obtain⟨_,B⟩:=d7 I j 60 x M u a C f J;obtain⟨_,F⟩:=d7 I j 60 y r v b z i E;exact ne_dataH B F l.1 l.2 L.units ⟨.bl _,H,I,rfl,q U H _ (Le.refl _ _) j (.bl _)⟩
  .exact q.elim
 .exact q.elim
def pz(f:Int->Int->PV):PV->PV->MH->Out PV:=λx y h=>match x,y with
 | .int i,.int j=>.ok (f i j) h
 | _,_=>.bad
def rY(J:OpR X F (Gp f))(a:∀U H i j,RP X.K U H (g i j) (f i j)):Cm X F (pz g):=by
 intro z s Z H M L u v Q I l r ⟨U,h,x,y,E,C,B,q⟩;unfold pz at q
 split at q
 .cases C;cases B;exact J z s Z H _ _ u v Q I l r ⟨_,_,rfl,rfl,q U H _ (Le.refl _ _) E (a U H _ _)⟩
 .exact q.elim
def DM:=pz λi j=>.bl (decide (i<j))
def DN:=pz λi j=>.bl (decide (j<i))
def DO:=pz λi j=>.bl (decide (j<=i))
def Gx:Cm X (compareOp .Lt) DM:=rY LL λ_ _ _ _=>.bl _
def Gy:Cm X (compareOp .Gt) DN:=rY LM λ_ _ _ _=>.bl _
def Ma:Cm X (compareOp .GtE) DO:=rY LN λ_ _ _ _=>.bl _
def lp(x y:PV)(h:MH):Out PV:=match x,y with
 | .int i,.int j=>if IntMulOk i j then .ok (.int (i * j)) h else .bad
 | .loc n,.int j=>(match h[n]? with
  | some (.lst xs)=>if -(2 ^ 63)<=j/\j<2 ^ 63 then ql (List.flatten (List.replicate j.toNat xs)) h else .bad
  | _=>.bad)
 | _,_=>.bad
def De(x y:PV)(h:MH):Out PV:=match x,y with
 | .int i,.int j=>if j≠0 then .ok (.int (i.fdiv j)) h else .bad
 | _,_=>.bad
def ny(x y:PV)(h:MH):Out PV:=match x,y with
 | .int i,.int j=>if j≠0 then .ok (.int (i.fmod j)) h else .bad
 | _,_=>.bad
def sv(x y:PV)(h:MH):Out PV:=match x,y with
 | .int i,.int j=>if gv i j then .ok (.int (i ^ j.toNat)) h else .bad
 | _,_=>.bad
def l7(x y:PV)(h:MH):Out PV:=match x,y with
 | .int i,.int j=>.ok (.int (i+j)) h
 | .str a,.str b=>if a.length+b.length<=sizeLine then .ok (.str (a++b)) h else .bad
 | .loc n,.loc m=>(match h[n]?,h[m]? with
  | some (.lst xs),some (.lst ys)=>ql (xs++ys) h
  | _,_=>.bad)
 | .tup xs,.tup ys=>if xs≠[] then z_ (xs++ys) h else .bad
 | _,_=>.bad
def C2:=pz λi j=>.int (i - j)
def DP(x:PV)(h:MH):Out PV:=match x with
 | .int i=>.ok (.int (-i)) h
 | _=>.bad
def ue:Cm X (binaryOp .Sub) C2:=rY HP λ_ _ _ _=>.int _
def Iz:S9 X (unaryOp .USub) DP:=by
 intro f s Z H r u Q I a ⟨U,h,x,l,j,q⟩
 cases j with
 | int i=>exact HR f s Z H _ u Q I a ⟨i,rfl,q U H _ (Le.refl _ _) l (.int _)⟩
 | _=>exact q.elim
def Ua{y:List (Addr × Obj)}{Z:L2.St}{H:Hp}{s:Shared}(j:Room k X.A)(I:Inv X y Z H s):PylongRoom (model X.prog X.w) X.A s:=by
 obtain⟨e,l,a,i,u,r,f⟩:=I.ok.top;exact PylongRoom.of I.nolimit (by have:=j.dp;show X.A.depth+100<_;ext) (SeerAt.of (I.ok.mod.seer.keeps I.bk) I.ok.tree (I.ok.frames.trans (congrArg some a)) i u r f)
def xR(C:Room k X.A):Cm X (binaryOp .FloorDiv) De:=by
 intro J s Z H L E u v Q I a f ⟨U,h,x,y,B,r,l,q⟩;unfold De at q
 split at q
 .rename_i i j
  cases r;cases l;obtain⟨t,rfl⟩:=a;obtain⟨F,rfl⟩:=f;by_cases z:j≠0
  .rw[d_ z] at q;exact floordiv_int z ⟨.int _,H,I.tok _,⟨_,rfl⟩,q U H _ (Le.refl _ _) B (.int _)⟩ (.inr (Ua C I))
  .rw[g_ z] at q;exact q.elim
 .exact q.elim
def d5:Cm X (binaryOp .Mod) ny:=by
 intro F s Z H J C u v Q I a f ⟨U,h,x,y,B,z,l,q⟩;unfold ny at q
 split at q
 .rename_i i j
  cases z;cases l
  split at q
  .rename_i r
   obtain⟨t,rfl⟩:=a;obtain⟨E,rfl⟩:=f;exact mod_int' r ⟨.int _,H,I.tok _,⟨_,rfl⟩,q U H _ (Le.refl _ _) B (.int _)⟩
  .exact q.elim
 .exact q.elim
def sL:Cm X (binaryOp .Pow) sv:=by
 intro C s Z H F E u v Q I a f ⟨U,h,x,y,B,z,l,q⟩;unfold sv at q
 split at q
 .rename_i i j
  cases z;cases l
  split at q
  .rename_i r
   exact HQ C s Z H _ _ u v Q I a f ⟨i,j,rfl,rfl,r,q U H _ (Le.refl _ _) B (.int _)⟩
  .exact q.elim
 .exact q.elim
def dz:Cm X (binaryOp .Add) l7:=by
 intro F s Z H x' y' u v Q I f l ⟨U,h,x,y,r,Y,B,q⟩
 cases Y with
 | int i =>
  cases B with
  | int j=>exact HN F s Z H _ _ u v Q I f l ⟨i,j,rfl,rfl,q U H _ (Le.refl _ _) r (.int _)⟩
  | _=>exact q.elim
 | str a =>
  cases B with
  | str b =>
   dsimp only[l7] at q
   split at q
   .rename_i hl
    exact yf F s Z H _ _ u v Q I f l ⟨a,b,rfl,rfl,hl,q U H _ (Le.refl _ _) r (.str _)⟩
   .exact q.elim
  | _=>exact q.elim
 | @loc n a e =>
  cases B with
  | @loc m b e2 =>
   dsimp only[l7] at q;obtain⟨o1,h1,C⟩:=r.obj e;obtain⟨T,h2,E⟩:=r.obj e2;rw[h1,h2] at q
   cases o1 with
   | dic fz ks xs=>exact q.elim
   | exc x=>exact q.elim
   | lst xs =>
    cases T with
    | dic fz ks xs=>exact q.elim
    | exc x=>exact q.elim
    | lst ys =>
     obtain⟨M,ex,R⟩:=C;obtain⟨J,ey,O⟩:=E;obtain⟨z1,L⟩:=mP r (R.append O) q;exact Ib F s Z H _ _ u v Q I f l ⟨a,b,M,J,rfl,rfl,ex,ey,by rw[<-Dj];exact z1,L⟩
  | _=>exact q.elim
 | tup S C =>
  cases B with
  | tup s2 E =>
   dsimp only[l7] at q
   split at q
   .rename_i P
    obtain⟨z1,L⟩:=wc r (C.append E) q;refine EK F s Z H _ _ u v Q I f l ⟨_,_,_,_,rfl,rfl,S,s2,?_,by rw[<-Dj];exact z1,λz=>?_,λ_=>L⟩
    .rintro rfl;cases C;exact P rfl
    .subst z;cases E;unfold z_ at q
     split at q
     .exact q U H _ (Le.refl _ _) r (by rw[DC];exact .tup S C)
     .exact q.elim
   .exact q.elim
  | _=>exact q.elim
 | _=>cases B <;> exact q.elim
def RPs.rep{K:hR}{U:List Addr}{H:Hp}{xs:List PV}{ys:List V}(r:RPs K U H xs ys):∀n:Nat,RPs K U H (List.replicate n xs).flatten (List.replicate n ys).flatten
 | 0=>.nil
 | n+1=>by rw[DF,DF,Ep,Ep];exact r.append (RPs.rep r n)
def gR:Cm X (binaryOp .Mult) lp:=by
 intro R s Z H x' S u v Q I f l ⟨U,h,x,y,B,L,r,q⟩
 cases L with
 | int i =>
  cases r with
  | int j =>
   dsimp only[lp] at q
   split at q
   .rename_i J
    obtain⟨t,rfl⟩:=f;obtain⟨Y,rfl⟩:=l;exact PyProof.Rows.mul_int ⟨.int _,H,I.tok _,⟨_,rfl⟩,q U H _ (Le.refl _ _) B (.int _)⟩ J
   .exact q.elim
  | _=>exact q.elim
 | @loc n a e =>
  cases r with
  | int j =>
   dsimp only[lp] at q;obtain⟨M,O,P⟩:=B.obj e;rw[O] at q
   cases M with
   | dic fz T xs=>exact q.elim
   | exc x=>exact q.elim
   | lst xs =>
    dsimp only at q
    split at q
    .rename_i E
     obtain⟨z,ex,C⟩:=P;obtain⟨z1,F⟩:=mP B (C.rep j.toNat) q;refine Ic R s Z H _ _ u v Q I f l ⟨a,j,z,rfl,rfl,ex,E.1,E.2,?_,F⟩;rw[wn] at z1;rw[OO];exact z1
    .exact q.elim
  | _=>exact q.elim
 | _=>cases r <;> exact q.elim
def bu(x y:PV)(h:MH):Out PV:=match y with
 | .int i=>(match x with
  | .loc n=>(match h[n]? with
   | some (.lst xs)=>(match nk xs i with
    | some v=>.ok v h
    | none=>.bad)
   | _=>.bad)
  | .tup xs=>(match nk xs i with
   | some v=>.ok v h
   | none=>.bad)
  | .frl xs=>(match nk xs i with
   | some v=>.ok v h
   | none=>.bad)
  | .str z=>(match nk z.cps.toList i with
   | some c=>if z.length<=sizeLine then .ok (.str ⟨#[c]⟩) h else .bad
   | none=>.bad)
  | _=>.bad)
 | _=>.bad
def p8{K:hR}{U:List Addr}{H:Hp}{xs:List PV}{ys:List V}{i:Int}{v:PV}(r:RPs K U H xs ys)(e:nk xs i=some v):∃a,nk ys i=some a/\RP K U H v a:=by
 unfold nk at e ⊢;rw[<-r.length]
 cases q:z9 xs.length i with
 | none=>rw[q] at e;cases e
 | some j =>
  rw[q] at e;exact r.get e
def xP{a b:Expr}{R P:Mx PV}{I:Pos}(ha:ME X a R)(hb:ME X b P)(hs:ir b):ME X (.Subscript a b I) (aC bu R P):=by
 refine PE.imp (LV HZ ha hb hs) λZ H Q q=>?_;obtain⟨U,B,h,S,rh,q⟩:=q;refine⟨U,B,h,S,rh,Ful.bind q λU1 H1 x x' h1 _ l1 L rx q1=>⟨U1,B,h1,S.le l1,L,Ful.bind q1 λE F y y' h2 _ T l Y f=>?_⟩⟩;have O:=rx.le T
 cases Y with
 | int i =>
  cases O with
  | @loc n a e =>
   obtain⟨ob,eo,J⟩:=l.obj e;dsimp only[bu] at f;rw[eo] at f
   cases ob with
   | dic fz ks xs=>exact f.elim
   | exc x=>exact f.elim
   | lst xs =>
    obtain⟨ys,ey,rr⟩:=J;dsimp only at f
    cases j:nk xs i with
    | none=>rw[j] at f;exact f.elim
    | some v =>
     rw[j] at f;obtain⟨u,C,r⟩:=p8 rr j;exact .inl ⟨a,ys,i,u,rfl,rfl,SqL.of ey,C,f E F _ (Le.refl _ _) l r⟩
  | @tup xs a ys M rr =>
   dsimp only[bu] at f
   cases j:nk xs i with
   | none=>rw[j] at f;exact f.elim
   | some v =>
    rw[j] at f;obtain⟨u,C,r⟩:=p8 rr j;exact .inr (.inl ⟨_,_,i,u,rfl,rfl,M,C,f E F _ (Le.refl _ _) l r⟩)
  | @frl xs a ys M rr =>
   dsimp only[bu] at f
   cases j:nk xs i with
   | none=>rw[j] at f;exact f.elim
   | some v =>
    rw[j] at f;obtain⟨u,C,r⟩:=p8 rr j;exact .inl ⟨_,_,i,u,rfl,rfl,M.sq,C,f E F _ (Le.refl _ _) l r⟩
  | str z =>
   dsimp only[bu] at f
   cases j:nk z.cps.toList i with
   | none=>rw[j] at f;exact f.elim
   | some c =>
    rw[j] at f;dsimp only at f
    split at f
    .rename_i hz
     exact .inr (.inr ⟨z,i,c,rfl,rfl,hz,j,f E F _ (Le.refl _ _) l (.str _)⟩)
    .exact f.elim
  | _=>exact f.elim
 | _=>exact f.elim
def z6(f:List PV->MH->Out PV)(m:Mx (List PV)):Mx PV:=λZ h=>(m Z h).bind λxs a=>(f xs a).ne
section
variable {x:Str} {id T:String} {e:Expr} {es:List Expr} {f:List PV->MH->Out PV} {m:Mx (List PV)} {p pos:Pos}
def Gz{Z:L2.St}{H:Hp}{Q:VK}(q:tM X (RV' X) (z6 f m) Z H Q):QW (cJ X f) (tM X (RVs' X) m) Z H Q:=by
 obtain⟨U,i,h,y,r,q⟩:=q;exact⟨U,i,h,y,r,Ful.bind q λl B x C u _ z a j q1=>⟨l,u,x,a,j,q1.zero⟩⟩
def sY(g:Good X N W G k)(j:Nat)(i:G[j]?=some x)(u:dw X (.builtin id) f)(r:X.mg x=none)(hv:bootBuiltins x=some (.builtin id))(l:MA X (e::es) m)
  (y:starEach (e::es) X.env=(false,eval e X.env)::starEach es X.env:=by rfl) (a:(backTo pos (starEach es X.env)).any (·.1)=false:=by rfl):ME X (.Call (.Name x p) (e::es) [] pos) (z6 f m) :=
 have d:=g.dbg x (z4 _ (bo i))
 PE.imp (oj u (g.gl x (bo i)) r hv l d.2.2 d.1 y a) λ_ _ _ q=>Gz q
def qK(g:Good X N W G k)(j:Nat)(i:G[j]?=some x)(u:dw X (.type T) f)(r:X.mg x=none)(hv:bootBuiltins x=some (.type T))(l:MA X (e::es) m)
  (y:starEach (e::es) X.env=(false,eval e X.env)::starEach es X.env:=by rfl) (a:(backTo pos (starEach es X.env)).any (·.1)=false:=by rfl):ME X (.Call (.Name x p) (e::es) [] pos) (z6 f m) :=
 have d:=g.dbg x (z4 _ (bo i))
 PE.imp (qP u (g.gl x (bo i)) r hv l d.2.2 d.1 y a) λ_ _ _ q=>Gz q
end
def CM(xs:List PV)(h:MH):Out PV:=match xs with
 | [.int i]=>.ok (.int (if i<0 then -i else i)) h
 | _=>.bad
def Df(xs:List PV)(h:MH):Out PV:=match xs with
 | [.int i,.int j]=>.ok (.int (if j<i then j else i)) h
 | _=>.bad
def DQ(xs:List PV)(h:MH):Out PV:=match xs with
 | [.int i]=>.ok (.int i) h
 | [.bl b]=>.ok (.int (if b then 1 else 0)) h
 | _=>.bad
def vl(xs:List PV)(h:MH):Out PV:=match xs with
 | [.loc n]=>(match h[n]? with
  | some (.lst ys)=>.ok (.int ys.length) h
  | _=>.bad)
 | [.tup ys]=>.ok (.int ys.length) h
 | [.frl ys]=>.ok (.int ys.length) h
 | [.str z]=>if z.length<=sizeLine then .ok (.int z.length) h else .bad
 | _=>.bad
def u4:dw X (.builtin "abs") CM:=by
 intro u s Z H xs l Q I r ⟨U,h,ps,j,rp,q⟩
 cases rp with
 | nil=>exact q.elim
 | cons a f =>
  cases f with
  | cons _ _=>cases a <;> exact q.elim
  | nil =>
   cases a with
   | int i=>exact Co u s Z H _ l Q I r ⟨i,rfl,q U H _ (Le.refl _ _) j (.int _)⟩
   | _=>exact q.elim
def BZ{f:List PV->MH->Out PV}{F:Int->Int->Int}{r:List V->Hp->VK->Prop}{a:Value}(hf:∀i j h,f [.int i,.int j] h=.ok (.int (F i j)) h)(M:∀xs h,(∀i j,xs≠[.int i,.int j])->f xs h=.bad)
  (u:dY X a (λxs H Q=>∃i j,xs=[.int i,.int j]/\Q (.int (F i j)) H)):dw X a f:=by
 intro l s Z H xs E Q I r ⟨U,h,ps,C,rp,q⟩;by_cases z:∃i j,ps=[.int i,.int j]
 .obtain⟨i,j,rfl⟩:=z
  cases rp with
  | cons L B=>cases B with
   | cons J y =>
    cases y;cases L;cases J;rw[hf] at q;exact u l s Z H _ E Q I r ⟨i,j,rfl,q U H _ (Le.refl _ _) C (.int _)⟩
 .rw[M ps h λi j e=>z ⟨i,j,e⟩] at q;exact q.elim
def zR(g:Good X N W G k):dw X (.builtin "min") Df:=BZ (r:=λ_ _ _=>True) (F:=λi j=>if j<i then j else i) (λ_ _ _=>rfl) (λxs h z=>by unfold Df;split <;> first | rfl | exact absurd rfl (z _ _)) (yN g.calm)
def Ao:dw X (.type "int") DQ:=by
 intro j s Z H xs f Q I r ⟨U,h,ps,a,rp,q⟩
 cases rp with
 | nil=>exact q.elim
 | cons l u =>
  cases u with
  | cons _ _=>cases l <;> exact q.elim
  | nil =>
   cases l with
   | int i=>exact qv j s Z H _ f Q I r (.inl ⟨i,rfl,q U H _ (Le.refl _ _) a (.int _)⟩)
   | bl b=>exact qv j s Z H _ f Q I r (.inr ⟨b,rfl,q U H _ (Le.refl _ _) a (.int _)⟩)
   | _=>exact q.elim
def lR:dw X (.builtin "len") vl:=by
 intro j s Z H xs i Q I r ⟨U,h,ps,f,rp,q⟩
 cases rp with
 | nil=>exact q.elim
 | cons y C =>
  cases C with
  | cons _ _=>cases y <;> exact q.elim
  | nil =>
   cases y with
   | @loc n a e =>
    obtain⟨F,eo,l⟩:=f.obj e;dsimp only[vl] at q;rw[eo] at q
    cases F with
    | dic fz J xs=>exact q.elim
    | exc x=>exact q.elim
    | lst xs =>
     obtain⟨ys,B,rr⟩:=l;exact kn j s Z H _ i Q I r ⟨_,_,rfl,.inl ⟨ys,SqL.of B,rfl⟩,by rw[<-rr.length];exact q U H _ (Le.refl _ _) f (.int _)⟩
   | tup u rr=>exact kn j s Z H _ i Q I r ⟨_,_,rfl,.inr ⟨_,u,rfl⟩,by rw[<-rr.length];exact q U H _ (Le.refl _ _) f (.int _)⟩
   | frl u rr=>exact kn j s Z H _ i Q I r ⟨_,_,rfl,.inl ⟨_,u.sq,rfl⟩,by rw[<-rr.length];exact q U H _ (Le.refl _ _) f (.int _)⟩
   | str z =>
    dsimp only[vl] at q
    split at q
    .rename_i E
     exact kn j s Z H _ i Q I r ⟨_,_,rfl,⟨E,rfl⟩,q U H _ (Le.refl _ _) f (.int _)⟩
    .exact q.elim
   | _=>exact q.elim
def GA(h:MH):PV->Option String
 | .non=>some "NoneType"
 | .bl _=>some "bool"
 | .int _=>some "int"
 | .str _=>some "str"
 | .tup _=>some "tuple"
 | .frl _=>some "list"
 | .loc n=>match h[n]? with
  | some (.lst _)=>some "list"
  | some (.dic _ _ _)=>some "dict"
  | _=>none
def eT(t:String)(T:String):Bool:=t == T || (t == "bool" && T == "int")
def u5(a:List String)(x:PV)(h:MH):Out PV:=match GA h x with
 | some t=>.ok (.bl (a.any (eT t))) h
 | none=>.bad
def IA(T:String):Prop:=∀K:hR,∀t∈["NoneType","bool","int","str","tuple","list","dict"],PySem.W.kitOne K (.type t) (.type T)=some (eT t T)
def oX(f:∀K,PySem.W.kitOne K (.type "NoneType") (.type T)=some (eT "NoneType" T))(j:∀K,PySem.W.kitOne K (.type "bool") (.type T)=some (eT "bool" T))(u:∀K,PySem.W.kitOne K (.type "int") (.type T)=some (eT "int" T))
  (r:∀K,PySem.W.kitOne K (.type "str") (.type T)=some (eT "str" T)) (i:∀K,PySem.W.kitOne K (.type "tuple") (.type T)=some (eT "tuple" T)) (y:∀K,PySem.W.kitOne K (.type "list") (.type T)=some (eT "list" T))
  (l:∀K,PySem.W.kitOne K (.type "dict") (.type T)=some (eT "dict" T)):IA T:=by
 intro K t a;simp only[ml,Ef,or_false] at a;rcases a with rfl|rfl|rfl|rfl|rfl|rfl|rfl
 .exact f K
 .exact j K
 .exact u K
 .exact r K
 .exact i K
 .exact y K
 .exact l K
def EU:IA "int":=oX (λ_=>rfl) (λ_=>rfl) (λ_=>rfl) (λ_=>rfl) (λ_=>rfl) (λ_=>rfl) (λ_=>rfl)
def BK:IA "bool":=oX (λ_=>rfl) (λ_=>rfl) (λ_=>rfl) (λ_=>rfl) (λ_=>rfl) (λ_=>rfl) (λ_=>rfl)
def A8:IA "list":=oX (λ_=>rfl) (λ_=>rfl) (λ_=>rfl) (λ_=>rfl) (λ_=>rfl) (λ_=>rfl) (λ_=>rfl)
def yJ:IA "tuple":=oX (λ_=>rfl) (λ_=>rfl) (λ_=>rfl) (λ_=>rfl) (λ_=>rfl) (λ_=>rfl) (λ_=>rfl)
def kitx_of{F:List (Addr × Obj)}{Z:L2.St}{H:Hp}{s:Shared}{U:List Addr}{h:MH}{x:PV}{E:V}{u:Value}{t:String}(I:Inv X F Z H s)(L:RH X.K X.mg U H h)(J:RP X.K U H x E)(f:aS E u)(e:GA h x=some t) :
  t∈["NoneType","bool","int","str","tuple","list","dict"]/\u≠.builtin "__main__.__loader__#opaque"/\∃C,PySem.W.KitX X.K u (.type t) C/\C s.heap:=by
 cases J with
 | non=>cases e;cases f;exact⟨by simp,(λz=>nomatch z),_,PySem.W.kitx_none,trivial⟩
 | bl b=>cases e;cases f;exact⟨by simp,(λz=>nomatch z),_,PySem.W.kitx_bool,trivial⟩
 | int i=>cases e;obtain⟨t,rfl⟩:=f;exact⟨by simp,(λz=>nomatch z),_,PySem.W.kitx_int,trivial⟩
 | str i=>cases e;obtain⟨t,rfl⟩:=f;exact⟨by simp,(λz=>nomatch z),_,PySem.W.kitx_str,trivial⟩
 | tup y R =>
  cases e;cases f;obtain⟨l,B,⟨o,e1,e2,_⟩,_⟩:=I.tuple y;exact⟨by simp,(λz=>nomatch z),_,PySem.W.kitx_tuple,⟨o,e1,e2⟩⟩
 | frl y R =>
  cases e;cases f;obtain⟨l,B,⟨o,m,e1,e2,_,e3⟩,_⟩:=I.list y.sq;exact⟨by simp,(λz=>nomatch z),_,PySem.W.kitx_list,⟨o,e1,e2⟩⟩
 | @loc n a M =>
  obtain⟨Q,eo,j⟩:=L.obj M;dsimp only[GA] at e;rw[eo] at e;cases f
  cases Q with
  | lst xs =>
   cases e;obtain⟨ys,r,_⟩:=j;obtain⟨l,B,⟨o,m,e1,e2,_,e3⟩,_⟩:=I.list (SqL.of (K:=X.K) r);exact⟨by simp,(λz=>nomatch z),_,PySem.W.kitx_list,⟨o,e1,e2⟩⟩
  | dic fz Y xs =>
   cases e;obtain⟨S,_,_,r⟩:=j;obtain⟨_,_,vs,_,p⟩:=i7 I.hok r;obtain⟨o,T,ep,O,P,_⟩:=p;exact⟨by simp,(λz=>nomatch z),_,PySem.W.kitx_dict,⟨o,O,P.1⟩⟩
  | exc x=>cases e
def IB(g:Good X N W G k){a:Expr}{m:Mx PV}{T:String}{c:Str}{i j:Nat}{p q l:Pos}(R:G[i]?=some "isinstance")(hm:X.mg "isinstance"=none)(S:G[j]?=some c)(hc:X.mg c=none)(hv:bootBuiltins c=some (.type T))(hT:IA T)(Y:ME X a m)
  (P:starEach [a,.Name c q] X.env=(false,eval a X.env)::starEach [.Name c q] X.env:=by rfl) (E:starEach [.Name c q] X.env=[(false,eval (.Name c q) X.env)]:=by rfl) (F:(backTo l (starEach [.Name c q] X.env)).any (·.1)=false:=by rfl) :
  ME X (.Call (.Name "isinstance" p) [a,.Name c q] [] l) (O3 (u5 [T]) m):=by
 have O:=g.dbg _ (z4 _ (bo R));have d:=g.dbg c (z4 _ (bo S));have f:dY X (.builtin "isinstance") (λxs H Q=>∃y,xs=[y,.ty T]/\uJ X (u5 [T]) y H Q):=by
  intro Mq s Z H xs us Q I r ⟨y,e,U,h,x,z,B,q⟩;subst e
  cases r with
  | cons r1 t1=>cases t1 with
   | cons r2 t2 =>
    cases t2;obtain rfl:=(show _=Value.type T from r2);unfold u5 at q
    cases J:GA h x with
    | none=>rw[J] at q;exact q.elim
    | some t =>
     rw[J] at q;obtain⟨ht,M,Hq,Za,hz⟩:=kitx_of I z B r1 J
     exact PySem.W.kia_one Za I.kIn hz (hT X.K t ht) M λtk=>⟨.bl _,H,I.tok _,rfl,by
      have q':=q U H _ (Le.refl _ _) z (.bl _)
      simpa using q'⟩
 refine PE.imp (oj f (g.gl _ (bo R)) hm PyProof.Rows.Boot.«isinstance» (mN Y (mN (Ev (v:=.ty T) (u:=.type T) (g.gl c (bo S)) hc hv rfl d.2.2 d.1) tN E) P) O.2.2 O.1 P F) λZ H Q ⟨U,L,h,rs,z,q⟩=>?_;exact⟨U,L,h,rs,z,Ful.bind q λU1 H1 x y h1 _ l1 C B q1=>⟨y,rfl,U1,h1,x,C,B,q1.zero⟩⟩
def IC(K:hR)(mg:DL)(F:List PV->MH->Out PV):Sp:=λl H Q E=>∃U ps h,RPs K U H ps l/\RH K mg U H h/\match F ps h with
 | .ok v i=>∀f a j,Le U H f a->RH K mg f a i->RP K f a v j->Q j a
 | .exc x i=>∀C f a,x.fs=[]->mg x.cls=some (.ref C)->Le U H f a->RH K mg f a i->E (.ref C) none a
 | .bad=>False
def K1(P:Program)(w:World):DD:=λouter H s E e a=>∃i C f,e=.ref i/\a.os=s.os/\AllBare a.gens/\Un (Bz outer) [] H f s.heap a.heap/\HOk P w f a.heap/\Q3 outer f s.heap C i a.heap/\E (.ref C) none f
structure Cal (X:Cx) (x:Str) (ps:List Str) (F:List PV->MH->Out PV) (k:Nat):Prop where
 ex:∃f fd,X.mg x=some (.ref f)/\PySem.W.keepIn X.K (.ref f)=true/\oC X.K fd ps []/\FnOk X.prog X.w X.K X.mg X.base (K1 X.prog X.w) k f fd ps (IC X.K X.mg F)
def Cal.to(c:Cal X x ps F i)(e1:Y.prog=X.prog)(e2:Y.w=X.w)(e3:Y.K=X.K)(e4:Y.mg=X.mg)(e5:Y.base=X.base):Cal Y x ps F i:=by
 obtain⟨f,fd,a,b,d,e⟩:=c.ex;refine⟨f,fd,by rw[e4];exact a,by rw[e3];exact b,by rw[e3];exact d,?_⟩;rw[e1,e2,e3,e4,e5];exact e
def cz(F:List PV->MH->Out PV)(m:Mx (List PV)):Mx PV:=λZ h=>(m Z h).bind F
def qm(g:Good X N W G k){x:Str}{j:Nat}(hj:G[j]?=some x){ps:List Str}{F:List PV->MH->Out PV}(C:Cal X x ps F k){e:Expr}{es:List Expr}{m:Mx (List PV)}{p M:Pos}(ha:MA X (e::es) m)
  (he:starEach (e::es) X.env=(false,eval e X.env)::starEach es X.env:=by rfl) (an:(backTo M (starEach es X.env)).any (·.1)=false:=by rfl):ME X (.Call (.Name x p) (e::es) [] M) (cz F m):=by
 obtain⟨f,fd,hm,hk,hb,F'⟩:=C.ex;have d:=g.dbg x (z4 _ (bo hj));intro Mq s Z H Q I ⟨U,al,h,rs,rh,q⟩;refine wpAny_Call_Name_kw (vq I (g.gl x (bo hj)) hm ?_ d.1)
 refine PySem.W.callWith_K (h₀:=X.base) I.ok.mod.kin hk (l_ (ha M Mq s Z H (λvs B=>∃y xs L,Le U H y B/\RH X.K X.mg y B L/\RPs X.K y B xs vs/\Ful X (RV' X) al y B (F xs L) Q) I
  ⟨U,al,h,rs,rh,Ful.bind q λy B xs vs L _ l1 J rx q1=>⟨y,xs,L,l1,J,rx,q1⟩⟩) λus O ⟨vs,B,R,r,y,xs,L,l1,J,rx,q1⟩=>⟨R.kIn,?_⟩) he an
 have run:∀E:XK,IC X.K X.mg F vs B Q E->(∀S C i l,l.os=O.os->AllBare l.gens->Un (Bz X.stack) [] B i O.heap l.heap->HOk X.prog X.w i l.heap->Q3 X.stack i O.heap C S l.heap->E (.ref C) none i->X.xe (.ref S) l) ->
   wpAny (model X.prog X.w) X.A (call (.ref f) us) (EP X Mq Z Q) X.xe O:=λE ai hE=>by
  have hl:(us++[]).length=ps.length:=by rw[DC,<-r.length];exact F'.len _ _ _ _ ai
  have Y:=hb O us R.kIn hl;rw[DC] at Y;refine wpAny_call (codeAny_mono (F'.run X.A X.stack O B ⟨us,[]⟩ us vs Q E g.room R.env0 Y r ai) λr l T=>?_)
  cases r with
  | error e =>
   obtain⟨S,C,i,rfl,a1,a2,a3,a4,a5,a6⟩:=T;exact hE S C i l a1 a2 a3 a4 a5 a6
  | ok fl =>
   cases fl with
   | ret u=>exact R.after T
   | next=>exact False.elim T
   | brk=>exact False.elim T
   | cont=>exact False.elim T
 cases eF:F xs L with
 | bad=>rw[eF] at q1;exact q1.elim
 | ok v h' =>
  rw[eF] at q1;exact run (λ_ _ _=>False) ⟨y,xs,L,rx,J,by rw[eF];exact q1⟩ λ_ _ _ _ _ _ _ _ _ z=>z.elim
 | exc x' h' =>
  rw[eF] at q1;refine run (λc _ i=>∃C P,c=.ref C/\x'.fs=[]/\X.mg x'.cls=some (.ref C)/\Le y B P i/\RH X.K X.mg P i h') ⟨y,xs,L,rx,J,by rw[eF];exact λC P i a b c d=>⟨C,P,rfl,a,b,c,d⟩⟩ λS C i l a1 a2 a3 a4 a5 a6=>?_;obtain⟨C',P,eC,b1,b2,b3,b4⟩:=a6;cases eC;have IX:=R.call' (s':=l) (ch:=[]) a1 a3 a4 a2 (λb z=>absurd z (by simp));have ao:Inv X [] Z i l:=Inv.unpinned (Mq:=[]) (pl:=Mq) IX;exact q1 S C P i Z l O.heap b1 b2 b3 b4 (rs.le (l1.trans b3)) ao (Inv.bears R) a5
def cE(n:Nat)(ps:List PV):oe:=ps.map some++List.replicate (n - ps.length) none
def fe(n f:Nat)(m:n8):List PV->MH->Out PV:=λps h=>if ps.length=f then (match m (cE n ps) h with
 | .nx _ a=>.ok .non a
 | .rt v a=>.ok v a
 | .exc x _ a=>.exc x a
 | .rse x _ a=>.exc x a
 | _=>.bad) else .bad
def Bm{K:hR}{U:List Addr}{H:Hp}{N:List Str}{ps:List PV}{f:List V}(r:RPs K U H ps f):RS K U H (cE N.length ps) (L2.start N f):=by
 have l:=r.length;refine⟨by simp[cE,L2.start,l],λi v e=>?_⟩;unfold cE at e;by_cases a:i<ps.length
 .rw[xu (by simpa using a),tt] at e
  cases q:ps[i]? with
  | none=>rw[q] at e;cases e
  | some x =>
   rw[q] at e;cases e;obtain⟨u,y,j⟩:=r.get q;refine⟨u,?_,j⟩;unfold L2.start;rw[xu (by simp;lia),tt,y];rfl
 .rw[C5 (by simpa using a),He] at e
  split at e <;> cases e
def AY{B h:Heap}(k:B.StaysIn h){b:Addr}{o a:Obj}(e1:B.get? b=some a)(e2:h.get? b=some o):a=o:=by
 have:=k b a e1
 rw[e2] at this;exact (Option.some.inj this).symm
def vS{X:Cx}{T:L2.St}{J:Hp}{H:Shared}{F B:Heap}(I:Inv X [] T J H)(L:X.ex=[])(S:B.StaysIn H.heap)(r:B.StaysIn F)(sm:H.heap.UpToSlots F)
  (l:∀b o,X.s₀.heap.get? b=some o->b∉X.fs->∃f,B.get? b=some f) (C:∀b o,J b=some o->∃f,B.get? b=some f):Un X.fs [] X.H₀ J X.s₀.heap F/\HOk X.prog X.w J F:=by
 have i:∀b:Addr,b∉X.ex:=λb=>by rw[L];simp
 have kp:∀b o f,B.get? b=some f->H.heap.get? b=some o->F.get? b=some o:=λb o f e1 e2=>by
  have:=AY S e1 e2
  subst this;exact r b f e1
 refine⟨⟨λb o e n hf _=>?_,λb o e n hf _=>?_,λb o e n _=>I.base.free b o e n (i b),λb o e _=>?_,I.base.tups,I.base.frzs,I.base.tbls⟩,λa o e=>?_⟩
 .obtain⟨f,j⟩:=l b o e hf;exact kp b o f j (I.base.keep b o e n hf (i b))
 .obtain⟨Q,e1⟩:=I.base.slot b o e n hf (i b);obtain⟨_,R,E,P⟩:=I.ok.funs.mem hf;rw[e] at E;cases E;obtain⟨y,e2⟩:=sm b _ e1 (λM z=>P M z);exact⟨y,e2⟩
 .by_cases hf:b∈X.fs
  .obtain⟨_,R,E,P⟩:=I.ok.funs.mem hf;rw[e] at E;cases E;obtain⟨Q,e1⟩:=I.base.slot b o e (I.ok.frf b hf) hf (i b);obtain⟨y,e2⟩:=sm b _ e1 (λM z=>P M z);exact⟨_,e2⟩
  .obtain⟨f,j⟩:=l b o e hf;exact⟨f,r b f j⟩
 .refine (I.hok a o e).stay (λb u O z=>?_) (λ_ z=>z) λ_ _ z=>z;rcases O with rfl|O
  .obtain⟨f,j⟩:=C _ _ e;exact kp _ u f j z
  .obtain⟨f,j⟩:=C _ _ O;exact kp _ u f j z
def _root_.L2.ObjOk.has(x:ObjOk P w H h a o):∃u,h.get? a=some u:=by
 cases o with
 | lst xs=>obtain⟨_,_,_,_,e⟩:=x;exact⟨_,e⟩
 | tup xs=>obtain⟨_,_,_,o,e,_⟩:=x;exact⟨o,e⟩
 | dK i=>obtain⟨_,_,_,_,o,_,_,e,_⟩:=x;exact⟨o,e⟩
 | dT i=>obtain⟨_,_,_,_,o,_,_,e,_⟩:=x;exact⟨o,e⟩
 | set S n=>obtain⟨o,_,_,_,e,_⟩:=x;exact⟨o,e⟩
 | ins C l fs=>obtain⟨_,_,_,e,_⟩:=x;exact⟨_,e⟩
 | own y=>obtain⟨o,e⟩:=x;exact⟨o,e⟩
 | xd fs=>obtain⟨_,⟨o,_,_,e,_⟩,_⟩:=x;exact⟨o,e⟩
 | rng lo j=>obtain⟨_,_,_,e⟩:=x;exact⟨_,e⟩
 | frz r u=>obtain⟨e,_⟩:=x;exact⟨_,e⟩
 | tbl ps=>exact⟨_,(show h.get? a=some _ from x)⟩
 | met f y=>exact⟨_,(show h.get? a=some _ from x)⟩
 | ext φ=>obtain⟨_,⟨o,e⟩,_⟩:=x;exact⟨o,e⟩
structure iy (X:Cx):Prop where
 stk:X.stack=X.env::X.outer
 fr:X.env.frame=some X.env.locals
 ex:X.ex=[]
def Q4{P:Program}{w:World}{K:hR}{mg:Str->Option Value}{base:Heap}{x a:Str}{st:Stmt}{f:Addr}{fd:FuncData}{ps:List Str}{m:n8}(Fu:Fun K x a st f fd)(S:u_ N ps (aq st))
  (hl:∀y∈N,Loc (aq st) y) (a3:∀y∈G,(aq st).names.lookup y=some .globalImplicit)
  (dbg:∀x∈N++G,(x == ("__debug__":Str))=false/\(x == ("__classdict__":Str))=false/\x≠"__name__")
  (hb:∀X:Cx,X.prog=P->X.w=w->X.K=K->X.mg=mg->X.base=base->X.env.scope=aq st->Good X N N G k->iy X->C1 X (aI st) m) :
  FnOk P w K mg base (K1 P w) (k+1) f fd ps (IC K mg (fe N.length ps.length m)):=by
 have len:∀vs H Q E,IC K mg (fe N.length ps.length m) vs H Q E->vs.length=ps.length:=by
  rintro vs H Q E ⟨U,zs,h,r,rh,q⟩;rw[<-r.length];unfold fe at q;by_cases hp:zs.length=ps.length
  .exact hp
  .rw[g_ hp] at q;exact q.elim
 obtain⟨oc,od,kV,bc,pm,an,i,ct,a7,rfl,lk,a2⟩:=Fu.ex;refine LR lk a2 S len λA outer s H vs Q E hr a0=>?_;obtain⟨U,zs,h,r,rh,q⟩:=a0;refine⟨_,hb _ rfl rfl rfl rfl rfl rfl ⟨rfl,S.nd,hl,λ_ _=>.inl rfl,a3,dbg,rfl,hr,PassesOwn.leaving⟩ ⟨rfl,rfl,rfl⟩,U,cE N.length zs,h,Bm r,rh,?_⟩;unfold fe at q;by_cases hp:zs.length=ps.length
 .rw[d_ hp] at q
  cases e:m (cE N.length zs) h with
  | nx Z' h'=>rw[e] at q;exact λU' M Z' l r' s'=>q U' M .non l r' .non
  | rt v h'=>rw[e] at q;exact q
  | bk Z h'=>rw[e] at q;exact q.elim
  | ct Z h'=>rw[e] at q;exact q.elim
  | bad=>rw[e] at q;exact q.elim
  | exc x Z h' =>
   rw[e] at q;intro ea C U' M Z' s' a8 T R l Y a4 F ax a5;obtain⟨B,t,ao,J,ar,al⟩:=a5;refine wpAny_leaves_onW (base:=B) (env:=envOfC a (aq st) s.heap.objs.size f i) (outer:=outer) F.ok.frames rfl ao λap j sm=>?_;have I:∀b o,s.heap.get? b=some o->b∉Bz outer->∃ob,B.get? b=some ob:=λb o O hf=>by
    obtain⟨o',e'⟩:=ax.old b o O (by show b∉([]:List Addr);simp);refine ar b o' e' λhm=>?_;rcases ml.mp (F.stkSub b hm) with z|z
    .exact absurd (n9 O) (by rw[z];exact Dw _)
    .exact hf z
   obtain⟨un,ai⟩:=vS (B:=B) F rfl ao.1 j.1 sm I J;exact⟨ea,C,M,rfl,F.os,F.bare,un,ai,⟨B,t,j,J,I,al⟩,q C U' M T R l Y⟩
  | rse x Z h' =>
   rw[e] at q;intro ea C U' M Z' s' h0 a6 T R l Y a4 F L;have ay:=F.stack;have as:∀env∈(envOfC a (aq st) s.heap.objs.size f i::outer),∀b,env.frame=some b->b∈Bz (envOfC a (aq st) s.heap.objs.size f i::outer):=λenv he b hb=>OA.mpr ⟨env,he,hb⟩;refine wpAny_leaves_madeW (base:=PySem.W.hideAll h0 (Bz (envOfC a (aq st) s.heap.objs.size f i::outer))) (h:=h0) (env:=envOfC a (aq st) s.heap.objs.size f i) (outer:=outer) F.ok.frames rfl (λb o z=>PySem.W.of_hideAll _ z)
    (PySem.W.funFrames_hide (base:=base) ay as) L λap t j _ _ sm=>?_
   have sub:∀b,b∈Bz (envOfC a (aq st) s.heap.objs.size f i::outer)->b=s.heap.objs.size\/b∈Bz outer:=λb hm=>ml.mp (F.stkSub b hm);have I:∀b o,s.heap.get? b=some o->b∉Bz outer->∃ob,(PySem.W.hideAll h0 (Bz (envOfC a (aq st) s.heap.objs.size f i::outer))).get? b=some ob:=λb o O hf=>by
    obtain⟨o',e'⟩:=F.base.there b o O (by show b∉([]:List Addr);simp);refine⟨o',PySem.W.hideAll_get _ e' λhm=>?_⟩;rcases sub b hm with z|z
    .exact absurd (n9 O) (by rw[z];exact Dw _)
    .exact hf z
   have J:∀b o,M b=some o->∃ob,(PySem.W.hideAll h0 (Bz (envOfC a (aq st) s.heap.objs.size f i::outer))).get? b=some ob:=λb o O=>by
    have a9:=F.hok.lt O;obtain⟨u,eu⟩:∃u,h0.get? b=some u:=(F.hok b o O).has;refine⟨u,PySem.W.hideAll_get _ eu λhm=>?_⟩
    have:=F.stkFree b hm
    rw[O] at this;cases this
   have a1:h0.UpToSlots ap:=(Heap.UpToSlots.of_keeps L.keeps).trans sm;obtain⟨un,ai⟩:=vS (B:=PySem.W.hideAll h0 (Bz (envOfC a (aq st) s.heap.objs.size f i::outer))) F rfl (λb o z=>PySem.W.of_hideAll _ z) j.1 a1 I J;have al:M ea=none:=by
    cases z:M ea with
    | none=>rfl
    | some o =>
     obtain⟨u,eu⟩:=(F.hok ea o z).has;rw[L.new] at eu;cases eu
   exact⟨ea,C,M,rfl,F.os,F.bare,un,ai,⟨_,t,j,J,I,al⟩,q C U' M T R l Y⟩
 .rw[g_ hp] at q;exact q.elim
def yp(v:PV)(h:MH):Out MIt:=match v with
 | .loc n=>(match h[n]? with
  | some (.lst xs)=>.ok ⟨xs,[(n,xs)]⟩ h
  | _=>.bad)
 | .frl xs=>.ok ⟨xs,[]⟩ h
 | .tup xs=>.ok ⟨xs,[]⟩ h
 | _=>.bad
def qi(m:Mx PV):Mx MIt:=λZ h=>(m Z h).bind yp
def zd(j:ME X l m):MI X tg l (qi m):=by
 intro i s Z H R I ⟨U,a,h,u,r,q⟩;by_cases z:∃xs f,m a h=.ok (.tup xs) f
 .obtain⟨xs,f,e⟩:=z;refine Ix (tg:=tg) j i s Z H R I ⟨U,a,h,u,r,?_⟩;unfold qi at q;unfold L_;rw[e] at q ⊢;exact q
 .refine ES (tg:=tg) j i s Z H R I ⟨U,a,h,u,r,?_⟩;unfold qi at q;unfold L9
  cases e:m a h with
  | ok v f =>
   rw[e] at q
   cases v with
   | tup xs=>exact absurd ⟨xs,f,e⟩ z
   | _=>exact q
  | exc x f=>rw[e] at q;exact q
  | bad=>rw[e] at q;exact q
def Inv.bigM{a:List (Addr × Obj)}{Z:L2.St}{H:Hp}{s:Shared}(I:Inv X a Z H s):sysModules<s.heap.objs.size:=by
 have h:mainGlobals<s.heap.objs.size:=(I.mod.glob.keeps I.bk).lt;exact OP (by decide) h
def ID:Mx PV:=λ_ h=>.ok (.loc h.length) (h++[.dic false [] []])
def EV:ME X (.Dict [] [] pos) ID:=λr s Z H Q I ⟨U,l,h,u,f,q⟩=>by
 have hf:H s.heap.objs.size=none:=I.hok.fresh (j_ _);obtain⟨j,i⟩:=f.new hf (o:=.dic false [] []) (ho:=.dK []) ⟨[],rfl,.nil,rfl⟩;refine wpAny_Dict_empty ⟨.ref s.heap.objs.size,_,I.laid (a:=s.heap.objs.size) (o:=.dK []) (t':=s.toks) (λ_ _ q=>mz _ q) (j_ _) ?_,rfl,q _ _ _ i j (.loc (by rw[<-f.len];simp))⟩;exact⟨Cz _,beq_eq_false_iff_ne.mpr (Ne.symm (s_ (Inv.bigM I))),[],.nil,Heap.DictOf.new s.heap⟩
structure FnAt (P:Program) (w:World) (K:hR) (mg:Str->Option Value) (base:Heap) (x:Str) (ps:List Str) (F:List PV->MH->Out PV) (k:Nat):Prop where
 ex:∃f fd,mg x=some (.ref f)/\PySem.W.keepIn K (.ref f)=true/\oC K fd ps []/\FnOk P w K mg base (K1 P w) k f fd ps (IC K mg F)/\∃oc od osl,K.lookup f=some ⟨oc,od,.func fd,osl⟩
def FnAt.mono{P:Program}{w:World}{K:hR}{mg:Str->Option Value}{base:Heap}{x:Str}{ps:List Str}{F:List PV->MH->Out PV}{i j:Nat}(c:FnAt P w K mg base x ps F i)(h:i<=j):FnAt P w K mg base x ps F j :=
 let ⟨f,fd,a,b,d,e,z⟩:=c.ex;⟨f,fd,a,b,d,e.mono h,z⟩
def FnAt.cal{P:Program}{w:World}{K:hR}{mg:Str->Option Value}{base:Heap}{x:Str}{ps:List Str}{F:List PV->MH->Out PV}{i:Nat}(c:FnAt P w K mg base x ps F i){X:Cx}(e1:X.prog=P)(e2:X.w=w)(e3:X.K=K)(e4:X.mg=mg)(e5:X.base=base):Cal X x ps F i:=by
 subst e1;subst e2;subst e3;subst e4;subst e5;obtain⟨f,fd,a,b,d,e,_⟩:=c.ex;exact⟨f,fd,a,b,d,e⟩
structure c_ (K:hR) (x:Str) (st:Stmt):Prop where
 ex:∃f fd,PySem.W.nsIn K mainGlobals x=some (some (.ref f))/\Fun K x x st f fd
def DR{K:hR}{x:Str}{st:Stmt}{f:Addr}{B:Value}{z y:Option Addr}{r:Array (Option Value)}{kV u j i ct:Value}
  (a:PySem.W.nsIn K mainGlobals x=some (some (.ref f))) (l:K.lookup f=some ⟨B,z,.func (PySem.W.fnOf x x (iu st) (aI st) (aq st) .none kV u j y i ct),r⟩) (c:PySem.W.codeIn K i x=true) (kp:PySem.W.keepIn K (.ref f)=true):c_ K x st :=
 ⟨f,_,a,Ig l c kp⟩
def jS(x:Str)(st:Stmt)(ps:List Str):Prop:=∀(kV a j:Value) (l:Option Addr) (i ct:Value) (f:List Value),f.length=ps.length->bindArgs (PySem.W.fnOf x x (iu st) (aI st) (aq st) .none kV a j l i ct) ⟨f,[]⟩=pure (ps.zip f)
def yR{P:Program}{w:World}{K:hR}{mg:Str->Option Value}{base:Heap}{x:Str}{st:Stmt}{ps:List Str}{m:n8}(kin:K.In base)(ns:base.Ns mainGlobals mg)(D:c_ K x st)(S:u_ N ps (aq st))(B:jS x st ps)
  (C:∀y∈N,(aq st).names.lookup y=some .local\/(aq st).names.lookup y=some .cell) (j:∀y∈G,(aq st).names.lookup y=some .globalImplicit)
  (dbg:∀x∈N++G,(x == ("__debug__":Str))=false/\(x == ("__classdict__":Str))=false/\x≠"__name__")
  (F:∀X:Cx,X.prog=P->X.w=w->X.K=K->X.mg=mg->X.base=base->X.env.scope=aq st->Good X N N G k->iy X->C1 X (aI st) m) :
  FnAt P w K mg base x ps (fe N.length ps.length m) (k+1):=by
 obtain⟨f,fd,a,i⟩:=D.ex;have E:=i.ex;obtain⟨H,z,kV,r,J,I,u,ct,l,e1,e2,_⟩:=E;exact⟨f,fd,PySem.W.mg_of kin ns a,i.kp,i.binds B,Q4 i S C j dbg F,H,z,l,e2⟩
def IE{P:Program}{w:World}{K:hR}{mg:Str->Option Value}{h:Heap}{x y:Str}{st:Stmt}{F:List PV->MH->Out PV}{z:Addr}(D:c_ K x st)(B:jS x st [y])(i:mg x=some (.ref z))(kin:K.In h)(ns:h.Ns mainGlobals mg)
  (H:∀base:Heap,K.In base->base.Ns mainGlobals mg->FnAt P w K mg base x [y] F k) :
  ∃fd:FuncData,(∀(s:Shared) (u:Value),BindsTo s fd ⟨[u],[]⟩ [(y,u)])/\∀base:Heap,K.In base->base.Ns mainGlobals mg->FnOk P w K mg base (K1 P w) k z fd [y] (IC K mg F):=by
 obtain⟨f,fd,a,O⟩:=D.ex;have e:=i.symm.trans (PySem.W.mg_of kin ns a);cases e;obtain⟨oc,U,kV,j,M,I,l,ct,S,e1,e2,e3⟩:=O.ex;refine⟨fd,λs u=>.of_eq ?_,λbase kb R=>?_⟩
 .rw[e1];exact B kV j M I l ct [u] rfl
 .obtain⟨Z,T,r,Y,g3,J,L,Q,E,C⟩:=(H base kb R).ex;rw[i] at r;cases r;rw[e2] at C;cases C;exact J
def Mb(K:hR):Sp:=λf H Q _=>∃(a:Addr) (ns:List Int),f=[.ref a]/\SqF K H a (ns.map V.int)/\ns.length<=63/\∀i,Q (.bl true) i
def IF{l:PySem.W.OpenLaw}{q:Program}{loose:List Str}{XP:(Str->Option Value)->Heap->Prop}{M:World->Heap->Prop}{d:DefRec}{K:Params->hR}{x:Str}{F:List PV->MH->Out PV}(U:l.most=some 63)(j:d.params.defaults=[])(hr:Room k callerA)(hi:PyProof.Rows.importsNone q=true)(I:l.prog.given.tree=none)
  (hY:∀(w:World) (h:Heap),M w h->(K w.params).In h)
  (HF:∀(w:World) (mg:Str->Option Value) (i:Addr) (h:Heap),(K w.params).In h->h.Ns mainGlobals mg->mg d.name=some (.ref i) ->
   ∃fd:FuncData,(∀(s:Shared) (u:Value),BindsTo s fd ⟨[u],[]⟩ [(x,u)])/\∀base:Heap,(K w.params).In base->base.Ns mainGlobals mg->FnOk l.prog w (K w.params) mg base (K1 l.prog w) k i fd [x] (IC (K w.params) mg F))
  (R:∀ns:List Int,ns.length<=63->∃P,F [.frl (ns.map .int)] []=.ok (.bl true) P) :
  PySem.W.WalkO q loose XP M l.row.toRowW d [] (λf O=>PySem.call f O):=by
 refine L2.EN (n:=63) (k:=k) (x:=x) (CX:=λw=>K1 l.prog w) (sp:=λw=>Mb (K w.params)) U (by decide) j hr hi I hY (λw mg i h Y C L=>?_) (λw H a ns B S T=>?_) λw H s e s' z=>?_
 .obtain⟨fd,hb,hF⟩:=HF w mg i h Y C L;refine⟨fd,hb,λbase kb Z=>(hF base kb Z).imp λO H Q E z=>?_⟩;obtain⟨a,ns,rfl,J,B,hq⟩:=z;obtain⟨P,e⟩:=R ns B;refine⟨[],[.frl (ns.map .int)],[],.cons (.frl J (RPs.ints ns)) .nil,⟨rfl,Qs,λn a o z _=>by simp at z⟩,?_⟩;rw[e];intro U' H' v' _ _ r;cases r;exact hq H'
 .have J:SqF (K w.params) H a (ns.map V.int):=by
   rcases T with (z|z)|z
   .rcases S a with y|⟨o,xs,y⟩
    .rw[y] at z;cases z
    .rw[y] at z;cases z
   .exact .inl z
   .exact .inr z
  exact⟨a,ns,rfl,J,B,λ_=>rfl⟩
 .obtain⟨_,_,_,_,_,_,_,_,_,z⟩:=z;exact z
end
section
variable {α:Type} {Z:oe} {h:MH}
@[simp] theorem Mc:mC v Z h=.ok v h:=rfl
@[simp] theorem Q5{v:PV}{r:oe}:az 0 (some v::r) h=.ok v h:=rfl
@[simp] theorem Q6{i:Nat}{o:Option PV}{r:oe}:az (i+1) (o::r) h=az i r h:=by simp[az]
@[simp] theorem wk:aC f a b Z h=(a Z h).bind λx h1=>(b Z h1).bind λy h2=>(f x y h2).ne:=rfl
@[simp] theorem Q7:O3 f a Z h=(a Z h).bind λx h1=>(f x h1).ne:=rfl
@[simp] theorem Q8:z6 f a Z h=(a Z h).bind λx h1=>(f x h1).ne:=rfl
@[simp] theorem Md:cz f a Z h=(a Z h).bind f:=rfl
@[simp] theorem vt:h_ Z h=.ok [] h:=rfl
@[simp] theorem Me:aw a r Z h=(a Z h).bind λx h1=>(r Z h1).bind λxs h2=>.ok (x::xs) h2:=rfl
@[simp] theorem O4:iP a Z h=(a Z h).bind ql:=rfl
@[simp] theorem O5:tP a Z h=(a Z h).bind z_:=rfl
@[simp] theorem O6:ID Z h=.ok (.loc h.length) (h++[.dic false [] []]):=rfl
@[simp] theorem Ta:mB a Z h=(a Z h).bind λv h1=>match v with | .bl b=>.ok b h1 | _=>.bad:=rfl
@[simp] theorem O7:pJ a Z h=(a Z h).bind λb h1=>.ok (!b) h1:=rfl
@[simp] theorem O8:Ih a b Z h=(a Z h).bind λx h1=>if x=true then b Z h1 else .ok false h1:=rfl
@[simp] theorem Q9:KY a b Z h=(a Z h).bind λx h1=>if x=true then .ok true h1 else b Z h1:=rfl
@[simp] theorem Mf:xN a b Z h=(a Z h).bind λx h1=>match x with | .bl c=>if c=true then b Z h1 else .ok (.bl false) h1 | _=>.bad:=rfl
@[simp] theorem Mh:xp a Z h=(a Z h).bind λx h1=>match x with | .bl c=>.ok (.bl (!c)) h1 | _=>.bad:=rfl
@[simp] theorem O9:Im c a b Z h=(c Z h).bind λx h1=>if x=true then a Z h1 else b Z h1:=rfl
@[simp] theorem tJ:ox Z h=.nx Z h:=rfl
@[simp] theorem cV:bp a b Z h=(a Z h).then b:=rfl
@[simp] theorem ak:(SOut.nx Z h).then k=k Z h:=rfl
@[simp] theorem md:(SOut.rt v h).then k=.rt v h:=rfl
@[simp] theorem then_bk:(SOut.bk Z h).then k=.bk Z h:=rfl
@[simp] theorem then_ct:(SOut.ct Z h).then k=.ct Z h:=rfl
@[simp] theorem A5:(SOut.rse x Z h).then k=.rse x Z h:=rfl
@[simp] theorem Cj:(SOut.exc x Z h).then k=.exc x Z h:=rfl
@[simp] theorem Br:SOut.bad.then k=.bad:=rfl
def Out.rt(o:Out PV)(Z:oe):SOut:=match o with
 | .ok v a=>.rt v a
 | .exc x a=>.exc x Z a
 | .bad=>.bad
@[simp] theorem Tb:(Out.ok v h).rt Z=.rt v h:=rfl
@[simp] theorem Q_:(Out.exc x h:Out PV).rt Z=.exc x Z h:=rfl
@[simp] theorem Ra:(Out.bad:Out PV).rt Z=.bad:=rfl
@[simp] theorem O_:cB m Z h=(m Z h).rt Z:=rfl
def Out.go{α:Type}(o:Out α)(Z:oe)(k:α->n8):SOut:=match o with
 | .ok v a=>k v Z a
 | .exc x a=>.exc x Z a
 | .bad=>.bad
@[simp] theorem am:(Out.ok v h).go Z k=k v Z h:=rfl
@[simp] theorem go_exc:(Out.exc x h:Out α).go Z k=.exc x Z h:=rfl
@[simp] theorem go_bad:(Out.bad:Out α).go Z k=.bad:=rfl
@[simp] theorem Rb:y_ m k Z h=(m Z h).go Z k:=rfl
@[simp] theorem uU:hU m Z h=(m Z h).go Z λ_=>ox:=rfl
@[simp] theorem Rc:C6 c a b Z h=(c Z h).go Z λx=>if x=true then a else b:=rfl
@[simp] theorem Pa:bM i m Z h=(m Z h).go Z λv Z h=>.nx (Z.set i (some v)) h:=rfl
@[simp] theorem Pc:Iv i j m Z h=(m Z h).go Z λvs Z h=>match vs with | [v,w]=>.nx ((Z.set i (some v)).set j (some w)) h | _=>.bad:=rfl
@[simp] theorem Ph:pr m g Z h=(m Z h).go Z λv Z h=>match g v Z h with | .nx Z2 h2=>.nx Z2 h2 | .exc x Z2 h2=>.exc x Z2 h2 | _=>.bad:=rfl
@[simp] theorem Re:CG i v Z h=.nx (Z.set i (some v)) h:=rfl
@[simp] theorem Rf:L8 [] Z h=.nx Z h:=rfl
@[simp] theorem Rg:Gs a r (v::vs) Z h=(a v Z h).then (r vs):=rfl
@[simp] theorem Rh:KZ r n (.tup xs) Z h=if xs.length=n then r xs Z h else .bad:=rfl
@[simp] theorem vx:lh mi g b Z h=(mi Z h).go Z λit=>z5 it g b it.xs:=rfl
@[simp] theorem Pj:qi m Z h=(m Z h).bind yp:=rfl
@[simp] theorem Bk:eR m Z h=(m Z h).bind λvs h1=>match vs with
 | [.int j]=>if -(2 ^ 62)<=j/\j<2 ^ 62 then .ok ⟨bZ 0 j.toNat,[]⟩ h1 else .bad
 | _=>.bad:=rfl
@[simp] theorem Ri:Gu mo mi v Z h=(mo Z h).go Z λo=>y_ mi λi Z h=>match nu o i v h with
 | some h2=>.nx Z h2
 | none=>.bad:=rfl
def SOut.fin(o:SOut):Out PV:=match o with
 | .nx _ a=>.ok .non a
 | .rt v a=>.ok v a
 | .exc x _ a=>.exc x a
 | .rse x _ a=>.exc x a
 | _=>.bad
@[simp] theorem fin_exc:(SOut.exc x Z h).fin=.exc x h:=rfl
@[simp] theorem fin_rse:(SOut.rse x Z h).fin=.exc x h:=rfl
@[simp] theorem bi:(SOut.rt v h).fin=.ok v h:=rfl
@[simp] theorem fin_nx:(SOut.nx Z h).fin=.ok .non h:=rfl
theorem mH(e:ps.length=np):fe n np m ps h=(m (cE n ps) h).fin:=by unfold fe;rw[d_ e];rfl
end
section
variable {h:MH} {i j:Int}
@[simp] theorem Mi:l7 (.int i) (.int j) h=.ok (.int (i+j)) h:=rfl
@[simp] theorem Mj:C2 (.int i) (.int j) h=.ok (.int (i - j)) h:=rfl
@[simp] theorem Pk:DP (.int i) h=.ok (.int (-i)) h:=rfl
@[simp] theorem Pm:DM (.int i) (.int j) h=.ok (.bl (decide (i<j))) h:=rfl
@[simp] theorem Po:DN (.int i) (.int j) h=.ok (.bl (decide (j<i))) h:=rfl
@[simp] theorem Pp:DO (.int i) (.int j) h=.ok (.bl (decide (j<=i))) h:=rfl
@[simp] theorem Pq:CA (.int i) (.int j) h=.ok (.bl (decide (i=j))) h:=by simp[CA,rd,SeqAt.shaped,PyData.canLay0,PyData.depth,PyData.eqv,Lh]
@[simp] theorem Pr:CC (.int i) (.int j) h=.ok (.bl (!decide (i=j))) h:=by simp[CC,rd,SeqAt.shaped,PyData.canLay0,PyData.depth,PyData.eqv,Lh]
@[simp] theorem Ps:CA (.bl a) (.bl b) h=.ok (.bl (a == b)) h:=by simp[CA,rd,SeqAt.shaped,PyData.canLay0,PyData.depth,PyData.eqv]
@[simp] theorem Pu:CC (.bl a) (.bl b) h=.ok (.bl (!(a == b))) h:=by simp[CC,rd,SeqAt.shaped,PyData.canLay0,PyData.depth,PyData.eqv]
theorem f7(a:j≠0):ny (.int i) (.int j) h=.ok (.int (i.fmod j)) h:=by simp[ny,a]
def vX(a:j≠0):De (.int i) (.int j) h=.ok (.int (i.fdiv j)) h:=by simp[De,a]
def iA(a:-(2 ^ 64)<i/\i<2 ^ 64):lp (.int i) (.int j) h=.ok (.int (i * j)) h:=by simp[lp,IntMulOk.of_left (intBits_le_64 a.1 a.2)]
def EW(a:-(2 ^ 64)<j/\j<2 ^ 64):lp (.int i) (.int j) h=.ok (.int (i * j)) h:=by simp[lp,IntMulOk.of_right (intBits_le_64 a.1 a.2)]
def uv(a:0<=j/\j<=1000000/\i.natAbs<2 ^ 64):sv (.int i) (.int j) h=.ok (.int (i ^ j.toNat)) h:=by simp[sv,gv,a]
@[simp] theorem Rj:CM [.int i] h=.ok (.int (if i<0 then -i else i)) h:=rfl
@[simp] theorem Pw:Df [.int i,.int j] h=.ok (.int (if j<i then j else i)) h:=rfl
@[simp] theorem Rk:DQ [.int i] h=.ok (.int i) h:=rfl
@[simp] theorem Rm:DQ [.bl b] h=.ok (.int (if b then 1 else 0)) h:=rfl
@[simp] theorem Mk:vl [.frl xs] h=.ok (.int xs.length) h:=rfl
@[simp] theorem Ml:vl [.tup xs] h=.ok (.int xs.length) h:=rfl
theorem ym(a:xs.length<=1000):ql xs h=.ok (.loc h.length) (h++[.lst xs]):=by
 unfold ql;rw[d_ (yi a (by decide))]
def fZ(a:m<n):z9 n (m:Int)=some m:=by unfold z9;rw[d_ (by lia),d_ (by lia)];simp
@[simp] theorem Tc:nk (a::r) 0=some a:=cW (j:=0) rfl
@[simp] theorem Td:nk (a::b::r) 1=some b:=cW (j:=1) rfl
@[simp] theorem Te:nk (a::b::c::r) 2=some c:=cW (j:=2) rfl
@[simp] theorem Tf:nk (a::b::c::d::r) 3=some d:=cW (j:=3) rfl
def Out.ofO(o:Option PV)(h:MH):Out PV:=match o with
 | some v=>.ok v h
 | none=>.bad
@[simp] theorem Mm:Out.ofO (some v) h=.ok v h:=rfl
@[simp] theorem Mn:bu (.tup xs) (.int i) h=Out.ofO (nk xs i) h:=rfl
@[simp] theorem Mo:bu (.frl xs) (.int i) h=Out.ofO (nk xs i) h:=rfl
theorem kZ(e:h[n]?=some (.lst xs)):bu (.loc n) (.int i) h=Out.ofO (nk xs i) h:=by
 simp only[bu,e];rfl
def nH(e:h[n]?=some (.lst xs)):nu (.loc n) (.int i) v h=(z9 xs.length i).map λp=>h.set n (.lst (xs.set p v)):=by simp only[nu,e]
@[simp] theorem K2:yp (.tup xs) h=.ok ⟨xs,[]⟩ h:=rfl
@[simp] theorem K3:yp (.frl xs) h=.ok ⟨xs,[]⟩ h:=rfl
@[simp] theorem vw:(⟨xs,[]⟩:MIt).ok h↔True:=⟨λ_=>trivial,λ_ p hp=>nomatch hp⟩
@[simp] theorem Px:(⟨xs,[(n,zs)]⟩:MIt).ok h↔h[n]?=some (.lst zs):=by
 constructor
 .intro q;exact q (n,zs) (by simp)
 .intro q p hp;have e:p=(n,zs):=C9.mp hp;subst e;exact q
end
def SOut.turn(o:SOut)(k:n8):SOut:=match o with
 | .nx f a=>k f a
 | .ct f a=>k f a
 | .bk f a=>.nx f a
 | .rt v a=>.rt v a
 | .exc e f a=>.exc e f a
 | .rse e f a=>.rse e f a
 | .bad=>.bad
@[simp] theorem AX:(SOut.rse x Z h).turn k=.rse x Z h:=rfl
@[simp] theorem Bo:(SOut.exc x Z h).turn k=.exc x Z h:=rfl
@[simp] theorem vE:(SOut.nx Z h).turn k=k Z h:=rfl
@[simp] theorem turn_ct:(SOut.ct Z h).turn k=k Z h:=rfl
@[simp] theorem turn_bk:(SOut.bk Z h).turn k=.nx Z h:=rfl
@[simp] theorem turn_rt:(SOut.rt v h).turn k=.rt v h:=rfl
theorem EX(e:it.ok h):z5 it g b [] Z h=.nx Z h:=by
 rw[z5];dsimp only;rw[d_ e]
def BL(e:it.ok h)(a:g x Z h=.nx Z1 h1):z5 it g b (x::r) Z h=(b Z1 h1).turn (z5 it g b r):=by
 rw[z5];dsimp only;rw[d_ e,a];rfl
def tK(I:Nat->Shared->Prop)
  (turn:∀n s,I n s->wpAny (model prog w) A (pyNext it) (λr f=>match r with
   | none=>R (.ok .next) f
   | some v=>wpAny (model prog w) A (letOwnedTupleGo target it v) (λ_ a=>wpAny (model prog w) A (assign target env v) (λ_ C =>
     wpAny (model prog w) A (forIn ifs true λc r=>if r=true then do let ok <-isTrue c env (eval c env);pure (ForInStep.yield ok) else pure (ForInStep.yield r)) (λok i =>
      if ok=true then wpAny (model prog w) A (eval elt env) (λx y =>
       wpAny (model prog w) A (call (.builtin "list.append") [acc,x]) (λ_ B=>∃m,m<n/\I m B) (λ_ _=>False) y) (λ_ _=>False) i
      else ∃m,m<n/\I m i) (λ_ _=>False) C) (λ_ _=>False) a) (λ_ _=>False) f) (λ_ _=>False) s)
  (n:Nat) (h:I n s) :
  codeAny (model prog w) A (.compLoop (.ListComp elt [⟨target,iter,ifs,0⟩] scope pos) 0 it acc env) R s:=by
 refine codeAny_loop rfl I (λn s L=>?_) n h;show wpAny _ A ((compTurn (.ListComp elt [⟨target,iter,ifs,0⟩] scope pos) 0 it acc env).onRaise (λx=>do noteFrame x env;theTreesLotGoes x)) _ _ s;refine wpAny_noted ?_;rw[compTurn_list];have M:∀(e:Value) (J:Shared),False->notedBy (model prog w) A env (λe J=>R (.error e) J) e J:=λ_ _ z=>z.elim;refine b_ (wpAny_standAt (b_ (wpAny_mono (turn n s L) (λr f l=>?_) λ_ _ j=>j.elim)))
 cases r with
 | none=>exact i3 l
 | some v =>
  refine b_ (wpAny_mono l (λ_ a E=>?_) λ_ _ j=>j.elim);refine b_ (wpAny_mono E (λ_ C F=>b_ (wpAny_mono F (λok i u=>?_) λ_ _ j=>j.elim)) λ_ _ j=>j.elim)
  cases ok with
  | false=>exact i3 ⟨rfl,u⟩
  | true =>
   exact b_ (b_ (wpAny_mono u (λx y H=>b_ (wpAny_mono H (λ_ B G=>i3 (i3 ⟨rfl,G⟩)) λ_ _ j=>j.elim)) λ_ _ j=>j.elim))
def kR(env:Env):List (Str × NameKind)->List (Str × Addr)->List (Str × Addr)
 | [],a=>a
 | (n,k)::r,a=>kR env r (if (k == NameKind.free)=true then (n,(env.cells.lookup n).getD 0)::a else a)
def rC(h:∀y∈scope.names,y.2=.free->∃c,env.cells.lookup y.1=some c):closureFor scope env=pure (kR env scope.names []):=by
 have key:∀(l:List (Str × NameKind)) (f:List (Str × Addr)),(∀y∈l,y.2=.free->∃c,env.cells.lookup y.1=some c) ->
   (forIn l f λ(x:Str × NameKind) (r:List (Str × Addr))=>if (x.2 == NameKind.free)=true then (do let a <-cellOf env x.1;pure (ForInStep.yield ((x.1,a)::r)):Sem _) else pure (ForInStep.yield r))=(pure (kR env l f):Sem _):=by
  intro l
  induction l with
  | nil=>intro f _;rfl
  | cons y l C =>
   intro f E;obtain⟨n,k⟩:=y;rw[Qn];have B:=λz F=>E z (m1 _ F);by_cases i:(k == NameKind.free)=true
   .obtain⟨c,j⟩:=E (n,k) CY (by simpa using i);dsimp only at j ⊢;rw[d_ i];have u:cellOf env n=pure c:=by unfold cellOf;rw[j]
    rw[u];refine (C ((n,c)::f) B).trans ?_;simp only[kR,i,if_true,j,Es]
   .dsimp only;rw[g_ i];refine (C f B).trans ?_;simp[kR,i]
 unfold closureFor;exact (congrArg (λz=>z >>= λr=>pure r) (key scope.names [] h)).trans rfl
def m8:∀(l:List (Str × NameKind)) (f:List (Str × Addr)),(∀a,f.lookup x=some a->a=(env.cells.lookup x).getD 0)->(∀a,(kR env l f).lookup x=some a->a=(env.cells.lookup x).getD 0)/\((∃k,(x,k)∈l/\k=.free)\/(∃a,f.lookup x=some a)->∃a,(kR env l f).lookup x=some a):=by
 intro l
 induction l with
 | nil =>
  intro f h;refine⟨h,λz=>?_⟩;rcases z with ⟨k,z,_⟩|z
  .cases z
  .exact z
 | cons y r E =>
  intro f h;obtain⟨n,k⟩:=y;have F:∀a,(if (k == NameKind.free)=true then (n,(env.cells.lookup n).getD 0)::f else f).lookup x=some a->a=(env.cells.lookup x).getD 0:=λa i=>by
   split at i
   .rw[Dk] at i
    split at i
    .rename_i e
     have:x=n:=by simpa using e
     subst this;exact (Option.some.inj i).symm
    .exact h a i
   .exact h a i
  obtain⟨B,u⟩:=E _ F;refine⟨B,λz=>u ?_⟩;rcases z with ⟨C,z,j⟩|⟨a,z⟩
  .rcases ml.mp z with e|e
   .cases e;right;subst j;exact⟨(env.cells.lookup x).getD 0,by simp⟩
   .exact .inl ⟨C,e,j⟩
  .right;split
   .rw[Dk];split
    .exact⟨_,rfl⟩
    .exact⟨a,z⟩
   .exact⟨a,z⟩
def cP{env:Env}(u:env.scope.kind=.function):∀{names:List (Str × NameKind)} {x:Str} {k:NameKind},names.lookup x=some k ->
  (names.map λ(n,k)=>if (k == NameKind.free && env.scope.kind == .function && env.kindOf n == some .cell) then (n,NameKind.cell) else (n,k)).lookup x=some (if k=.free/\env.kindOf x=some .cell then .cell else k):=by
 intro names
 induction names with
 | nil=>intro x k h;simp at h
 | cons y r f =>
  intro x k h;obtain⟨n,i⟩:=y;have l:=@f x k;show List.lookup x ((if (i == NameKind.free && env.scope.kind == .function && env.kindOf n == some .cell)=true then (n,NameKind.cell) else (n,i))::_)=_
  cases a:x == n with
  | true =>
   have e:x=n:=by simpa using a
   subst e;simp only[Dk,a] at h;cases h;by_cases z:k=.free/\env.kindOf x=some .cell
   .rw[d_ (by simp[z.1,z.2,u]),d_ z];simp[Dk]
   .rw[g_ (by simp[u];intro q1 B;exact z ⟨q1,B⟩),g_ z];simp[Dk]
  | false =>
   simp only[Dk,a] at h;by_cases j:(i == NameKind.free && env.scope.kind == .function && env.kindOf n == some .cell)=true
   .rw[d_ j];simp only[Dk,a];exact l h
   .rw[g_ j];simp only[Dk,a];exact l h
def eG(X:Cx)(a:Scope)(cl:List (Str × Addr))(f:Shared)(i:Hp)(l:List Addr)(j:List Str):Cx :=
 { X with N:=j,s₀:=f,H₀:=i,env:=compEnvC a cl f.heap.objs.size X.env,outer:=X.stack,ex:=l,fn:=λx=>decide (a.names.lookup x=some .cell),pn:=[],xe:=λ_ _=>False}
structure BA (X:Cx) (N:List Str) (scope:Scope) (vars frees:List Str) (fm:List Nat):Prop where
 kind:scope.kind=.function
 cell:∀y∈scope.names,y.2=.cell->scope.names.lookup y.1=some .cell
 names:∀y∈scope.names,y.2=.local->scope.names.lookup y.1=some .local
 hv:∀x∈vars,scope.names.lookup x=some .local\/scope.names.lookup x=some .cell
 hf:∀x∈frees,scope.names.lookup x=some .free
 all:∀y∈scope.names,y.2=.free->y.1∈frees
 fm:fm.map (λi=>N[i]?)=frees.map some
 cl:∀x∈frees,X.env.kindOf x=some .cell
def DS(a:Nat)(fm:List Nat)(Z:oe):oe:=List.replicate a none++fm.map λi=>(Z[i]?).getD none
def Dn(f:MIt)(n:Nat)(i:Mg)(mt:Mx Bool)(j:Mx PV):List PV->oe->MH->Out Unit
 | [],_,h=>if f.ok h then .ok () h else .bad
 | x::r,Z,h=>if f.ok h then (match i x Z h with
  | .nx a y=>(mt a y).ne.bind λb u=>if b=true then (j a u).ne.bind λv l=>(match l[n]? with
    | some (.lst ys)=>if ys.length<sizeLine then Dn f n i mt j r a (l.set n (.lst (ys++[v]))) else .bad
    | _=>.bad) else Dn f n i mt j r a u
  | _=>.bad) else .bad
def eI(r:Nat)(fm:List Nat)(u:Mx MIt)(j:Mg)(mt:Mx Bool)(i:Mx PV):Mx PV:=λZ h =>
 (u Z h).bind λf a=>(Dn f a.length j mt i f.xs (DS r fm Z) (a++[.lst []])).bind λ_ l=>.ok (.loc a.length) l
def EY(X:Cx)(a:List Expr)(m:Mx Bool):Prop :=
 ∀(f:List (Addr × Obj)) (s:Shared) (Z:L2.St) (H:Hp) (Q:Bool->Hp->Prop),Inv X f Z H s->tM X L4 m Z H Q ->
  wpAny (model X.prog X.w) X.A (forIn a true λc r=>if r=true then do let ok <-isTrue c X.env (eval c X.env);pure (ForInStep.yield ok) else pure (ForInStep.yield r)) (TP X f Z Q) X.xe s
def CH:Mx Bool:=λ_ h=>.ok true h
def j7:EY X [] CH:=λi s Z H Q I ⟨U,a,h,j,f,q⟩=>wpAny_tests_nil ⟨H,I,q U H true (Le.refl _ _) f rfl⟩
def EZ(h:MT X c m):EY X [c] m:=λa s Z H Q I q=>wpAny_tests_one (h a s Z H Q I q)
inductive CS (X:Cx) (U:List Addr) (H:Hp) (σp:oe) (gt:Mg) (mt:Mx Bool) (me:Mx PV) (Z0:oe) (Q:VK) (J:It) (H1:Hp):Prop
 | mk (U1:List Addr) (it:MIt) (h1:MH) (l:Le U H U1 H1) (rh:RH X.K X.mg U1 H1 h1) (j:nP X U1 H1 it J) (q:Ful X (RV' X) σp U1 H1 ((Dn it h1.length gt mt me it.xs Z0 (h1++[.lst []])).bind λ_ h3=>.ok (.loc h1.length) h3) Q):CS X U H σp gt mt me Z0 Q J H1
inductive CI (X Y:Cx) (it:MIt) (tn:Nat->Heap->Prop) (fp U0:List Addr) (H0:Hp) (σp:oe) (n1:Nat) (gt:Mg) (mt:Mx Bool) (me:Mx PV) (Q:VK) (n:Nat) (s6:Shared):Prop
 | mk (i:Nat) (Z6:L2.St) (H6:Hp) (U6:List Addr) (σp6:oe) (h6:MH) (e:n=it.xs.length - i) (l:i<=it.xs.length) (v:Inv Y [] Z6 H6 s6) (t:tn i s6.heap) (f:∀b∈fp,H6 b=none) (le:Le U0 H0 U6 H6) (rs:RS X.K U6 H6 σp6 Z6) (rh:RH X.K X.mg U6 H6 h6)
   (q:Ful X (RV' X) σp U6 H6 ((Dn it n1 gt mt me (it.xs.drop i) σp6 h6).bind λ_ h3=>.ok (.loc n1) h3) Q):CI X Y it tn fp U0 H0 σp n1 gt mt me Q n s6
def rj
  (j:Q (newEnv scope s.heap.objs.size globals (cellsFrom (s.heap.objs.size+1) scope.names closure) qual none .none (some env) builtinsNs) { s with heap:=pushCells (s.heap.push { cls:=.type "dict",data:=.dict #[]}) scope.names}) :
  wpAny M A (newFunctionEnv scope globals closure [] qual none .none (some env)) Q E s:=by
 simp only[newFunctionEnv,Option.isSome_some,if_true];refine b_ (wpAny_alloc ?_);refine b_ (wpAny_layCells _ (λi kind f=>by cases a:kind == NameKind.cell <;> simp[a]) _ _ _ _ ?_);rw[show ({ s with heap:=s.heap.push { cls:=.type "dict",data:=.dict #[]}}:Shared).heap.objs.size=s.heap.objs.size+1 from Dl ..];rw[Qt];exact b_ (i3 (i3 j))
def dL:∀(names:List (Str × NameKind)) (n:Nat) (a:List (Str × Addr)),cellsFrom n names a=cellsFrom n names []++a
 | [],n,a=>rfl
 | (x,k)::r,n,a=>by
  unfold cellsFrom;split
  .rw[dL r (n+1) ((x,n)::a),dL r (n+1) [(x,n)]];simp
  .exact dL r n a
def fO:∀(names:List (Str × NameKind)) (n:Nat) (x:Str),(∃c,(x,c)∈cellsFrom n names [])↔(x,NameKind.cell)∈names
 | [],n,x=>by simp[cellsFrom]
 | (y,k)::r,n,x=>by
  unfold cellsFrom;split
  .rename_i f
   have i:k=NameKind.cell:=by simpa using f
   subst i;rw[dL];constructor
   .rintro⟨c,a⟩;rcases CZ.mp a with a|a
    .exact m1 _ ((fO r (n+1) x).mp ⟨c,a⟩)
    .have:x=y:=by simp at a;exact a.1
     rw[this];exact CY
   .intro h;rcases ml.mp h with e|h
    .have:x=y:=by simpa using e
     subst this;exact⟨n,z4 _ (by simp)⟩
    .obtain⟨c,a⟩:=(fO r (n+1) x).mpr h;exact⟨c,Gj _ a⟩
  .rename_i f
   rw[fO r n x];constructor
   .exact m1 _
   .intro h;rcases ml.mp h with e|h
    .exfalso
     have:NameKind.cell=k:=by simpa using (Prod.mk.inj e).2
     rw[<-this] at f;exact f rfl
    .exact h
def kf{α:Type}:∀(a b:List (Str × α)) (x:Str),(a++b).lookup x=(a.lookup x).or (b.lookup x)
 | [],b,x=>rfl
 | (y,v)::a,b,x=>by
  rw[Qd,Dk,Dk]
  cases x == y with
  | true=>rfl
  | false=>exact kf a b x
def sU{α:Type}:∀(a:List (Str × α)) (x:Str),a.lookup x=none->∀c,(x,c)∉a
 | [],x,_,c,h=>nomatch h
 | (y,v)::a,x,e,c,h=>by
  rw[Dk] at e
  cases z:x == y with
  | true=>rw[z] at e;cases e
  | false =>
   rw[z] at e;rcases ml.mp h with q|q
   .have:x=y:=(Prod.mk.inj q).1
    rw[this] at z;simp at z
   .exact sU a x e c q
section
variable {X:Cx} {N W G:List Str} {k:Nat}
def qF(g:Good X N W G k){tg an b9:Expr}{cd:List Expr}{f:Scope}{pos:Pos}{B frees G':List Str}{fm:List Nat}{mi:Mx MIt}{gt:Mg}{mt:Mx Bool}{me:Mx PV}(C:BA X N f B frees fm)
  (nd:(B++frees).Nodup) (ge:∀x∈G',f.names.lookup x=some .globalImplicit) (dbg:∀x∈(B++frees)++G',(x == ("__debug__":Str))=false/\(x == ("__classdict__":Str))=false/\x≠"__name__")
  (hi:MI X tg an mi)
  (hY:∀Y:Cx,Y.prog=X.prog->Y.w=X.w->Y.K=X.K->Y.mg=X.mg->Y.base=X.base->Y.env.scope=relabel f X.env->Good Y (B++frees) B G' k->MG Y tg gt/\EY Y cd mt/\ME Y b9 me)
  (hs:∀x,foldedSetIterable an X.env x=pure x) {use:Option (Value->Sem Unit)} {Qv:Value->Shared->Prop} {pp:Pos} {Mq:List (Addr × Obj)} {s:Shared} {Z:L2.St} {H:Hp} {Q:VK} (I:Inv X Mq Z H s) (tm:tM X (RV' X) (eI B.length fm mi gt mt me) Z H Q)
  (fin:∀(eq C:Addr) (H6:Hp) (s7:Shared) (m7:Str->Option Value),Inv X Mq Z H6 s7->H6 C=none->s7.heap.Ns C m7->C≠X.env.locals->X.s₀.heap.objs.size<=C->C∉X.fs->(∀x c,X.env.cells.lookup x=some c->c≠C)->(∀p∈X.pn++Mq,p.1≠C)->Q (.ref eq) H6 ->
   compPost (model X.prog X.w) X.A X.xe use Qv (.ref eq) C (.ok .next) s7) :
  wpAny (model X.prog X.w) X.A (comprehension (.ListComp b9 [⟨tg,an,cd,0⟩] f pos) f X.env pp (newList []) false (eval an X.env) use) Qv X.xe s:=by
 obtain⟨U,al,h,rs,rh,q⟩:=tm;have b4:∀y∈f.names,y.2=.free->∃c,X.env.cells.lookup y.1=some c:=λy hy e=>I.ok.has y.1 (.inl (C.cl _ (C.all y hy e)));refine wpAny_comprehension_free (use:=use) rfl hs (rC b4) C.kind C.names ?_;generalize c7:kR X.env f.names []=cl;have eQ:∀x a,cl.lookup x=some a->X.env.cells.lookup x=some a\/((X.env.cells.lookup x)=none/\a=0):=λx a e=>by
  rw[<-c7] at e
  have:=(m8 (env:=X.env) (x:=x) f.names [] (λa z=>by simp at z)).1 a e
  cases z:X.env.cells.lookup x with
  | none=>right;rw[z] at this;exact⟨rfl,this⟩
  | some c=>left;rw[z] at this;rw[this];rfl
 have ds:∀x∈frees,∃c,cl.lookup x=some c/\X.env.cells.lookup x=some c:=λx S=>by
  obtain⟨c,hc⟩:=I.ok.has x (.inl (C.cl x S));have hm:(∃kk,(x,kk)∈f.names/\kk=.free):=⟨.free,PySem.mem_of_lookup (C.hf x S),rfl⟩;obtain⟨a,ha⟩:=(m8 (env:=X.env) (x:=x) f.names [] (λa z=>by simp at z)).2 (.inl hm);rw[c7] at ha;rcases eQ x a ha with z|⟨z,_⟩
  .rw[hc] at z;cases z;exact⟨c,ha,hc⟩
  .rw[hc] at z;cases z
 have ew:∀x a,cl.lookup x=some a->X.env.cells.lookup x=some a/\x∈frees:=λx a e=>by
   have only:∀(l:List (Str × NameKind)) (cs:List (Str × Addr)) (x:Str) (a:Addr),(kR X.env l cs).lookup x=some a->(x,NameKind.free)∈l\/cs.lookup x=some a:=by
    intro l
    induction l with
    | nil=>intro cs x a e;exact .inr e
    | cons y l ih =>
     intro cs x a e;obtain⟨n,kk⟩:=y;rcases ih _ x a e with z|z
     .exact .inl (m1 _ z)
     .split at z
      .rename_i hk
       have f6:kk=NameKind.free:=by simpa using hk
       rw[Dk] at z
       split at z
       .rename_i e'
        have:x=n:=by simpa using e'
        subst this;subst f6;exact .inl CY
       .exact .inr z
      .exact .inr z
   have e':=e;rw[<-c7] at e';rcases only _ _ x a e' with z'|z'
   .refine⟨?_,C.all _ z' rfl⟩;rcases eQ x a e with z|⟨z,_⟩
    .exact z
    .obtain⟨c,hc⟩:=b4 _ z' rfl;rw[z] at hc;cases hc
   .simp at z'
 have start:=hi Mq s Z H (CS X U H al gt mt me (DS B.length fm al) Q) I
  ⟨U,al,h,rs,rh,Ful.bind q λU1 H1 it J h1 _ l1 b6 jr q1=>⟨U1,it,h1,l1,b6,jr,q1⟩⟩
 refine wpAny_mono start (λx g7 er=>wpAny_mono er (λhz F ek=>?_) λ_ _ e=>e) λ_ _ e=>e;obtain⟨ea,fp,tn,J,H2,rfl,I2,T,eF,f2,U1,it,h1,l1,b6,jr,q1⟩:=ek;refine wpAny_newObj_type ?_;have gy:H2 F.heap.objs.size=none:=I2.hok.fresh (j_ _);have M:=I2.lnew (ys:=[]) (its:=[]) (t':=F.toks) .nil (Cz _);obtain⟨e0,l3⟩:=b6.new gy (o:=.lst []) (ho:=.lst []) ⟨[],rfl,.nil⟩;generalize ga:({ F with heap:=F.heap.push { cls:=.type "list",data:=.seq ([]:List Value).toArray},toks:=F.toks}:Shared)=E at M;generalize ez:m_ H2 F.heap.objs.size (.lst [])=L at M e0 l3;have hj:L F.heap.objs.size=some (.lst []):=by rw[<-ez];exact cp
 have f1:E.heap=F.heap.push { cls:=.type "list",data:=.seq ([]:List Value).toArray}:=by rw[<-ga]
 have b8:tn 0 E.heap:=T.keep _ _ _ eF λb _ o e=>by rw[f1];exact mz _ e
 have br:∀b∈fp,i6 X Mq L b:=λb R=>by
  obtain⟨a0,a1⟩:=f2 b R;refine⟨?_,a1⟩;obtain⟨o,eo,_⟩:=T.obj _ _ eF b R;rw[<-ez,bt (s_ (n9 eo))];exact a0
 have dd:wpAny (model X.prog X.w) X.A (newFunctionEnv f X.env.globals cl [] X.env.qual none .none (some X.env)) (λxg dV =>
    codeAny (model X.prog X.w) X.A (.compStart (.ListComp b9 [⟨tg,an,cd,0⟩] f pos) 0 (.ref ea) (.ref F.heap.objs.size) { xg with scope:=relabel f X.env}) (compPost (model X.prog X.w) X.A X.xe use Qv (.ref F.heap.objs.size) xg.locals) dV) X.xe E:=by
  refine rj ?_;have O:∀b o,E.heap.get? b=some o->(pushCells (E.heap.push { cls:=.type "dict",data:=.dict #[]}) f.names).get? b=some o:=λb o e=>pushCells_keeps _ _ b o (mz _ e);have eC:=(Heap.Ns.new E.heap (.type "dict")).keeps (pushCells_keeps f.names _);have a8:=cellsFrom_ok f.names (E.heap.push { cls:=.type "dict",data:=.dict #[]}) (E.heap.objs.size+1) [] ⟨λ_ _ hm=>(nomatch hm),List.Pairwise.nil⟩ (by rw[Dl];exact j_ _);rw[Dl] at a8;rw[dL];have b7:=fO f.names (E.heap.objs.size+1);generalize cellsFrom (E.heap.objs.size+1) f.names []=cn at a8 b7 ⊢;generalize pushCells (E.heap.push { cls:=.type "dict",data:=.dict #[]}) f.names=h' at O eC a8 ⊢;dsimp only[newEnv];have ax:∀x c,(cn++cl).lookup x=some c->((x,c)∈cn/\f.names.lookup x=some .cell/\E.heap.objs.size<c/\h'.IsCell c none)\/(X.env.cells.lookup x=some c/\f.names.lookup x=some .free):=λx c e=>by
   rw[kf] at e
   cases z:cn.lookup x with
   | some c' =>
    rw[z] at e
    have:c'=c:=by simpa using e
    subst this;have m:=PySem.mem_of_lookup z;obtain⟨q1,q2⟩:=a8.empty x c' m;exact .inl ⟨m,C.cell _ ((b7 x).mp ⟨c',m⟩) rfl,q2,q1⟩
   | none =>
    rw[z] at e;obtain⟨q1,q2⟩:=ew x c (by simpa using e);exact .inr ⟨q1,C.hf x q2⟩
  have eu:∀x c,x∈frees->cl.lookup x=some c->(cn++cl).lookup x=some c:=λx c S e=>by
   rw[kf]
   cases z:cn.lookup x with
   | none=>simpa using e
   | some c' =>
    have:=C.cell _ ((b7 x).mp ⟨c',PySem.mem_of_lookup z⟩) rfl
    rw[C.hf x S] at this;cases this
  have old:∀x c,X.env.cells.lookup x=some c->c<E.heap.objs.size:=λx c e=>by
   obtain⟨v,qc⟩:=M.cell x c e;exact qc.lt
  have ok:(eG X f (cn++cl) E L fp (B++frees)).Ok:=by
   refine⟨M.ok.mod,C.kind,M.ok.glob,M.ok.blt,j_ _,λx y c h1 h2=>?_,λx S=>?_,λx c S e=>?_,M.ok.hd,M.ok.frames,.inl rfl,
    λb R=>⟨?_,λx c e z=>?_⟩,M.bs,yi M.ok.bsz M.sz,λb o e R=>?_,λb R z=>?_,M.stack,M.stkFree,M.ok.tree,M.ok.top⟩
   .rcases ax x c h1 with ⟨a1,_,a2,_⟩|⟨a1,_⟩ <;> rcases ax y c h2 with ⟨b1,_,b2,_⟩|⟨b1,_⟩
    .exact PySem.name_of_addr a8.apart a1 b1
    .exact absurd (OP a2 (old y c b1)) (Dw _)
    .exact absurd (OP b2 (old x c a1)) (Dw _)
    .exact M.ok.inj x y c a1 b1
   .
    have a9:(relabel f X.env).names.lookup x=some .cell\/(relabel f X.env).names.lookup x=some .free:=S
    cases e:f.names.lookup x with
    | none =>
     exfalso;have nn:∀(l:List (Str × NameKind)),l.lookup x=none->(l.map λ(n,k)=>if (k == NameKind.free && X.env.scope.kind == .function && X.env.kindOf n == some .cell) then (n,NameKind.cell) else (n,k)).lookup x=none:=by
      intro l
      induction l with
      | nil=>intro _;rfl
      | cons y l ih =>
       intro hl;obtain⟨n,kk⟩:=y;rw[Dk] at hl
       split at hl
       .cases hl
       .rename_i g2
        rw[m3];dsimp only
        split <;> (rw[Dk];simp only[g2];exact ih hl)
     have e2:=nn f.names e;rcases a9 with z|z
     .rw[show (relabel f X.env).names.lookup x=none from e2] at z;cases z
     .rw[show (relabel f X.env).names.lookup x=none from e2] at z;cases z
    | some kk =>
     have e2:=cP (env:=X.env) M.ok.kind e;have hk:kk=.free\/kk=.cell:=by
      rcases a9 with z|z
      .rw[show (relabel f X.env).names.lookup x=_ from e2] at z;have z':=Option.some.inj z;by_cases zz:kk=.free/\X.env.kindOf x=some .cell
       .exact .inl zz.1
       .rw[g_ zz] at z';exact .inr z'
      .rw[show (relabel f X.env).names.lookup x=_ from e2] at z;have z':=Option.some.inj z;by_cases zz:kk=.free/\X.env.kindOf x=some .cell
       .exact .inl zz.1
       .rw[g_ zz] at z';exact .inl z'
     rcases hk with hk|hk
     .subst hk;have hf:=C.all _ (PySem.mem_of_lookup e) rfl;obtain⟨c,h1,_⟩:=ds x hf;exact⟨c,eu x c hf h1⟩
     .subst hk;obtain⟨c,hc⟩:=(b7 x).mpr (PySem.mem_of_lookup e);show ∃c,(cn++cl).lookup x=some c;rw[kf]
      cases z:cn.lookup x with
      | some c'=>exact⟨c',rfl⟩
      | none=>exact absurd hc (sU cn x z c)
   .have a9:=of_decide_eq_true S;rcases ax x c e with ⟨_,_,q,_⟩|⟨_,q⟩
    .exact Dm q
    .rw[q] at a9;cases a9
   .obtain⟨o,eo,_⟩:=T.obj _ _ b8 b R;exact s_ (n9 eo)
   .rcases ax x c e with ⟨_,_,q,_⟩|⟨q,_⟩
    .obtain⟨o,eo,_⟩:=T.obj _ _ b8 b R;exact absurd (OP q (z▸n9 eo)) (Dw _)
    .exact (br b R).2.2.2.2.1 x c q z
   .obtain⟨_,_,_,h4,_⟩:=br b R;rcases h4 with h4|h4
    .exact M.ok.noex b o e h4
    .exact absurd (xv (n9 e) (yi M.ok.bsz h4)) (Dw _)
   .obtain⟨_,h2,h3,_⟩:=br b R;rcases ml.mp (M.stkSub b z) with e|e
    .exact h2 e
    .exact h3 e
  obtain⟨mX,hu,lX⟩:=M.loc;have f3:Le U H (U1++[F.heap.objs.size]) L:=l1.trans l3
  let ar:L2.St:=List.replicate B.length none++fm.map λi=>(Z[i]?).getD none
  have g1:fm.length=frees.length:=by have:=congrArg List.length C.fm;simpa using this
  have d0:Inv (eG X f (cn++cl) E L fp (B++frees)) [] ar L { E with heap:=h',toks:=E.toks}:=by
   refine⟨ok,rfl,M.bare,Un.kept O,⟨_,eC,λi x v hN hv hh=>?_⟩,λx c e=>?_,?_,λx c e=>?_,λp hp=>absurd (show p∈([]:List (Addr × Obj)) from hp) (by simp),M.hok.kept O,?_⟩
   .have c5:(B++frees)[i]?=some x:=hN;have dx:B.length<=i:=by
     by_cases z:B.length<=i
     .exact z
     .exfalso;have ao:ar[i]?=some (some v):=hv;rw[xu (by simp;ext),He] at ao
      split at ao <;> cases ao
    have ao:ar[i]?=some (some v):=hv;rw[C5 (by simpa using dx),Ld,tt] at ao;rw[C5 dx] at c5
    cases ej:fm[i - B.length]? with
    | none=>rw[ej] at ao;cases ao
    | some j =>
     rw[ej] at ao;have ef:=congrArg (λl=>l[i - B.length]?) C.fm;simp only[tt,ej,c5,DJ] at ef;have f0:N[j]?=some x:=by simpa using ef
     have ev:Z[j]?=some (some v):=by
      have:(Z[j]?).getD none=some v:=by simpa using ao
      cases z:Z[j]? with
      | none=>rw[z] at this;cases this
      | some o=>rw[z] at this;simp at this;rw[this]
     have S:x∈frees:=Ee c5;have gV:OV X.env.scope x:=.inr (.inl (C.cl x S));obtain⟨u,ru,dt⟩:=lX j x v (by rw[g.hN];exact f0) ev gV;refine⟨u,ru,.inr ⟨?_,?_⟩⟩
     .left;show (relabel f X.env).names.lookup x=some .cell
      have:=cP (env:=X.env) M.ok.kind (C.hf x S)
      rw[d_ ⟨rfl,C.cl x S⟩] at this;exact this
     .rcases dt with ⟨hk,_⟩|⟨_,c,hc,db⟩
      .rw[C.cl x S] at hk;cases hk
      .obtain⟨c',h1,h2⟩:=ds x S;rw[hc] at h2;cases h2;obtain⟨o,eo,ed⟩:=db;exact⟨c,eu x c S h1,o,O _ _ eo,ed⟩
   .rcases ax x c e with ⟨_,_,_,q⟩|⟨q,_⟩
    .exact⟨none,q⟩
    .obtain⟨v,o,eo,ed⟩:=M.cell x c q;exact⟨v,o,O _ _ eo,ed⟩
   .exact M.hok.fresh (j_ _)
   .rcases ax x c e with ⟨_,_,q,_⟩|⟨q,_⟩
    .exact M.hok.fresh (Dm q)
    .exact M.freeC x c q
   .show ar.length=(B++frees).length;simp[ar,g1]
  have gY:Good (eG X f (cn++cl) E L fp (B++frees)) (B++frees) B G' k:=by
   refine⟨rfl,nd,λx S=>?_,λx S=>?_,λx S=>?_,dbg,g.calm,g.room,PassesOwn.never⟩
   .rcases CZ.mp S with z|z
    .rcases C.hv x z with z|z
     .left
      have:=cP (env:=X.env) M.ok.kind z
      rw[g_ (λq=>nomatch q.1)] at this;exact this
     .right
      have:=cP (env:=X.env) M.ok.kind z
      rw[g_ (λq=>nomatch q.1)] at this;exact this
    .right
     have:=cP (env:=X.env) M.ok.kind (C.hf x z)
     rw[d_ ⟨rfl,C.cl x z⟩] at this;exact this
   .rcases C.hv x S with z|z
    .right
     have:=cP (env:=X.env) M.ok.kind z
     rw[g_ (λq=>nomatch q.1)] at this;exact this
    .exact .inl (decide_eq_true z)
   .have:=cP (env:=X.env) M.ok.kind (ge x S)
    rw[g_ (λq=>nomatch q.1)] at this;exact this
  obtain⟨hg,ht,he⟩:=hY (eG X f (cn++cl) E L fp (B++frees)) rfl rfl rfl rfl rfl rfl gY;have fa:RS X.K (U1++[F.heap.objs.size]) L (DS B.length fm al) ar:=by
   refine⟨by simp[ar,DS],λi v e=>?_⟩;unfold DS at e;by_cases z:B.length<=i
   .rw[C5 (by simpa using z),Ld,tt] at e
    cases ej:fm[i - B.length]? with
    | none=>rw[ej] at e;cases e
    | some j =>
     rw[ej] at e;have ev:al[j]?=some (some v):=by
      have:(al[j]?).getD none=some v:=by simpa using e
      cases z:al[j]? with
      | none=>rw[z] at this;cases this
      | some o=>rw[z] at this;simp at this;rw[this]
     obtain⟨v',e',rv⟩:=rs.2 j v ev;refine⟨v',?_,rv.le f3⟩;show ar[i]?=_;rw[C5 (by simpa using z),Ld,tt,ej];simp[e']
   .rw[xu (by simp;ext),He] at e
    split at e <;> cases e
  have q3:Ful X (RV' X) al (U1++[F.heap.objs.size]) L ((Dn it h1.length gt mt me it.xs (DS B.length fm al) (h1++[.lst []])).bind λ_ h3=>.ok (.loc h1.length) h3) Q:=Ful.le l3 q1;have bm:(U1++[F.heap.objs.size])[h1.length]?=some F.heap.objs.size:=by rw[<-b6.len];simp
  have c1:∀bf:Shared,bf={ E with heap:=h',toks:=E.toks}->codeAny (model X.prog X.w) X.A (.compLoop (.ListComp b9 [⟨tg,an,cd,0⟩] f pos) 0 (.ref ea) (.ref F.heap.objs.size) (compEnvC f (cn++cl) E.heap.objs.size X.env))
    (compPost (model X.prog X.w) X.A X.xe use Qv (.ref F.heap.objs.size) E.heap.objs.size) bf:=by
   rintro bf rfl;refine tK (CI X (eG X f (cn++cl) E L fp (B++frees)) it tn fp (U1++[F.heap.objs.size]) L al h1.length gt mt me Q) ?_ it.xs.length
    ⟨0,ar,L,_,_,_,rfl,Cz _,d0,T.keep _ _ _ b8 (λb _ o e=>O b o e),λb R=>(br b R).1,Le.refl _ _,fa,e0,by simpa using q3⟩
   rintro n s6 ⟨i,Z6,H6,U6,bL,h6,rfl,hw,I6,dF,ey,l6,f5,dk,q6⟩;have bc:∀{H':Hp},(∀b∈fp,H' b=none)->∀b∈fp,i6 (eG X f (cn++cl) E L fp (B++frees)) [] H' b:=λ{H'} hn b R =>
    ⟨hn b R,(ok.exf b R).1,ok.exfs b R,.inl R,(ok.exf b R).2,λp hp=>absurd (show p∈([]:List (Addr × Obj)) from hp) (by simp)⟩
   by_cases b3:i<it.xs.length
   .have ed:it.xs.drop i=it.xs[i]::it.xs.drop (i+1):=Ot b3;rw[ed] at q6;simp only[Dn] at q6;by_cases hok:it.ok h6
    .rw[d_ hok] at q6;obtain⟨j1,_⟩:=jr U6 H6 h6 i (l3.trans l6) dk hok;obtain⟨go,yl⟩:=j1 b3;refine l_ (T.item (eG X f (cn++cl) E L fp (B++frees)) rfl rfl rfl g.calm i [] s6 Z6 H6 (λ_ _=>False) I6 (bc ey) dF go) λr s7 ⟨u,hr,h7⟩=>?_;subst hr;refine l_ h7 λ_ s8 ⟨x8,H8,I8,r8,y8,de,e7⟩=>?_;obtain⟨U8,x,l8,fb,ex,rx⟩:=yl x8 H8 y8;have gb:x=it.xs[i]:=by rw[p_ b3] at ex;exact (Option.some.inj ex).symm
     subst gb;have g3:=I8.pinned (bc e7) (T.obj _ _ de);have q8:=Ful.le l8 q6;have cm:∀{Z9:L2.St} {H9:Hp} {s9:Shared},Inv (eG X f (cn++cl) E L fp (B++frees)) ([]++lu fp s8.heap) Z9 H9 s9->Inv (eG X f (cn++cl) E L fp (B++frees)) [] Z9 H9 s9/\tn (i+1) s9.heap/\∀b∈fp,H9 b=none:=λ{Z9 H9 s9} I9=>by
      refine⟨I9.unpinned,T.keep _ _ _ de λb R o e=>(I9.pin (b,o) (z4 _ (z4 _ (ig R e)))).1,λb R=>?_⟩;obtain⟨o,e,d⟩:=T.obj _ _ de b R;exact (I9.pin (b,o) (z4 _ (z4 _ (ig R e)))).2.1
     cases eg:gt it.xs[i] bL h6 with
     | nx P h9 =>
      rw[eg] at q8;dsimp only at q8
      refine l_ (hg _ s8 Z6 H8 x8 u (λZ' H'=>∃U',Le U8 H8 U' H'/\RH X.K X.mg U' H' h9/\RS X.K U' H' P Z') g3 r8 ⟨U8,bL,h6,_,f5.le l8,fb,rx,by
       show om _ _ _ (gt it.xs[i] bL h6) _
       rw[eg];exact λU' H' Z' l r s=>⟨U',l,r,s⟩⟩) λ_ s9 ⟨Z9,H9,I9,U9,l9,gk,b5⟩=>?_
      have q9:=Ful.le l9 q8
      cases em:mt P h9 with
      | ok b ay =>
       rw[em,Out.ne_ok] at q9;rw[Out.bind_ok] at q9
       refine l_ (ht _ s9 Z9 H9 (λb' H'=>b'=b/\∃U',Le U9 H9 U' H'/\RH X.K X.mg U' H' ay) I9 ⟨U9,P,h9,b5,gk,by
        show Ful _ _ _ _ _ (mt P h9) _
        rw[em];exact λU' H' v' l r e=>⟨e.symm,U',l,r⟩⟩) λb' g5 ⟨c4,e6,eb,da,a3,cx⟩=>?_
       subst eb;have ai:=Ful.le a3 q9
       cases b' with
       | false =>
        rw[g_ DB] at ai ⊢;obtain⟨eh,dv,d1⟩:=cm e6;exact⟨_,by ext,i+1,Z9,c4,da,P,ay,rfl,b3,eh,dv,d1,l6.trans (l8.trans (l9.trans a3)),b5.le a3,cx,ai⟩
       | true =>
        rw[d_ rfl] at ai ⊢
        cases ee:me P ay with
        | ok v ec =>
         rw[ee,Out.ne_ok] at ai;rw[Out.bind_ok] at ai
         refine l_ (he _ g5 Z9 c4 (λv' H'=>∃U',Le da c4 U' H'/\RH X.K X.mg U' H' ec/\RP X.K U' H' v v') e6 ⟨da,P,ay,b5.le a3,cx,by
          show Ful _ _ _ _ _ (me P ay) _
          rw[ee];exact λU' H' v' l r e=>⟨U',l,r,e⟩⟩) λgw f4 ⟨v',c2,gx,d2,es,c3,c0,el⟩=>?_
         have as:=Ful.le c3 ai;have b0:Le (U1++[F.heap.objs.size]) L es c2:=l6.trans (l8.trans (l9.trans (a3.trans c3)));obtain⟨oa,gs,g0⟩:=c0.obj (b0.get bm);rw[gs] at as
         cases oa with
         | dic fz ks xs=>exact as.elim
         | exc x=>exact as.elim
         | lst ys =>
          dsimp only at as;by_cases a7:ys.length<sizeLine
          .rw[d_ a7] at as;obtain⟨dc,fl,ry⟩:=g0;obtain⟨en,dn⟩:=c0.put (b0.get bm) (o:=.lst (ys++[v])) (ho:=.lst (dc++[v'])) ⟨_,rfl,ry.append (.cons el .nil)⟩;have ap:=qH (X:=eG X f (cn++cl) E L fp (B++frees)) _ f4 Z9 c2 (.ref F.heap.objs.size) [v'] (.ref F.heap.objs.size) [gw] (λ_ H'=>H'=m_ c2 F.heap.objs.size (.lst (dc++[v']))) gx rfl (.cons d2 .nil) ⟨F.heap.objs.size,dc,v',rfl,rfl,fl,by rw[<-ry.length];exact a7,rfl⟩;refine l_ ap λ_ hq ⟨_,hA,g4,_,eH⟩=>?_;subst eH;obtain⟨ei,et,ep⟩:=cm g4;exact⟨_,by ext,i+1,Z9,_,es,P,_,rfl,b3,ei,et,ep,b0.trans dn,(b5.le a3).le (c3.trans dn),en,Ful.le dn as⟩
          .rw[g_ a7] at as;exact as.elim
        | exc x ec=>rw[ee] at ai;exact ai.elim
        | bad=>rw[ee] at ai;exact ai.elim
      | exc x ay=>rw[em] at q9;exact q9.elim
      | bad=>rw[em] at q9;exact q9.elim
     | _=>rw[eg] at q8;exact q8.elim
    .rw[g_ hok] at q6;exact q6.elim
   .have e:i=it.xs.length:=by ext
    rw[e,Qc] at q6;simp only[Dn] at q6;by_cases hok:it.ok h6
    .rw[d_ hok] at q6;obtain⟨_,j2⟩:=jr U6 H6 h6 i (l3.trans l6) dk hok;refine l_ (T.done (eG X f (cn++cl) E L fp (B++frees)) rfl rfl rfl g.calm i [] s6 Z6 H6 (λ_ _=>False) I6 (bc ey) dF (j2 (by ext))) λr s7 ⟨hr,I7⟩=>?_;subst hr;obtain⟨m7,fo,_⟩:=I7.loc;have IX:=M.call' (s':=s7) (ch:=fp) I7.os I7.base I7.hok I7.bare λb R=>by
      obtain⟨_,a2,_,a4,a5,a6⟩:=br b R;exact⟨a4,a2,a5,a6⟩
     exact fin _ _ H6 s7 m7 IX I7.free fo (Cy M.lt) M.sz (M.nofs (j_ _)) (λx c e z=>by
      obtain⟨v,qc⟩:=M.cell x c e
      exact absurd qc.lt (by rw[z];exact Dw _)) (λp hp z=>absurd (n9 (M.pin p hp).1) (by rw[z];exact Dw _)) (q6 U6 H6 _ (Le.refl _ _) dk (.loc (l6.get bm)))
    .rw[g_ hok] at q6;exact q6.elim
  exact codeAny_compStart_list (c1 _ rfl) (T.self X.A 0 _ _ _ (T.keep _ _ _ b8 (λb _ o e=>O b o e)) (c1 _ rfl))
 exact dd
def vZ(g:Good X N W G k){y i l:Expr}{j:List Expr}{f:Scope}{u:Pos}{a frees r:List Str}{fm:List Nat}{L:Mx MIt}{J:Mg}{mt:Mx Bool}{M:Mx PV}(C:BA X N f a frees fm)
  (nd:(a++frees).Nodup) (z:∀x∈r,f.names.lookup x=some .globalImplicit) (dbg:∀x∈(a++frees)++r,(x == ("__debug__":Str))=false/\(x == ("__classdict__":Str))=false/\x≠"__name__")
  (U:MI X y i L)
  (hY:∀Y:Cx,Y.prog=X.prog->Y.w=X.w->Y.K=X.K->Y.mg=X.mg->Y.base=X.base->Y.env.scope=relabel f X.env->Good Y (a++frees) a r k->MG Y y J/\EY Y j mt/\ME Y l M)
  (hs:∀x,foldedSetIterable i X.env x=pure x:=by intro _;rfl):ME X (.ListComp l [⟨y,i,j,0⟩] f u) (eI a.length fm L J mt M):=by
 intro Mq s Z H Q I tm;rw[eval_ListComp];refine qF g C nd z dbg U hY hs I tm λE D P S m7 IX O ns hL hz R F T q=>?_;refine⟨m7,ns,λai B=>⟨.ref E,P,?_,rfl,q⟩⟩;exact IX.turned (it:=D) (t':=S.toks) (λb o hb e=>B.extBut b o hb e) O hL (.inr hz) F T
def qt(g:Good X N W G k)(i:Nat){y:Str}{py F:Pos}{L f E:Expr}{B:List Expr}{a:Scope}{u:Pos}{j frees G':List Str}{fm:List Nat}{mi:Mx MIt}{gt:Mg}{mt:Mx Bool}{me:Mx PV}(M:N[i]?=some y)(hw:W[i]?=some y)
  (an:swapsWith (.ListComp E [⟨L,f,B,0⟩] a u) (some (.Name y py)) F.line X.env=pure true) (C:BA X N a j frees fm)
  (nd:(j++frees).Nodup) (al:∀x∈G',a.names.lookup x=some .globalImplicit) (dbg:∀x∈(j++frees)++G',(x == ("__debug__":Str))=false/\(x == ("__classdict__":Str))=false/\x≠"__name__")
  (hi:MI X L f mi)
  (hY:∀Y:Cx,Y.prog=X.prog->Y.w=X.w->Y.K=X.K->Y.mg=X.mg->Y.base=X.base->Y.env.scope=relabel a X.env->Good Y (j++frees) j G' k->MG Y L gt/\EY Y B mt/\ME Y E me)
  (hs:∀x,foldedSetIterable f X.env x=pure x:=by intro _;rfl):MS X (.Assign [.Name y py] (.ListComp E [⟨L,f,B,0⟩] a u) F) (bM i (eI j.length fm mi gt mt me)):=by
 intro Mq s Z H D I tm;obtain⟨U,ao,h,rs,rh,q⟩:=tm;rw[exec_Assign_Name_used _ _ _ _ an];refine b_ (wpAny_standAt (b_ ?_));show wpAny _ X.A (do let _ <-comprehension (.ListComp E [⟨L,f,B,0⟩] a u) a X.env _ (newList []) false (eval f X.env) (some (assign (.Name y py) X.env))) _ _ s
 refine b_ (wpAny_mono (qF (pos:=u) g C nd al dbg hi hY hs (use:=some (assign (.Name y py) X.env)) (Qv:=λ_ s'=>SP X Mq D .next s') (pp:=firstIterPos [⟨L,f,B,0⟩] u) (Q:=λv P=>D.nx (Z.set i (some v)) P) I
  ⟨U,ao,h,rs,rh,bG.ex q λU1 H1 v v' h1 l r z w=>w U1 H1 _ (Le.refl _ _) r ((rs.le l).set i z)⟩ λJ O H6 s7 m7 IX hC ns hL hz ai T hp q6=>?_) (λ_ s' hq=>i3 (i3 hq)) λ_ _ e=>e)
 .obtain⟨o,es,ep,ho,hd,hr⟩:=id ns;have IP:Inv X (Mq++[(O,o)]) Z H6 s7:=IX.pins_of λp R=>(CZ.mp R).elim (λz=>IX.pin p (z4 _ z)) λz=>by
   have e:p=(O,o):=by simpa using z
   subst e;exact⟨ho,hC,hL,ai,λv z=>by rw[hd] at z;cases z⟩
  have st:=vP (X:=X) (pos:=py) (by rw[g.hN];exact g.nd) (g.x M) (g.loc y (bo M)) (g.fn y (bo hw)) (Mq++[(O,o)]) s7 Z H6 (.ref J) (.ref J) (λZ' P=>Z'=Z.set i (some (.ref J))/\P=H6) IP rfl ⟨rfl,rfl⟩;refine l_ st λ_ s8 ⟨Z8,H8,I8,e1,e2⟩=>?_;subst e1;subst e2;have pn:=I8.pin (O,o) (z4 _ (z4 _ (by simp)));refine⟨m7,⟨o,es,ep,pn.1,hd,hr⟩,λap S=>⟨_,_,?_,q6⟩⟩;exact (I8.unpinned).turned (it:=O) (t':=s8.toks) (λb o hb e=>S.extBut b o hb e) hC hL (.inr hz) T hp
end
section
variable {X:Cx} {N W G:List Str} {k:Nat} {Z:L2.St} {H:Hp} {s:Shared}
end
section
variable {prog:Program} {w:World} {A:Around} {E:Value->Shared->Prop} {h:Heap} {g:Array GenState} {d:Drawn} {t:Nat} {os:OsState} {a C:Addr} {o:Obj} {K:hR}
end
section
variable {X:Cx} {N W G:List Str} {k:Nat}
end
def ni(hf:∀v d,f v=some d->d.depth<=n/\d.hasDict=false):∀{xs:List PV} {a:List PyData},cq f xs=some a->PyData.depthAll a<=n/\PyData.hasDictAll a=false
 | [],a,e=>by cases e;simp[PyData.depthAll,PyData.hasDictAll]
 | x::r,a,e=>by
  simp only[cq] at e
  split at e
  .rename_i d j e1 e2
   cases e;obtain⟨y,i⟩:=hf _ _ e1;obtain⟨u,l⟩:=ni hf e2;simp only[PyData.depthAll,PyData.hasDictAll,i,l];exact⟨by lia,rfl⟩
  .cases e
def nQ:∀(n:Nat) (v:PV) (d:PyData),rd n h v=some d->d.depth<=n/\d.hasDict=false
 | 0,v,d,e=>by
  cases v <;> simp only[rd] at e <;> cases e <;> simp[PyData.depth,PyData.hasDict]
 | n+1,v,d,e=>by
  have key:∀xs,(∀f,cq (rd n h) xs=some f->PyData.depthAll f<=n/\PyData.hasDictAll f=false):=λxs f=>ni (nQ n)
  cases v with
  | non=>simp only[rd] at e;cases e;simp[PyData.depth,PyData.hasDict]
  | bl b=>simp only[rd] at e;cases e;simp[PyData.depth,PyData.hasDict]
  | int b=>simp only[rd] at e;cases e;simp[PyData.depth,PyData.hasDict]
  | str b=>simp only[rd] at e;cases e;simp[PyData.depth,PyData.hasDict]
  | tup xs =>
   simp only[rd,Bv] at e;obtain⟨f,e1,rfl⟩:=e;obtain⟨a,b⟩:=key xs f e1;exact⟨by simp only[PyData.depth];lia,by simp only[PyData.hasDict,b]⟩
  | frl xs =>
   simp only[rd,Bv] at e;obtain⟨f,e1,rfl⟩:=e;obtain⟨a,b⟩:=key xs f e1;exact⟨by simp only[PyData.depth];lia,by simp only[PyData.hasDict,b]⟩
  | loc m =>
   simp only[rd] at e
   split at e
   .rename_i xs _
    simp only[Bv] at e;obtain⟨f,e1,rfl⟩:=e;obtain⟨a,b⟩:=key xs f e1;exact⟨by simp only[PyData.depth];lia,by simp only[PyData.hasDict,b]⟩
   .cases e
section
variable {X:Cx} {N W G:List Str} {k:Nat}
end
def B0{p:Str->Prop}{a:Str}{l:List Str}(h:p a)(t:∀x∈l,p x):∀x∈a::l,p x:=λx f=>by
 rcases ml.mp f with rfl|z
 .exact h
 .exact t x z
section
variable {X:Cx} {N W G:List Str} {k:Nat}
def Cal.at(e1:Y.prog=X.prog)(e2:Y.w=X.w)(e3:Y.K=X.K)(e4:Y.mg=X.mg)(e5:Y.base=X.base)(c:Cal X x ps F i):Cal Y x ps F i:=c.to e1 e2 e3 e4 e5
end
def IG(f:X.env.scope=sc)(l:scope.kind=.function)(u:∀y∈scope.names,y.2=.cell->scope.names.lookup y.1=some .cell)(C:∀y∈scope.names,y.2=.local->scope.names.lookup y.1=some .local)(B:∀x∈a,scope.names.lookup x=some .local\/scope.names.lookup x=some .cell)
  (r:∀x∈frees,scope.names.lookup x=some .free) (F:∀y∈scope.names,y.2=.free->y.1∈frees) (z:fm.map (λi=>N[i]?)=frees.map some) (j:∀x∈frees,sc.names.lookup x=some .cell):BA X N scope a frees fm :=
 ⟨l,u,C,B,r,F,z,λx E=>by rw[<-f] at j;exact j x E⟩
section
variable {Z:oe} {h:MH}
@[simp] theorem Mp{nv:Nat}{fm:List Nat}{mi:Mx MIt}{gt:Mg}{mt:Mx Bool}{me:Mx PV}:eI nv fm mi gt mt me Z h =
 (mi Z h).bind λit h1=>(Dn it h1.length gt mt me it.xs (DS nv fm Z) (h1++[.lst []])).bind λ_ h3=>.ok (.loc h1.length) h3:=rfl
def Mr{o:MO}{g:MH}:(h++o::g)[h.length]?=some o:=by simp
end
def C7(f:Nat->List PV->MH->Out PV)(m:Mx PV)(l:Mx (List PV)):Mx PV:=λZ h=>(m Z h).bind λo a=>match o with
 | .loc n=>(match a[n]? with
  | some (.lst _)=>(l Z a).bind λj i=>(f n j i).ne
  | _=>.bad)
 | _=>.bad
def mD(n:Nat)(a:List PV)(h:MH):Out PV:=match a,h[n]? with
 | [v],some (.lst xs)=>if xs.length<sizeLine then .ok .non (h.set n (.lst (xs++[v]))) else .bad
 | _,_=>.bad
def gQ(n:Nat)(a:List PV)(h:MH):Out PV:=match a,h[n]? with
 | [],some (.lst _)=>.ok .non (h.set n (.lst []))
 | _,_=>.bad
section
variable {X:Cx} {N W G:List Str} {k:Nat}
def E0(X:Cx)(f:Nat->List PV->MH->Out PV):V->List V->Hp->VK->Prop:=λx i H Q=>∃U h n a ps,x=.ref a/\U[n]?=some a/\RH X.K X.mg U H h/\RPs X.K U H ps i/\jE X (RV' X) U H (f n ps h) Q
def AG:Ei X "list.append" (E0 X mD):=by
 intro L s Z H x M v F Q I y u ⟨U,h,n,a,ps,e,r,l,rp,q⟩;subst e;obtain⟨o,eo,z⟩:=l.obj r;unfold mD at q
 cases rp with
 | nil=>rw[eo] at q;exact q.elim
 | cons J E =>
  cases E with
  | cons _ _=>rw[eo] at q;exact q.elim
  | nil =>
   rw[eo] at q
   cases o with
   | lst xs =>
    dsimp only at q;by_cases f:xs.length<sizeLine
    .rw[d_ f] at q;obtain⟨ys,C,j⟩:=z;obtain⟨i,B⟩:=l.put r (o:=.lst (xs++[_])) (ho:=.lst (ys++[_])) ⟨_,rfl,j.append (.cons J .nil)⟩;exact qH L s Z H _ _ v F Q I y u ⟨a,ys,_,rfl,rfl,C,by rw[<-j.length];exact f,q U _ .non B i .non⟩
    .rw[g_ f] at q;exact q.elim
   | _=>exact q.elim
def tH:Ei X "list.clear" (E0 X gQ):=by
 intro C s Z H x F v B Q I r l ⟨U,h,n,a,ps,e,j,i,rp,q⟩;subst e;obtain⟨o,eo,u⟩:=i.obj j;unfold gQ at q
 cases rp with
 | cons _ _=>rw[eo] at q;exact q.elim
 | nil =>
  rw[eo] at q
  cases o with
  | lst xs =>
   obtain⟨ys,z,E⟩:=u;obtain⟨f,y⟩:=i.put j (o:=.lst []) (ho:=.lst []) ⟨_,rfl,.nil⟩;exact Bw C s Z H _ _ v B Q I r l ⟨a,ys,rfl,rfl,z,q U _ .non y f .non⟩
  | _=>exact q.elim
variable {o e:Expr} {es:List Expr} {name:Str} {apos cpos:Pos} {id:String} {f:Nat->List PV->MH->Out PV} {m:Mx PV} {ma:Mx (List PV)}
def GB{ta:TA}(y:∀Z H Q,tM X (RVs' X) ma Z H Q->ta Z H Q){Z:L2.St}{H:Hp}{Q:VK}(R:tM X (RV' X) (C7 f m ma) Z H Q):tM X (RV' X) m Z H (λx l=>OZ X.K "list" x l/\ta Z l λxs z=>E0 X f x xs z Q):=by
 obtain⟨U,j,h,C,S,q⟩:=R;refine⟨U,j,h,C,S,?_⟩;unfold C7 at q;refine Ful.bind q λM l x x' T _ O i F q1=>?_
 cases F with
 | @loc n a B =>
  obtain⟨ob,eo,J⟩:=i.obj B;dsimp only at q1;rw[eo] at q1
  cases ob with
  | lst xs =>
   obtain⟨ys,L,ry⟩:=J;refine⟨.inl ⟨rfl,ys,SqL.of L⟩,y Z l _ ⟨M,j,T,C.le O,i,?_⟩⟩;exact Ful.bind q1 λI z vs P Y _ E r u q2=>⟨I,Y,n,a,vs,rfl,E.get B,r,u,q2.zero⟩
  | _=>exact q1.elim
 | _=>exact q1.elim
def Ms(slot:Slot "list" name id)(r:typeOf (.builtin id)=pure (.type "method_descriptor"))(C:Ei X id (E0 X f))(u:ME X o m)(y:MA X (e::es) ma)
  (i:attributeBase o name X.env (eval o X.env)=eval o X.env:=by rfl)
  (l:((backTo cpos (starEach (e::es) X.env)).all (λx=>!x.1) && (backToKw cpos (keywordEach [] X.env)).all (λx=>x.1.isSome)
   && decide ((e::es).length+([]:List Keyword).length+(if ([]:List Keyword).isEmpty then 0 else 1)<30))=true:=by rfl)
  (j:(apos.endLine == cpos.line)=true:=by rfl) (B:starEach (e::es) X.env=(false,eval e X.env)::starEach es X.env:=by rfl) (a:(backTo cpos (starEach es X.env)).any (·.1)=false:=by rfl) :
  ME X (.Call (.Attribute o name apos) (e::es) [] cpos) (C7 f m ma) :=
 PE.imp (L0 PySem.F.plainAttrs_list slot r C u y i l j B a) λZ H Q q=>GB (λ_ _ _ z=>z) q
def zM(slot:Slot "list" name id)(j:typeOf (.builtin id)=pure (.type "method_descriptor"))(r:Ei X id (E0 X f))(l:ME X o m)
  (a:attributeBase o name X.env (eval o X.env)=eval o X.env:=by rfl) (i:(apos.endLine == cpos.line)=true:=by rfl) :
  ME X (.Call (.Attribute o name apos) [] [] cpos) (C7 f m h_) :=
 PE.imp (H4 PySem.F.plainAttrs_list slot j r l a i) λZ H Q q=>by
  have z:=GB (ma:=h_) (ta:=λZ H Q=>Q [] H) (λZ H Q ⟨U,u,h,B,y,z⟩=>z U H [] (Le.refl _ _) y .nil) q;exact z
@[simp] theorem IH:C7 f m ma Z h=(m Z h).bind λo h1=>match o with
 | .loc n=>(match h1[n]? with
  | some (.lst _)=>(ma Z h1).bind λvs h2=>(f n vs h2).ne
  | _=>.bad)
 | _=>.bad:=rfl
end
def dg(h:MH):PV->Option (List PV)
 | .tup xs=>some xs
 | .frl xs=>some xs
 | .loc n=>(match h[n]? with
  | some (.lst xs)=>some xs
  | _=>none)
 | _=>none
section
variable {X:Cx} {N W G:List Str} {k:Nat}
def mE(y:RH X.K X.mg U H h)(l:RP X.K U H x x')(e:dg h x=some xs):∃a ys,x'=.ref a/\(SqL X.K H a ys\/SqT X.K H a ys)/\RPs X.K U H xs ys:=by
 cases l with
 | tup s r=>cases e;exact⟨_,_,rfl,.inr s,r⟩
 | frl s r=>cases e;exact⟨_,_,rfl,.inl s.sq,r⟩
 | @loc n a z =>
  obtain⟨o,eo,u⟩:=y.obj z;simp only[dg,eo] at e
  cases o with
  | lst ys =>
   cases e;obtain⟨i,j,f⟩:=u;exact⟨a,i,rfl,.inl (SqL.of j),f⟩
  | _=>cases e
 | _=>cases e
variable {a b c:Expr} {ma mb mc:Mx PV} {f g':PV->PV->MH->Out PV} {op op':CmpOp} {pos:Pos}
def E1(i:Bool)(x y:PV)(h:MH):Out PV:=match dg h y with
 | some ys=>(match rd 60 h x,cq (rd 60 h) ys with
  | some d,some j=>if d.canLay0=true/\PyData.canLayAll0 j=true then .ok (.bl (if i then !j.any (λe=>PyData.eqv e d) else j.any (λe=>PyData.eqv e d))) h else .bad
  | _,_=>.bad)
 | none=>.bad
def kX:∀{i:List PyData},PyData.canLayAll0 i=true->∀d∈i,d.canLay0=true
 | [],_,d,hd=>nomatch hd
 | e::i,h,d,hd=>by
  simp only[PyData.canLayAll0,Gk] at h;rcases ml.mp hd with rfl|hd
  .exact h.1
  .exact kX h.2 d hd
def qR(hf:∀u d i,Reads hp u d i->fq u=PyData.eqv d dx):∀{j:List Value} {l:List PyData} {i:List Addr},ReadsAll hp j l i->j.any fq=l.any λe=>PyData.eqv e dx
 | _,_,_,.nil=>rfl
 | _,_,_,.cons r t=>by rw[OL,OL,hf _ _ _ r,qR hf t]
def lV:∀{j:List Value} {l:List PyData} {y:List Addr},ReadsAll hp j l y->∀u∈j,∃d i,d∈l/\Reads hp u d i
 | _,_,_,.nil,u,h=>nomatch h
 | _,_,_,.cons r t,u,h=>by
  rcases ml.mp h with rfl|h
  .exact⟨_,_,CY,r⟩
  .obtain⟨d,i,hd,z⟩:=lV t u h;exact⟨d,i,m1 _ hd,z⟩
def fq(i:Heap)(l:PyData)(u:Value):Bool:=if z:∃d j,Reads i u d j then PyData.eqv z.choose l else false
def rT(r:Reads hp u d i):fq hp dx u=PyData.eqv d dx:=by
 have z:∃d i,Reads hp u d i:=⟨d,i,r⟩;unfold fq;rw[dif_pos z];obtain⟨j,l⟩:=z.choose_spec;rw[<-(Reads.unique r _ _ l).1]
def Mt(hr:Room k X.A)(C:Bool):Cm X (compareOp (if C then .NotIn else .In)) (E1 C):=by
 intro Mq s Z H x' y' u v Q I R T ⟨U,h,x,y,F,rx,ry,q⟩;unfold E1 at q
 cases S:dg h y with
 | none=>rw[S] at q;exact q.elim
 | some ys =>
  rw[S] at q;dsimp only at q;obtain⟨a,zs,rfl,M,Y⟩:=mE F ry S
  cases ex:rd 60 h x with
  | none=>rw[ex] at q;exact q.elim
  | some j =>
   rw[ex] at q
   cases ed:cq (rd 60 h) ys with
   | none=>rw[ed] at q;exact q.elim
   | some ds =>
    rw[ed] at q;dsimp only at q;by_cases P:j.canLay0=true/\PyData.canLayAll0 ds=true
    .rw[d_ P] at q;cases T;obtain⟨_,rX⟩:=d7 I F 60 x x' u j rx R ex;have ai:=(nQ 60 x j ex).1;have B:∀(i:List Value),aJ zs i->(∀w∈i,SeqAt.EqAt X.A.in1 s w u (fq s.heap j w))/\i.any (fq s.heap j)=ds.any λe=>PyData.eqv e j:=λi l=>by
      obtain⟨as,RA⟩:=eY (λv v' u d r1 r2 e=>d7 I F 60 v v' u d r1 r2 e) Y l ed;refine⟨λw z=>?_,qR (λu d as r=>rT r) RA⟩;obtain⟨d,al,hd,O⟩:=lV RA w z;rw[rT O];refine SeqAt.eqAt_reads d j X.A.in1 s w u _ _ O rX (kX P.2 d hd) P.1 ?_
      have:=hr.un
      show X.A.units+1+_<_;lia
     cases C with
     | false =>
      rcases M with E|E
      .obtain⟨i,l,pl,hz⟩:=I.list E;obtain⟨J,L⟩:=B i l;refine SeqAt.in_listAt (fq s.heap j) pl.isList (λw z=>J w (by simpa using z)) ⟨.bl _,H,I,rfl,?_⟩;rw[show i.toArray.any (fq s.heap j)=i.any (fq s.heap j) by simp,L];exact q U H _ (Le.refl _ _) F (.bl _)
      .obtain⟨i,l,pl,hz⟩:=I.tuple E;obtain⟨J,L⟩:=B i l;refine SeqAt.in_tupleAt (fq s.heap j) pl (λw z=>J w (by simpa using z)) ⟨.bl _,H,I,rfl,?_⟩;rw[show i.toArray.any (fq s.heap j)=i.any (fq s.heap j) by simp,L];exact q U H _ (Le.refl _ _) F (.bl _)
     | true =>
      rcases M with E|E
      .obtain⟨i,l,pl,hz⟩:=I.list E;obtain⟨J,L⟩:=B i l;refine SeqAt.notIn_listAt (fq s.heap j) pl.isList (λw z=>J w (by simpa using z)) ⟨.bl _,H,I,rfl,?_⟩;rw[show i.toArray.any (fq s.heap j)=i.any (fq s.heap j) by simp,L];exact q U H _ (Le.refl _ _) F (.bl _)
      .obtain⟨i,l,pl,hz⟩:=I.tuple E;obtain⟨J,L⟩:=B i l;refine SeqAt.notIn_tupleAt (fq s.heap j) pl (λw z=>J w (by simpa using z)) ⟨.bl _,H,I,rfl,?_⟩;rw[show i.toArray.any (fq s.heap j)=i.any (fq s.heap j) by simp,L];exact q U H _ (Le.refl _ _) F (.bl _)
    .rw[g_ P] at q;exact q.elim
def C3(xs:List PV)(h:MH):Out PV:=match xs with
 | [x]=>(match dg h x with
  | some ys=>ql ys h
  | none=>.bad)
 | _=>.bad
def CN(xs:List PV)(h:MH):Out PV:=match xs with
 | [x]=>(match dg h x with
  | some ys=>.ok (.tup ys) h
  | none=>.bad)
 | _=>.bad
def vB:dw X (.type "list") C3:=by
 intro F s Z H xs C Q I r ⟨U,h,ps,u,rp,q⟩
 cases rp with
 | nil=>exact q.elim
 | cons J B =>
  cases B with
  | cons _ _=>exact q.elim
  | nil =>
   rename_i x y
   unfold C3 at q
   cases i:dg h x with
   | none=>simp only[i] at q;exact q.elim
   | some ys =>
    simp only[i] at q;obtain⟨a,z,rfl,j,l⟩:=mE u J i;obtain⟨_,E⟩:=mP u l q;exact sS F s Z H _ C Q I r ⟨a,z,rfl,j,E⟩
def A1:dw X (.type "tuple") CN:=by
 intro J s Z H xs F Q I r ⟨U,h,ps,C,rp,q⟩
 cases rp with
 | nil=>exact q.elim
 | cons P O =>
  cases O with
  | cons _ _=>exact q.elim
  | nil =>
   rename_i x y
   unfold CN at q
   cases z:dg h x with
   | none=>simp only[z] at q;exact q.elim
   | some ys =>
    simp only[z] at q;obtain⟨a,u,rfl,B,i⟩:=mE C P z;rcases B with j|j
    .refine lc J s Z H _ F Q I r ⟨a,u,rfl,.inl ⟨j,λl L=>?_⟩⟩;obtain⟨M,E⟩:=C.tup L u;exact q U _ _ E M (.tup (SqT.of cp) (i.le E))
    .exact lc J s Z H _ F Q I r ⟨a,u,rfl,.inr ⟨j,q U H _ (Le.refl _ _) C (.tup j i)⟩⟩
def gp(xs:List PV)(lo i:Option Int):List PV:=(xs.drop (HT.mw xs.length 0 lo)).take (HT.mw xs.length xs.length i - HT.mw xs.length 0 lo)
def II(x:PV)(lo i:Option Int)(h:MH):Out PV:=match x with
 | .tup xs=>if HT.mw xs.length 0 lo=0/\HT.mw xs.length xs.length i=xs.length then .bad else .ok (.tup (gp xs lo i)) h
 | .frl xs=>.ok (.loc h.length) (h++[.lst (gp xs lo i)])
 | .loc n=>(match h[n]? with
  | some (.lst xs)=>.ok (.loc h.length) (h++[.lst (gp xs lo i)])
  | _=>.bad)
 | _=>.bad
def Ub(X:Cx)(f:PV->Option Int->Option Int->MH->Out PV):V->Option Int->Option Int->Hp->VK->Prop:=λj lo i H Q=>∃U h x,RH X.K X.mg U H h/\RP X.K U H x j/\jE X (RV' X) U H (f x lo i h) Q
def qf{K:hR}{U:List Addr}{H:Hp}{xs:List PV}{ys:List V}(r:RPs K U H xs ys)(lo i:Option Int):RPs K U H (gp xs lo i) (iI ys lo i):=by
 unfold gp iI;rw[r.length];exact (r.drop _).take _
def Mu:OY X (Ub X II):=by
 intro P s Z H x' v B C lo i F Q I E M pl O ⟨U,h,x,l,J,q⟩
 cases J with
 | tup L y =>
  unfold II at q;dsimp only at q
  rename_i xs a ys
  by_cases z:HT.mw xs.length 0 lo=0/\HT.mw xs.length xs.length i=xs.length
  .rw[d_ z] at q;exact q.elim
  .rw[g_ z] at q;refine HW P s Z H _ v B C lo i F Q I E M pl O ⟨a,ys,rfl,L,by rw[<-y.length];exact z,λp u=>?_⟩;obtain⟨r,j⟩:=l.tup u (iI ys lo i);exact q U _ _ j r (.tup (SqT.of cp) ((qf y lo i).le j))
 | frl L y =>
  rename_i xs a ys
  refine vI P s Z H _ v B C lo i F Q I E M pl O ⟨a,ys,rfl,L.sq,λp u=>?_⟩;obtain⟨r,j⟩:=l.new u (o:=.lst (gp xs lo i)) (ho:=.lst (iI ys lo i)) ⟨_,rfl,qf y lo i⟩;exact q _ _ _ j r (.loc (by rw[<-l.len];simp))
 | @loc n a Y =>
  obtain⟨o,eo,S⟩:=l.obj Y;unfold II at q;dsimp only at q;rw[eo] at q
  cases o with
  | lst xs =>
   obtain⟨ys,T,R⟩:=S;refine vI P s Z H _ v B C lo i F Q I E M pl O ⟨a,ys,rfl,SqL.of T,λp u=>?_⟩;obtain⟨r,j⟩:=l.new u (o:=.lst (gp xs lo i)) (ho:=.lst (iI ys lo i)) ⟨_,rfl,qf R lo i⟩;exact q _ _ _ j r (.loc (by rw[<-l.len];simp))
  | _=>exact q.elim
 | _=>exact q.elim
def MO'(X:Cx)(e:Option Expr)(m:Mx (Option Int)):Prop:=PO X e (tM X L4 m)
def Tg:Mx (Option Int):=λ_ h=>.ok none h
def Th(m:Mx PV):Mx (Option Int):=λZ h=>(m Z h).bind λv j=>match v with
 | .int i=>.ok (some i) j
 | _=>.bad
def E2:MO' X none Tg:=λi s Z H Q I ⟨U,j,h,r,l,q⟩=>EI i s Z H Q I (q U H none (Le.refl _ _) l rfl)
def E3(h:ME X e m):MO' X (some e) (Th m):=λC s Z H Q I ⟨U,l,E,B,z,q⟩=>EJ h C s Z H Q I ⟨U,l,E,B,z,Ful.bind q λu y v F L _ J j r q1=>by
 cases r with
 | int i=>exact⟨i,rfl,q1 u y (some i) (Le.refl _ _) j rfl⟩
 | _=>exact q1.elim⟩
def Ti(m:Mx PV)(u y:Mx (Option Int)):Mx PV:=λZ h=>(m Z h).bind λx i=>(u Z i).bind λlo j=>(y Z j).bind λl r=>(II x lo l r).ne
def Mw{e:Expr}{lo r:Option Expr}{m:Mx PV}{C B:Mx (Option Int)}{M:Pos}(L:ME X e m)(O:MO' X lo C)(hu:MO' X r B):ME X (.Subscript e (.Slice lo r none M) pos) (Ti m C B) :=
 PE.imp (A0 Mu L O hu) λZ H Q ⟨U,i,h,u,rh,q⟩=>⟨U,i,h,u,rh,Ful.bind q λR H1 x x' h1 _ E l I q1=>⟨R,i,h1,u.le E,l,Ful.bind q1 λP H2 lo ai h2 _ z j el q2=>by
  subst el
  exact⟨P,i,h2,u.le (E.trans z),j,Ful.bind q2 λJ H3 r F Y _ T y eh S=>by
   subst eh
   exact⟨J,Y,x,y,(I.le z).le T,S.zero⟩⟩⟩⟩
end
section
variable {X:Cx} {N W G:List Str} {k:Nat}
end
def RH.loose{K:hR}{mg:DL}{U:List Addr}{H:Hp}{h:MH}(r:RH K mg U H h){p:Addr}(f:H p=none)(j:HO):RH K mg U (m_ H p j) h/\Le U H U (m_ H p j):=by
 have i:∀n a,U[n]?=some a->a≠p:=λn a e z=>by
  obtain⟨y,_,q⟩:=r.obj e;rw[z,f] at q;exact q.some rfl
 have l:Le U H U (m_ H p j):=⟨⟨[],by simp⟩,λa xs e=>by rw[bt (cc e f)];exact e,λa B u e=>by rw[bt (cc e f)];exact e⟩;exact⟨⟨r.len,r.nd,λn a o e1 e2=>by rw[bt (i n a e1)];exact (r.at' n a o e1 e2).le l⟩,l⟩
section
variable {X:Cx} {N W G:List Str} {k:Nat}
def lr(xs:List PV)(i:Int)(v:PV):List PV :=
 let k:=if i<0 then (i+(xs.length:Int)).toNat else min i.toNat xs.length
 xs.take k++v::xs.drop k
def mq(n:Nat)(a:List PV)(h:MH):Out PV:=match a with
 | [.int i,v]=>(match h[n]? with
  | some (.lst xs)=>if (-(2 ^ 63)<=i/\i<2 ^ 63)/\xs.length<sizeLine then .ok .non (h.set n (.lst (lr xs i v))) else .bad
  | _=>.bad)
 | _=>.bad
def zV:Ei X "list.insert" (E0 X mq):=by
 intro Mq s Z H x vs v us Q I rx rv ⟨U,h,n,a,ps,e,en,Y,rp,q⟩;subst e;obtain⟨o,eo,ro⟩:=Y.obj en;unfold mq at q
 split at q
 .rename_i i S
  cases rp with
  | cons r1 t1 =>
   cases t1 with
   | cons r2 t2 =>
    cases t2;cases r1;rw[eo] at q
    cases o with
    | lst xs =>
     dsimp only at q;by_cases B:(-(2 ^ 63)<=i/\i<2 ^ 63)/\xs.length<sizeLine
     .rw[d_ B] at q;obtain⟨ys,T,E⟩:=ro;cases rx
      cases rv with
      | cons J M=>cases M with
       | cons L R =>
        cases R
        rename_i C u1 F
        obtain⟨t,rfl⟩:=J;obtain⟨z,f,nn,r,u,e⟩:=I.lstM T
        let j:=if i<0 then (i+(f.length:Int)).toNat else min i.toNat f.length
        have l:RPs X.K U H (lr xs i S) (ys.take j++C::ys.drop j):=by
         have:(if i<0 then (i+(xs.length:Int)).toNat else min i.toNat xs.length)=j:=by
          show _=(if i<0 then (i+(f.length:Int)).toNat else min i.toNat f.length);rw[E.length,u]
         unfold lr;rw[this];exact (E.take j).append (.cons r2 (E.drop j))
        obtain⟨O,l'⟩:=Y.put en (o:=.lst (lr xs i S)) (ho:=.lst (ys.take j++C::ys.drop j)) ⟨_,rfl,l⟩;refine call_meets PySem.F.slot_list_insert ⟨_,e,rfl⟩ PySem.F.entry_list_insert (PySem.F.args_list_insert_3 _ _ _) (AutoListH.list_insert_list_int_val_1 a f.toArray nn i t F (by rw[fitsIndex_both B.1.1 B.1.2];simp) (by rw[u0];ext)) ⟨e,?_⟩;have y:aJ (ys.take j++C::ys.drop j) (f.take j++F::f.drop j):=(r.take j).append (.cons L (r.drop j));have P:(ys.take j++C::ys.drop j).length<=sizeLine:=by
         rw[<-l.length];have e1:(lr xs i S).length=xs.length+1:=by
          unfold lr;simp only[Dj,pk,Er,OD];ext
         ext
        refine⟨.non,_,I.lset (its':=f.take j++F::f.drop j) T e ?_ y P,rfl,q U _ .non l' O .non⟩;apply Array.ext';simp only[Array.toList_append,Array.toList_push,Array.toList_extract,u0];simp[j,List.extract];refine Lc ?_;rw[OD];exact j_ _
     .rw[g_ B] at q;exact q.elim
    | _=>exact q.elim
 .exact q.elim
end
end MM
namespace SetT
open PySem.SetTable
def iW(xs:Array Nat):Prop:=∀a b u v:Nat,a<b->xs[a]?=some u->xs[b]?=some v->u<v
def Cv(xs:Array Nat)(j:Nat)(I:iW xs):∀l lo i:Nat,i - lo<=l->lo<=i->i<=xs.size ->
  (∀a v,xs[a]?=some v->a<lo->v<j)->(∀a v,xs[a]?=some v->i<=a->j<=v) ->
  below.go xs j l lo i<=xs.size/\(∀a v,xs[a]?=some v->a<below.go xs j l lo i->v<j) /\
   (∀a v,xs[a]?=some v->below.go xs j l lo i<=a->j<=v):=by
 intro l
 induction l with
 | zero =>
  intro lo i M O G C z
  have:lo=i:=by lia
  subst this;exact⟨G,C,z⟩
 | succ f J =>
  intro lo i M O G C z;unfold below.go;by_cases y:lo<i
  .simp only[y,if_true];have u:(lo+i) / 2<xs.size:=by lia
   have B:xs[(lo+i) / 2]?=some (xs[(lo+i)/2]'u):=SS u;have hd:xs.getD ((lo+i) / 2) j=xs[(lo+i)/2]'u:=by simp[Array.getD,u]
   rw[hd];by_cases E:xs[(lo+i)/2]'u<j
   .simp only[E,if_true];apply J
    .lia
    .lia
    .lia
    .intro a v r H;by_cases F:a=(lo+i) / 2
     .subst F;rw[B] at r;cases r;exact E
     .have:=I a ((lo+i)/2) v _ (by lia) r B;lia
    .exact z
   .simp only[E,if_false];apply J
    .lia
    .lia
    .lia
    .exact C
    .intro a v r L;by_cases F:a=(lo+i) / 2
     .subst F;rw[B] at r;cases r;lia
     .have:=I ((lo+i)/2) a _ v (by lia) B r;lia
  .simp only[y,if_false]
   have:lo=i:=by lia
   subst this;exact⟨G,C,z⟩
def ie(xs:Array Nat)(j:Nat)(i:iW xs) :
  below xs j<=xs.size/\(∀a v,xs[a]?=some v->a<below xs j->v<j)/\(∀a v,xs[a]?=some v->below xs j<=a->j<=v):=by
 unfold below;apply Cv xs j i
 .lia
 .lia
 .lia
 .intro a v _ h;lia
 .intro a v f h
  have:=Ow h
  rw[this] at f;cases f
def GC(pl:Array Nat)(s:Nat):Prop:=∃i:Nat,pl[i]?=some s
def wG(j:Nat):has (#[]:Array Nat) j=false:=by
 unfold has;simp
def xV(t:SetTable)(hd:t.dummies=#[])(s:Nat)(h:¬GC t.place s):t.slot s=.empty:=by
 unfold SetTable.slot;simp only[hd,wG];split
 .rename_i a
  exact absurd ⟨_,by simpa using a⟩ h
 .simp
def uw(xs:Array α)(p:Nat)(x:α)(r:p<=xs.size)(i:Nat) :
  (insertAt xs p x)[i]?=if i<p then xs[i]? else if i=p then some x else xs[i - 1]?:=by
 unfold insertAt;have e1:(xs.extract 0 p).size=p:=by simp;lia
 rw[Array.getElem?_append];simp only[Array.size_push,e1];split
 .rename_i f
  rw[Array.getElem?_push];simp only[e1];split
  .rename_i a;subst a;simp
  .rename_i a
   have:i<p:=by lia
   simp only[this,if_true];rw[S4];simp;lia
 .rename_i f
  have a:¬i<p:=by lia
  have l:¬i=p:=by lia
  simp only[a,l,if_false];rw[S4];have e2:p+(i - (p+1))=i - 1:=by lia
  simp only[e2];split
  .rfl
  .rename_i j
   rw[Ow];simp at j;lia
def k8(xs:Array α)(p:Nat)(x:α)(a:p<=xs.size):(insertAt xs p x).size=xs.size+1:=by
 unfold insertAt;simp;lia
def base(M:Nat)(h:Int):Nat->Nat × Nat
 | 0=>(bits h % (M+1),bits h)
 | b+1=>leap M (base M h b).1 (base M h b).2
def yE{α:Type}{xs:Array α}{i:Nat}{v:α}(h:xs[i]?=some v):i<xs.size:=by
 by_cases a:i<xs.size
 .exact a
 .rw[Ow (by lia)] at h;cases h
def jP{α:Type}(xs:Array α)(i:Nat)(h:i<xs.size):∃v,xs[i]?=some v:=⟨_,SS h⟩
def Bj(pl:Array Nat)(s:Nat)(l:iW pl)(E:¬GC pl s):iW (insertAt pl (below pl s) s):=by
 obtain⟨G,y,B⟩:=ie pl s l;intro a b u v r j f;rw[uw _ _ _ G] at j f;have z:∀i,pl[i]?≠some s:=λi H=>E ⟨i,H⟩
 split at j
 .rename_i C
  have I:=y a u j C
  split at f
  .exact l a b u v r j f
  .split at f
   .cases f;exact I
   .rename_i F J
    exact l a (b-1) u v (by lia) j f
 .split at j
  .cases j
   rename_i C F
   have e1:¬b<below pl s:=by lia
   have e2:¬b=below pl s:=by lia
   simp only[e1,e2,if_false] at f
   have:=B (b-1) v f (by lia)
   have L:v≠s:=λe=>z (b-1) (by rw[f,e]);lia
  .rename_i C F
   have e1:¬b<below pl s:=by lia
   have e2:¬b=below pl s:=by lia
   simp only[e1,e2,if_false] at f;exact l (a-1) (b-1) u v (by lia) j f
def E4{L:List Nat}(h:L.Pairwise (·<·)):iW L.toArray:=by
 intro a b u v i y z;simp at y z;obtain⟨f,j⟩:=tr.mp y;obtain⟨r,l⟩:=tr.mp z;rw[<-j,<-l];exact P1.mp h a b f r i
def rm{α β:Type}(f:α->Option β):∀(l:List α),(∀x,x∈l->∃v,f x=some v)->∀q:Nat,(l.filterMap f)[q]?=l[q]?.bind f:=by
 intro l
 induction l with
 | nil=>intro _ q;simp
 | cons x l i =>
  intro h q;obtain⟨v,hv⟩:=h x (by simp);rw[Li,hv]
  cases q with
  | zero=>simp[hv]
  | succ q=>simp;exact i (λy a=>h y (by simp[a])) q
def xO{α:Type}(a:Array α):(List.range a.size).filterMap (a[·]?)=a.toList:=by
 apply P_;intro q;rw[rm _ _ (by intro x f;exact jP a x (by simpa using f))];by_cases h:q<a.size
 .rw[KJ h];simp
 .rw[Ed (by simp;lia)];simp;lia
section
variable {prog:Program} {w:World} {A:Around} {E:Value->Shared->Prop} {s:Shared}
def qX{h:Heap}{S:Addr}{o:Obj}{i es':Array (Int × Value)}{a:Nat}{t t':SetTable}(f:h.get? S=some o)(hd:o.data=.set i a t) :
  (h.update S (Obj.putSet es' t')).get? S=some { o with data:=.set es' (a+1) t'}:=by
 have:=Lg (Obj.putSet es' t') f (by rw[putSet_of es' t' hd];rfl)
 rw[putSet_of es' t' hd] at this;exact this
def My:SetTable.sizeAbove (SetTable.grown 5)=32:=by decide
end
end SetT
namespace SetT
open PySem.SetTable PyProof.Rows
section
variable {prog:Program} {w:World} {A:Around} {E:Value->Shared->Prop} {s:Shared}
def Ext(a h:Heap):Prop:=∀b o,a.get? b=some o->h.get? b=some o
abbrev g6(led:Bool):Obj:={ cls:=.type "set",dict:=none,data:=.set #[] 0 (.fresh 0 0 led)}
abbrev du(w:World):Bool:=!w.params.followText "set-order"
def Ct(a:Value)(h:Q₁ (.ref s.heap.objs.size) { s with heap:=s.heap.push (g6 (du w))}) :
  codeAny (model prog w) A (.call (.builtin "set.__new__") ⟨[.type "set",a],[]⟩) (wants Q₁ E) s:=by
 refine codeAny_of_tree ?_;show wpAny _ A.in1 (checkBuiltinCall "set.__new__" ⟨[.type "set",a],[]⟩ >>= λ_=>again (.builtin "set.__new__" ⟨[.type "set",a],[]⟩)) _ _ s;refine b_ (wpAny_of_eq (PySem.F.newCall_set_1 a) (i3 ⟨plainId_quiet PySem.F.plain_set_new _,codeAny_builtin PySem.F.entry_set_new ?_⟩));rw[Around.under_plainId PySem.F.plain_set_new _];unfold Builtin.«set.__new__» Builtin.Frozenset.newClass;have f:=sub_set_self;obtain⟨i,g,d,j,os⟩:=s;dsimp only
 wp_walk
 refine wpAny_askSetting (i3 ?_);dsimp only;simp only[newObj];exact b_ (wpAny_alloc (i3 (i3 h)))
end
def dD:Slot "set_iterator" "__next__" "set_iterator.__next__" :=
 .of (owner:="set_iterator") (n:="__next__") (by rw[typeLookup_type,builtinLookup_eq_fast];kernel_rfl) (by decide +kernel) (by decide +kernel) (by decide +kernel) (.inl (by decide +kernel)) (by rw[isSubtype_type];kernel_rfl)
def ld:Slot "set_iterator" "__iter__" "set_iterator.__iter__" :=
 .of (owner:="set_iterator") (n:="__iter__") (by rw[typeLookup_type,builtinLookup_eq_fast];kernel_rfl) (by decide +kernel) (by decide +kernel) (by decide +kernel) (.inl (by decide +kernel)) (by rw[isSubtype_type];kernel_rfl)
def k9:entryFor table "set_iterator.__next__"=some Builtin.«set_iterator.__next__»:=entryFor_of_fast (by kernel_rfl)
def rf:entryFor table "set_iterator.__iter__"=some Builtin.«dict_keyiterator.__iter__» :=
 entryFor_alias (id':="dict_keyiterator.__iter__") (by kernel_rfl) rfl (by decide +kernel) (by kernel_rfl)
def lC(a:Value):argsOk "set_iterator.__next__" ⟨[a],[]⟩:=by unfold argsOk;kernel_rfl
def t4(a:Value):argsOk "set_iterator.__iter__" ⟨[a],[]⟩:=by unfold argsOk;kernel_rfl
def t0:entryFor table "set.__iter__"=some Builtin.«frozenset.__iter__» :=
 entryFor_alias (id':="frozenset.__iter__") (by kernel_rfl) rfl (by decide +kernel) (by kernel_rfl)
def xk{α:Type}(l:List α)(i:Nat)(h:i<l.length):(l[i]::l.eraseIdx i).Perm l:=by
 rw[List.eraseIdx_eq_take_drop_succ];have e:l.take i++l[i]::l.drop (i+1)=l:=by rw[List.getElem_cons_drop h,Ox]
 exact Qe.symm.trans (List.Perm.of_eq e)
def E5(next:Nat->Nat):∀(a k:Nat) (left:List α) (j:Array α),left.length<=a->(pickOrder.go next a k left j).toList.Perm (j.toList++left):=by
 intro a
 induction a with
 | zero =>
  intro k left j h
  have:left=[]:=En.mp (by lia)
  subst this;unfold pickOrder.go;simp
 | succ f z =>
  intro k left j h;unfold pickOrder.go
  cases left with
  | nil=>simp
  | cons x l =>
   have i:next k % (x::l).length<(x::l).length:=Nat.mod_lt _ (by simp)
   have y:(x::l)[next k % (x::l).length]?=some ((x::l)[next k % (x::l).length]'i):=p_ i;rw[y];dsimp only;have r:((x::l).eraseIdx (next k % (x::l).length)).length<=f:=by
    rw[List.length_eraseIdx_of_lt i];lia
   refine (z (k+1) _ _ r).trans ?_;rw[Array.toList_push,Lk];refine List.Perm.append_left _ ?_;have u:(x::l).Perm ((x::l)[next k % (x::l).length]'i::(x::l).eraseIdx (next k % (x::l).length)):=(xk _ _ i).symm;exact u.symm
def Al(next:Nat->Nat)(xs:Array α):(pickOrder next xs).toList.Perm xs.toList:=by
 unfold pickOrder
 have:=E5 next xs.size 0 xs.toList #[] (by simp)
 simpa using this
def xK(xs:Array Nat)(f:iW xs):below xs 0=0:=by
 obtain⟨i,a,_⟩:=ie xs 0 f;by_cases h:below xs 0=0
 .exact h
 .exfalso;obtain⟨v,hv⟩:=jP xs 0 (by lia)
  have:=a 0 v hv (by lia)
  lia
def xX(xs:Array Nat)(f:iW xs)(i j:Nat)(h:xs[i]?=some j):below xs (j+1)=i+1:=by
 obtain⟨z,r,y⟩:=ie xs (j+1) f;have B:=yE h;by_cases u:below xs (j+1)<=i
 .have:=y i j h u;lia
 .by_cases l:i+1<below xs (j+1)
  .obtain⟨v,hv⟩:=jP xs (i+1) (by lia);have a:=r (i+1) v hv l;have b:=f i (i+1) j v (by lia) h hv;lia
  .lia
section
variable {prog:Program} {w:World} {A:Around} {E:Value->Shared->Prop} {s:Shared}
def cT(w:World)(S:Addr)(f:Nat)(a:Array (Int × Value)):Array (Int × Value):=if w.params.followText "set-order" then pickOrder (w.params.setOrder S f) a else a
def jm(w:World)(S:Addr)(f:Nat)(a:Array (Int × Value)):(cT w S f a).toList.Perm a.toList:=by
 unfold cT;split
 .exact Al _ _
 .exact List.Perm.refl _
def Mz(w:World)(f S:Addr)(o:Obj)(j:Array (Int × Value))(a:Nat)(t:SetTable)(i:Nat)(h:Heap):Prop :=
 h.get? S=some o/\∃slot:Nat,h.get? f=some { cls:=.type "set_iterator",dict:=none,data:=.fields #[.int slot 0,.int i 0,.ref S,.int j.size 0,.int a 0],slots:=#[]} /\
  (w.params.followText "set-order"=false->below t.place slot=i)
end
section
variable {prog:Program} {w:World} {A:Around} {E:Value->Shared->Prop} {s:Shared} {S it:Addr} {o:Obj} {es:Array (Int × Value)} {ep:Nat} {t:SetTable} {ks:List (List Int)}
def pA(a:Mz w it S o es ep t i s.heap):s.TypeIs (.ref it) "set_iterator":=let ⟨_,_,h,_⟩:=a;⟨_,h,rfl⟩
def Wkd(prog:Program)(w:World)(S:Addr)(o:Obj)(es:Array (Int × Value))(ep:Nat)(t:SetTable):Prop :=
 o.ExactSet/\o.data=.set es ep t/\t.dummies=#[]/\t.plain=true/\t.led=du w/\iW t.place/\t.place.size=es.size/\es.size<=t.mask
def vH{i:Nat}{h:Heap}{slot:Nat}{Q:Option (Value × Nat)->Shared->Prop}(T:Wkd prog w S o es ep t)(L:s.heap.get? S=some o)
  (u:w.params.followText "set-order"=false->below t.place slot=i)
  (f:∀(x:Int × Value) a,(cT w S ep es)[i]?=some x->(w.params.followText "set-order"=false->below t.place a=i+1)->Q (some (x.2,a)) s)
  (l:(cT w S ep es)[i]?=none->Q none s) :
  wpAny (model prog w) A (setNext S slot i ep) Q E s:=by
 obtain⟨U,I,T3,M,O,P,G,R⟩:=T;have hf:t.fits es.size=true:=by
  unfold SetTable.fits SetTable.fill;simp[G,T3];exact R
 unfold setNext;refine b_ (wpAny_setState_of L I hf ?_);dsimp only;unfold setsByText;refine b_ (b_ (wpAny_askSetting (i3 ?_)));unfold cT at f l
 cases r:w.params.followText "set-order" with
 | true =>
  rw[r] at f l;simp only[if_true] at f l;show wpAny _ _ (if w.params.followText "set-order"=true then _ else _) _ _ _;rw[r];simp only[if_true,bne_self_eq_false,su,if_false];unfold setWalk;refine b_ (b_ (wpAny_setState_of L I hf ?_));dsimp only;unfold setsByText;refine b_ (b_ (wpAny_askSetting (i3 ?_)));show wpAny _ _ (if w.params.followText "set-order"=true then _ else _) _ _ _;rw[r];simp only[if_true];refine b_ (wpAny_askSetting (i3 ?_));refine i3 ?_;show Q (((pickOrder (w.params.setOrder S ep) es)[i]?).map λe=>(e.2,slot)) s
  cases J:(pickOrder (w.params.setOrder S ep) es)[i]? with
  | none=>exact l J
  | some x=>exact f x slot J (λz=>nomatch z)
 | false =>
  rw[r] at f l;simp only[su,if_false] at f l;show wpAny _ _ (if w.params.followText "set-order"=true then _ else _) _ _ _;rw[r];simp only[su,if_false];have B:¬((!t.plain && decide (es.size>1))=true):=by rw[M];simp
  refine (?_:wpAny _ _ (if (!t.plain && decide (es.size>1))=true then _ else _) _ _ _);rw[g_ B];have C:¬((!t.led && !es.isEmpty)=true):=by rw[O];simp[du,r]
  refine b_ (?_:wpAny _ _ (if (!t.led && !es.isEmpty)=true then _ else _) _ _ _);rw[g_ C];refine i3 ?_;refine i3 ?_;have F:=u r;rw[F]
  cases y:es[i]? with
  | none=>exact l y
  | some x =>
   obtain⟨j,H⟩:=jP t.place i (by rw[G];exact yE y);rw[H];exact f x (j+1) y (λ_=>xX _ P i j H)
def Wkd.fits(T:Wkd prog w S o es ep t):t.fits es.size=true:=by
 obtain⟨j,r,T3,i,l,u,f,a⟩:=T;unfold SetTable.fits SetTable.fill;simp[f,T3];exact a
def vj{i:Nat}{x:Int × Value}{Q:Option Value->Shared->Prop}(T:Wkd prog w S o es ep t)(u:S≠it)(l:Mz w it S o es ep t i s.heap)(F:(cT w S ep es)[i]?=some x)
  (H:∀z,Mz w it S o es ep t (i+1) z->Heap.SameBut it s.heap z->Q (some x.2) { s with heap:=z}):wpAny (model prog w) A (pyNext (.ref it)) Q E s:=by
 have B:=pA l;obtain⟨y,slot,C,r⟩:=l;unfold pyNext;refine b_ (wpAny_attempt (wpAny_callSpecial?_slot (name:=Str.ofString "__next__") B dD (wpAny_call_entry dD B k9 ?_ (lC _))));unfold Builtin.«set_iterator.__next__»;refine b_ (m:=slotArgs "__next__" 0 _) (i3 ?_);dsimp only;refine b_ (wpAny_fieldsOf C rfl ?_);dsimp only;refine b_ (wpAny_setEntries_of y T.2.1 T.fits ?_);rw[g_ (by simp)];refine b_ ?_;rw[v_,v_,v_];refine vH (h:=s.heap) T y r (λM a e1 e2=>?_) (λe1=>by rw[F] at e1;cases e1);rw[F] at e1;cases e1;dsimp only;refine b_ (wpAny_setField_rec C (by simp) λJ G f=>?_);refine b_ (wpAny_setField_rec (s:={ s with heap:=J}) G (by simp) λL I j=>?_);refine i3 ⟨_,rfl,i3 (H L ⟨?_,a,?_,e2⟩ (f.trans j))⟩
 .rw[(f.trans j).2 S u];exact y
 .exact I
def xD{i:Nat}{Q:Option Value->Shared->Prop}(F:A.handled=none)(T:Wkd prog w S o es ep t)(f:Mz w it S o es ep t i s.heap)(C:(cT w S ep es)[i]?=none)
  (B:∀y,Heap.ExtBut it s.heap y->Q none { s with heap:=y}):wpAny (model prog w) A (pyNext (.ref it)) Q E s:=by
 have z:=pA f;obtain⟨u,slot,r,j⟩:=f;unfold pyNext;refine b_ (wpAny_attempt (wpAny_callSpecial?_slot (name:=Str.ofString "__next__") z dD (wpAny_call_entry dD z k9 ?_ (lC _))));unfold Builtin.«set_iterator.__next__»;refine b_ (m:=slotArgs "__next__" 0 _) (i3 ?_);dsimp only;refine b_ (wpAny_fieldsOf r rfl ?_);dsimp only;refine b_ (wpAny_setEntries_of u T.2.1 T.fits ?_);rw[g_ (by simp)];refine b_ ?_;rw[v_,v_,v_];refine vH (h:=s.heap) T u j (λG l e1 e2=>by rw[C] at e1;cases e1) (λe1=>?_);dsimp only;refine b_ (wpAny_setField r rfl (by simp) ?_);refine b_ ?_;simp only[newExc,newTuple];refine b_ (wpAny_newObj_type ?_ (by size_fits));refine b_ (m:=firstArgMember _ _) (wpAny_of_eq (a:=Value.none) (by first | rfl | (simp only[firstArgMember];rfl)) ?_);refine wpAny_newObj_type ?_ (by size_fits);simp only[raiseNew];refine b_ (wpAny_handled ?_);rw[show A.in1.handled=none from F];refine b_ (i3 (wpAny_throw ?_));refine b_ (wpAny_isInstance (T:="StopIteration") (b:=true) ⟨_,wy _ rfl,rfl⟩ isSubtype_stop ?_);exact i3 (B _ (((Heap.SameBut.update ..).extBut.push _).push _))
def Ad(H:A.handled=none)(u:S≠it)(T:Wkd prog w S o es ep t) :
  Walks prog w A it [it,S] [it] es.size (λi v=>∃x,(cT w S ep es)[i]?=some x/\v=x.2) (λi h=>Mz w it S o es ep t i h) where
 sub:=λb f=>by simp at f;simp[f]
 frame:=λ_ _ _ st B=>⟨B S (by simp) _ st.1,let ⟨slot,a,b⟩:=st.2;⟨slot,B it (by simp) _ a,b⟩⟩
 item:=λi s Q E I st j=>by
  have F:(cT w S ep es).size=es.size:=by
   rw[<-CD,(jm w S ep es).length_eq,CD]
  obtain⟨x,z⟩:=jP (cT w S ep es) i (by lia);exact vj T u st z λy l G=>j _ y s.toks ⟨x,z,rfl⟩ l λb o f e=>G.extBut b o (λh=>f (by simp[h])) e
 done:=λs Q E st j=>by
  have F:(cT w S ep es).size=es.size:=by
   rw[<-CD,(jm w S ep es).length_eq,CD]
  exact xD H T st (Ow (by lia)) λy C=>j y s.toks λb o f e=>C b o (λh=>f (by simp[h])) e
 self:=λ_ s Q E st j=>by
  have r:=pA st;refine wpAny_pyIter_slot r ld (wpAny_call_entry ld r rf ?_ (t4 _));show wpAny _ _ (ret (.ref it)) _ _ s;exact i3 ⟨_,rfl,"set_iterator",_,r,dD.lookup,j⟩
def xJ(T:Wkd prog w S o es ep t)(a:s.heap.get? S=some o)
  (j:Q (.ref s.heap.objs.size) { s with heap:=s.heap.push { cls:=.type "set_iterator",data:=.fields #[.int 0 0,.int 0 0,.ref S,.int es.size 0,.int ep 0]}}) :
  wpAny (model prog w) A (pyIter (.ref S)) Q E s:=by
 have i:s.TypeIs (.ref S) "set":=⟨o,a,T.1.1⟩;refine wpAny_pyIter_slot i PySem.F.slot_set_iter (wpAny_call_entry PySem.F.slot_set_iter i t0 ?_ (PySem.F.args_set_iter_1 _));unfold Builtin.«frozenset.__iter__» Builtin.Frozenset.slot0;refine b_ (b_ (m:=slotArgs "__iter__" 0 _) (i3 (i3 ?_)));unfold Builtin.Frozenset.sizeOf;refine b_ (b_ (wpAny_setEntries_of a T.2.1 T.fits (i3 ?_)));unfold setDrawn;refine b_ (b_ (wpAny_setState_of a T.2.1 T.fits ?_));dsimp only;unfold setsByText;refine b_ (b_ (wpAny_askSetting (i3 (i3 ?_))));have f:(!w.params.followText "set-order" && (!t.plain && decide (es.size>1)))=false:=by rw[T.2.2.2.1];simp
 refine (?_:wpAny _ _ (if (!w.params.followText "set-order" && (!t.plain && decide (es.size>1)))=true then _ else _) _ _ _);rw[g_ (by rw[f];simp)];refine b_ (i3 ?_);refine b_ (wpAny_setEpoch_of a T.2.1 T.fits ?_);exact b_ (wpAny_newObj_type (i3 ⟨_,rfl,"set_iterator",_,⟨_,wy _ rfl,rfl⟩,dD.lookup,j⟩))
end
section
variable {prog:Program} {w:World} {A:Around} {E:Value->Shared->Prop} {s:Shared} {S:Addr} {o:Obj} {es:Array (Int × Value)} {ep:Nat} {t:SetTable}
def rD:splitId "set.__len__"=some ("set","__len__"):=by kernel_rfl
def BU(a:s.TypeIs (.ref S) "set")(f:Q false s):wpAny (model prog w) A (Builtin.List.listLengthHint (.ref S)) Q E s:=by
 unfold Builtin.List.listLengthHint;refine b_ (wpAny_specialOf a PySem.F.slot_set_len.lookup ?_);dsimp only;rw[rD];dsimp only;refine b_ (wpAny_isInstance a sub_set_self ?_);simp only[C_,su,if_false];rw[d_ (by decide +kernel)];refine b_ (wpAny_typeOf a ?_);dsimp only;exact i3 f
def sA(hh:A.handled=none)(T:Wkd prog w S o es ep t)(ho:s.heap.get? S=some o)(hn:es.size<=sizeLine)
  (hQ:∀X tk,Ext s.heap X->s.heap.objs.size<X.objs.size->s.toks<=tk->Q ((cT w S ep es).toList.map (·.2)) { s with heap:=X,toks:=tk}) :
  wpAny (model prog w) A (collect (.ref S)) Q E s:=by
 have a:S<s.heap.objs.size:=n9 ho;unfold collect;refine b_ (wpAny_runValue (codeAny_builtin PySem.F.entry_proto_collect ?_));rw[Around.under_plainId PySem.F.plain_proto_collect _];show wpAny _ A.in1 (newList [] >>= λl=>again (.builtin "list.__iadd__" ⟨[l,.ref S],[]⟩)) _ _ s;refine b_ (wpAny_newObj_type ?_);refine i3 ⟨plainId_quiet PySem.F.plain_list_iadd _,codeAny_builtin PySem.F.entry_list_iadd ?_⟩;rw[Around.under_plainId PySem.F.plain_list_iadd _];generalize hL:({ cls:=.type "list",data:=.seq ([]:List Value).toArray}:Obj)=f;have H:(s.heap.push f).get? S=some o:=mz _ ho;have Z:(s.heap.push f).get? s.heap.objs.size=some f:=wy _ (by rw[<-hL];rfl);have r:(s.heap.push f).objs.size=s.heap.objs.size+1:=by rw[Dl]
 show wpAny _ A.in1 (Builtin.List.listExtendWith (.ref s.heap.objs.size) (.ref S) (.ref s.heap.objs.size)) _ _ { s with heap:=s.heap.push f};unfold Builtin.List.listExtendWith;have ai:Shared.TypeIs { s with heap:=s.heap.push f} (.ref S) "set":=⟨o,H,T.1.1⟩;refine b_ (wpAny_typeOf ai ?_);have h1:Builtin.List.listSameRef (.ref s.heap.objs.size) (.ref S)=false:=by
  simp only[Builtin.List.listSameRef,beq_eq_false_iff_ne];exact Cy a
 have h2:(Value.type "set" == Value.type "list")=false:=by decide
 have h3:(Value.type "set" == Value.type "tuple")=false:=by decide
 simp only[h1,h2,h3,Bool.or_false,su,if_false];refine b_ (xJ (s:={ s with heap:=s.heap.push f}) T H ?_);generalize hI:({ cls:=.type "set_iterator",data:=.fields #[.int 0 0,.int 0 0,.ref S,.int es.size 0,.int ep 0]}:Obj)=z;have R:((s.heap.push f).push z).get? S=some o:=mz _ H;have U:((s.heap.push f).push z).get? s.heap.objs.size=some f:=mz _ Z;have ao:((s.heap.push f).push z).get? (s.heap.push f).objs.size=some z:=wy _ (by rw[<-hI];rfl);show wpAny _ A.in1 _ _ _ { s with heap:=(s.heap.push f).push z};have Y:Shared.TypeIs { s with heap:=(s.heap.push f).push z} (.ref S) "set":=⟨o,R,T.1.1⟩;refine b_ (wpAny_holding (BU Y ?_));rw[d_ (by decide +kernel)];refine b_ (wpAny_rule ?_);refine b_ ?_;show wpAny _ A.in1 (updateSeq s.heap.objs.size (·.push .none) >>= λ_=>updateSeq s.heap.objs.size (·.pop)) _ _ _;subst hL;refine b_ (wpAny_updateSeq U rfl ?_);have j:=Lg (Obj.mapSeq (·.push Value.none)) U rfl;refine wpAny_updateSeq j rfl ?_;have F:=Lg (Obj.mapSeq (·.pop)) j rfl;have C:∀b I,b≠s.heap.objs.size->((s.heap.push { cls:=.type "list",data:=.seq ([]:List Value).toArray}).push z).get? b=some I ->
   ((((s.heap.push { cls:=.type "list",data:=.seq ([]:List Value).toArray}).push z).update s.heap.objs.size (Obj.mapSeq (·.push Value.none))).update s.heap.objs.size (Obj.mapSeq (·.pop))).get? b=some I :=
  λb I J e=>(Ov _ _ (Ne.symm J)).trans ((Ov _ _ (Ne.symm J)).trans e)
 have y:s.heap.objs.size≠(s.heap.push { cls:=.type "list",data:=.seq ([]:List Value).toArray}).objs.size:=by
  rw[r];exact s_ (OF _)
 have M:S≠(s.heap.push { cls:=.type "list",data:=.seq ([]:List Value).toArray}).objs.size:=by
  rw[r];exact s_ (KP a)
 have hW:=(Ad (A:=A.in1) (it:=(s.heap.push { cls:=.type "list",data:=.seq ([]:List Value).toArray}).objs.size) hh M T).toS;have an:s.heap.objs.size∉[(s.heap.push { cls:=.type "list",data:=.seq ([]:List Value).toArray}).objs.size,S]:=by
  simp only[ml,Ef,or_false,not_or];exact⟨y,Cy a⟩
 refine i3 ⟨plainId_quiet PySem.F.plain_extend_loop _,codeAny_extend_loopS hW hn _ an _ es.size 0 _ _ _ rfl (Cz _) ?_ F (ItemsOf.nil _) λs' B c' P L u=>?_⟩
 .refine⟨C S _ (s_ a) R,0,?_,λ_=>xK _ T.2.2.2.2.2.1⟩;subst hI;exact C _ _ (Ne.symm y) ao
 .show wpAny _ A (load s.heap.objs.size >>= _) _ _ s';refine b_ (wpAny_load L ?_);refine i3 ?_;have G:B.toList=(cT w S ep es).toList.map (·.2):=by
   have hl:(cT w S ep es).size=es.size:=by
    rw[<-CD,(jm w S ep es).length_eq,CD]
   apply P_;intro i;by_cases hi:i<es.size
   .obtain⟨v,hv⟩:=jP B i (by rw[u.1];exact hi);obtain⟨x,hx,e⟩:=u.2 i v hv;rw[Ec,hv,tt,Ec,hx,e];rfl
   .rw[Ed (by rw[CD,u.1];lia),Ed (by rw[oI,CD,hl];lia)]
  rw[G];obtain⟨X,g',d',O,al⟩:=s';have eg:g'=s.gens:=P.gens;have ed:d'=s.drawn:=P.drawn;have eo:al=s.os:=P.os;have et:s.toks<=O:=P.toks;subst eg;subst ed;subst eo;refine hQ X O (λb I e=>?_) (n9 L) et;have J:b<s.heap.objs.size:=n9 e;refine P.heap b I ?_ (C b I (s_ J) (mz _ (mz _ e)));simp only[ml,Ef,or_false,not_or];exact⟨s_ J,by rw[r];exact s_ (KP J)⟩
end
end SetT
namespace SortT
open PyProof.Rows
structure IJ (prog:Program) (w:World) (A:Around) (E:Value->Shared->Prop) (s:Shared) (kd:SortKind) (O:KeyOrd) where
 key:Keyed->O.α
 dflt:O.α
 good:Keyed->Prop
 ask:∀(x y:Keyed) (st:SortSt) (Q:Option Bool->SortSt->Prop),good x->good y->kindOf st=kd->Q (some (O.blt (key x) (key y))) st->wpS (model prog w) A E s (lt' x y) Q st
section
variable {prog:Program} {w:World} {A:Around} {E:Value->Shared->Prop} {s:Shared} {kd:SortKind} {O:KeyOrd} (C:IJ prog w A E s kd O) {C} {a₀:Array Keyed} {st:SortSt}
end
section
variable {prog:Program} {w:World} {A:Around} {E:Value->Shared->Prop} {s:Shared} {kd:SortKind} {O:KeyOrd} {C:IJ prog w A E s kd O} {a₀:Array Keyed} {st:SortSt}
section
variable {left:Bool} {key:Keyed} {arr:Array Keyed} {base n:Nat}
end
end
section
variable {prog:Program} {w:World} {A:Around} {E:Value->Shared->Prop} {s:Shared} {kd:SortKind} {O:KeyOrd} (C:IJ prog w A E s kd O) {C} {a b ou:Array Keyed} {i j:Nat}
end
section
variable {prog:Program} {w:World} {A:Around} {E:Value->Shared->Prop} {s:Shared} {kd:SortKind} {O:KeyOrd} {C:IJ prog w A E s kd O} {st:SortSt} {a b:Array Keyed}
end
section
variable {prog:Program} {w:World} {A:Around} {E:Value->Shared->Prop} {s:Shared} {kd:SortKind} {O:KeyOrd} {C:IJ prog w A E s kd O} {a b ou:Array Keyed} {m n:Nat} {st:SortSt}
end
section
variable {prog:Program} {w:World} {A:Around} {E:Value->Shared->Prop} {s:Shared} {kd:SortKind} {O:KeyOrd} {C:IJ prog w A E s kd O} {st:SortSt} {a b:Array Keyed}
end
section
variable {prog:Program} {w:World} {A:Around} {E:Value->Shared->Prop} {s:Shared} {kd:SortKind} {O:KeyOrd} {C:IJ prog w A E s kd O} {a₀:Array Keyed} {st:SortSt}
end
end SortT
namespace SortT
open PyProof.Rows SetT PySem.W
section
variable {prog:Program} {w:World} {A:Around} {E:Value->Shared->Prop} {s:Shared}
def jf(j:h.get? a=some (seqObj "list" vs.toArray n))(f:Array Value):∃c,(sortedHeap h a vs f).get? a=some (seqObj "list" f c):=by
 unfold sortedHeap;obtain⟨e1,i⟩:∃e1,(h.update a (Obj.mapSeq λ_=>(#[]:Array Value))).get? a=some (seqObj "list" #[] e1):=⟨_,get?_update_seq j λ_=>#[]⟩;exact⟨_,get?_update_seq (mz _ (mz _ i)) λ_=>f⟩
def iM(i:b≠a)(j:h.get? b=some o)(f:Array Value):(sortedHeap h a vs f).get? b=some o:=by
 unfold sortedHeap;rw[Oz _ _ _ _ i];exact mz _ (mz _ ((Oz _ _ _ _ i).trans j))
end
end SortT
namespace MM
open PySem.Spec PyProof.Rows L2 SetT SortT
def GD{K:hR}{U:List Addr}{H:Hp}:∀{k:List Int} {ys:List V},RPs K U H (k.map PV.int) ys->ys=k.map V.int
 | [],ys,h=>by cases h;rfl
 | i::k,ys,h=>by
  cases h with
  | cons r t =>
   cases r;rw[GD t];rfl
section
variable {X:Cx} {Mq:List (Addr × Obj)} {Z:L2.St} {H:Hp} {s:Shared}
end
section
variable {X:Cx} {N W G:List Str} {k:Nat}
def hZ(h:MH):PV->Option (List PV)
 | .frl xs=>some xs
 | .loc n=>(match h[n]? with
  | some (.lst xs)=>some xs
  | _=>none)
 | _=>none
def E6{U:List Addr}{H:Hp}{h:MH}{x:PV}{y:V}{xs:List PV}{K:hR}{mg:DL}(u:RH K mg U H h)(r:RP K U H x y)(e:hZ h x=some xs):∃a f,y=.ref a/\SqL K H a f/\RPs K U H xs f:=by
 cases r with
 | frl s r=>cases e;exact⟨_,_,rfl,s.sq,r⟩
 | @loc n a z =>
  obtain⟨o,eo,j⟩:=u.obj z;unfold hZ at e;dsimp only at e;rw[eo] at e
  cases o with
  | lst f =>
   cases e;obtain⟨ys,l,i⟩:=j;exact⟨a,ys,rfl,SqL.of l,i⟩
  | _=>cases e
 | _=>cases e
end
end MM
namespace SeqT
abbrev Ej(tp:Bool):String:=if tp then "tuple_iterator" else "list_iterator"
abbrev Rn(tp:Bool):String:=if tp then "tuple" else "list"
def SqI(f:Bool)(h:Heap)(j a:Addr)(i:Nat):Prop:=∃o,h.get? j=some o/\o.cls=.type (Ej f)/\o.data=.fields #[.ref a,.int i 0]
def SqO(f:Bool)(h:Heap)(a:Addr)(xs:Array Value):Prop:=∃o,h.get? a=some o/\o.cls=.type (Rn f)/\∃n,o.data=.seq xs n
def SqI.at'(x:SqI tp h it a i)(k:∀o,h.get? it=some o->h'.get? it=some o):SqI tp h' it a i:=let ⟨o,e,r⟩:=x;⟨o,k o e,r⟩
def SqO.at'(x:SqO tp h a xs)(k:∀o,h.get? a=some o->h'.get? a=some o):SqO tp h' a xs:=let ⟨o,e,r⟩:=x;⟨o,k o e,r⟩
def SqI.lt(x:SqI tp h it a i):it<h.objs.size:=let ⟨_,e,_⟩:=x;n9 e
section
variable {prog:Program} {w:World} {A:Around} {E:Value->Shared->Prop} {s:Shared}
def jw(r:SqI tp s.heap it a i)(u:SqO tp s.heap a xs)(y:xs[i]?=some x)
  (z:∀l,SqI tp l it a (i+1)->Heap.SameBut it s.heap l->Q x { s with heap:=l}):wpAny (model prog w) A (Builtin.SmallTypes.nextOf (.ref it)) Q E s:=by
 cases tp with
 | false=>exact wpAny_nextOf_list_item (show s.heap.IsListIter it a i from r) (show s.heap.IsList a xs from u) y z
 | true =>
  obtain⟨o,e,B,hd⟩:=id r;obtain⟨G,j,_,H,f⟩:=u;have C:s.TypeIs (.ref it) "tuple_iterator":=⟨o,e,B⟩;unfold Builtin.SmallTypes.nextOf;refine b_ (wpAny_callSpecial?_slot (name:=Str.ofString "__next__") C F.slot_tuple_iterator_next (wpAny_call_entry F.slot_tuple_iterator_next C F.entry_tuple_iterator_next ?_ (F.args_tuple_iterator_next_1 _)));show wpAny _ _ (field (.ref it) 0 >>= _) _ _ s;refine b_ (wpAny_field e hd (x:=.ref a) rfl ?_);show wpAny _ _ (if (Value.ref a == Value.none)=true then _ else _) _ _ s;rw[g_ (show ¬((Value.ref a == Value.none)=true) from DB)];show wpAny _ _ (field (.ref it) 1 >>= _) _ _ s;refine b_ (wpAny_field e hd (x:=.int i 0) rfl ?_);show wpAny _ _ (seqItems? (.ref a) >>= _) _ _ s;refine b_ (wpAny_seqItems j f ?_);simp only[v_,y];refine b_ (wpAny_setField e hd (by simp) (i3 ⟨x,rfl,i3 (z _ ?_ (Heap.SameBut.update ..))⟩));exact⟨_,Lg _ e (Obj.isFreed_of_fields (Obj.data_mapFields hd _)),(Obj.cls_mapFields ..).trans B,by rw[Obj.data_mapFields hd];simp[rawInt]⟩
def ko(r:A.handled=none)(u:SqI tp s.heap it a i)(y:SqO tp s.heap a xs)(B:xs[i]?=none)
  (z:∀l e,Heap.ExtBut it s.heap l->(∃o,l.get? e=some o/\o.cls=.type "StopIteration")->E (.ref e) { s with heap:=l}):wpAny (model prog w) A (Builtin.SmallTypes.nextOf (.ref it)) Q E s:=by
 cases tp with
 | false=>exact wpAny_nextOf_list_end r (show s.heap.IsListIter it a i from u) (show s.heap.IsList a xs from y) B z
 | true =>
  obtain⟨o,e,G,hd⟩:=id u;obtain⟨H,j,_,I,f⟩:=y;have C:s.TypeIs (.ref it) "tuple_iterator":=⟨o,e,G⟩;unfold Builtin.SmallTypes.nextOf;refine b_ (wpAny_callSpecial?_slot (name:=Str.ofString "__next__") C F.slot_tuple_iterator_next (wpAny_call_entry F.slot_tuple_iterator_next C F.entry_tuple_iterator_next ?_ (F.args_tuple_iterator_next_1 _)));show wpAny _ _ (field (.ref it) 0 >>= _) _ _ s;refine b_ (wpAny_field e hd (x:=.ref a) rfl ?_);show wpAny _ _ (if (Value.ref a == Value.none)=true then _ else _) _ _ s;rw[g_ (show ¬((Value.ref a == Value.none)=true) from DB)];show wpAny _ _ (field (.ref it) 1 >>= _) _ _ s;refine b_ (wpAny_field e hd (x:=.int i 0) rfl ?_);show wpAny _ _ (seqItems? (.ref a) >>= _) _ _ s;refine b_ (wpAny_seqItems j f ?_);simp only[v_,B];refine b_ (wpAny_rule (b_ (wpAny_setField e hd (by simp) ?_)));show wpAny _ _ (newExc (.type "StopIteration") [] >>= _) _ _ _;refine b_ ?_;simp only[newExc,newTuple];refine b_ (wpAny_newObj_type ?_ (by size_fits));refine b_ (m:=firstArgMember _ _) (wpAny_of_eq (a:=Value.none) (by first | rfl | (simp only[firstArgMember];rfl)) ?_);refine wpAny_newObj_type ?_ (by size_fits);simp only[raiseNew];refine b_ (wpAny_handled ?_);rw[show A.in1.handled=none from r];refine b_ (i3 (wpAny_throw ?_));exact z _ _ (((Heap.SameBut.update ..).extBut.push _).push _) ⟨_,wy _ rfl,rfl⟩
def jT(f:SqO tp s.heap a xs)
  (i:Q (.ref s.heap.objs.size) { s with heap:=s.heap.push { cls:=.type (Ej tp),data:=.fields #[.ref a,.int 0 0]}}):wpAny (model prog w) A (pyIter (.ref a)) Q E s:=by
 cases tp with
 | false=>exact wpAny_pyIter_list (show s.heap.IsList a xs from f) i
 | true=>exact wpAny_pyIter_tuple (show s.heap.IsTuple a xs from f) i
end
def MB(G:A.handled=none)(y:Bool)(j a:Addr)(r:a≠j)(xs:Array Value) :
  Draws prog w A j [j,a] xs.size (λi v=>xs[i]?=some v) (λi h=>SqI y h j a i/\SqO y h a xs) where
 live:=λ_ _ st=>let ⟨o,F,_⟩:=st.1;⟨o,F⟩
 frame:=λ_ _ _ st z=>⟨st.1.at' λo e=>z j (by simp) o e,st.2.at' λo e=>z a (by simp) o e⟩
 item:=λi s Q E u st B=>by
  refine jw st.1 st.2 (x:=xs[i]) (by simp[u]) λH f l=>?_;exact B _ H s.toks (by simp[u]) ⟨f,st.2.at' λo e=>(l.2 a r).trans e⟩ l
 done:=λs Q E st C=>ko G st.1 st.2 (by simp) C
def BM(i:Bool)(a:Addr)(xs:Array Value)(n:Nat)(j:Option Addr)(r:Array (Option Value)) :
  Meets (Builtin.«enumerate.__new__» ⟨[.type "enumerate",.ref a],[]⟩) (λ_ R s=>s.heap.get? a=some { cls:=.type (Rn i),dict:=j,data:=.seq xs n,slots:=r} /\
   R (.ok (.ret (.ref (s.heap.push { cls:=.type (Ej i),data:=.fields #[.ref a,.int 0 0]}).objs.size)))
    { s with heap:=(s.heap.push { cls:=.type (Ej i),data:=.fields #[.ref a,.int 0 0]}).push { cls:=.type "enumerate",data:=.fields #[.none,.bool false,.ref s.heap.objs.size,rawInt 0,.none,.none]}}) :=
 .of_wp λprog w A R s h=>by
  obtain⟨u,g,d,y,os⟩:=s;obtain⟨f,h⟩:=h;have l:=sub_enumerate;have hL:SqO i (Shared.heap ⟨u,g,d,y,os⟩) a xs:=⟨_,f,rfl,n,rfl⟩
  wp_walk using AutoSeq1.wpAny_loadPart' f
  refine wpAny_stack_any λst=>i3 ?_;split
  .rename_i c _ _ _ _ _
   cases (c == Value.type "enumerate")
   .wp_walk using AutoSeq1.wpAny_loadPart' f,jT hL
    exact⟨_,rfl,h⟩
   .wp_walk using AutoSeq1.wpAny_loadPart' f,jT hL
    exact⟨_,rfl,h⟩
  .wp_walk using AutoSeq1.wpAny_loadPart' f,jT hL
   exact⟨_,rfl,h⟩
section
variable {prog:Program} {w:World} {A:Around} {E:Value->Shared->Prop} {s:Shared}
def zL(hL:SqO tp s.heap a xs)
  (h:∀f,IsEnum f (s.heap.objs.size+1) s.heap.objs.size 0 .none->SqI tp f s.heap.objs.size a 0->f.objs.size=s.heap.objs.size+2 ->
   (∀b o,s.heap.get? b=some o->f.get? b=some o)->Q (.ref (s.heap.objs.size+1)) { s with heap:=f}) :
  wpAny (model prog w) A (call (.type "enumerate") [.ref a]) Q E s:=by
 obtain⟨⟨c,i,y,u⟩,z,l,n,hd⟩:=hL;replace l:c=.type (Rn tp):=l;replace hd:y=.seq xs n:=hd;subst l hd;refine callType_new F.called_enumerate (by decide) (F.typeCall_enumerate_1 _) (F.newCall_enumerate_1 _) (λobj=>F.args_object_init_2 obj _) F.entry_enumerate_new (BM tp a xs n i u) ⟨z,?_⟩;have j:(s.heap.push { cls:=.type (Ej tp),data:=.fields #[.ref a,.int 0 0]}).objs.size=s.heap.objs.size+1:=Dl ..;show _/\_;rw[j]
 have r:IsEnum ((s.heap.push { cls:=.type (Ej tp),data:=.fields #[.ref a,.int 0 0]}).push
   { cls:=.type "enumerate",data:=.fields #[.none,.bool false,.ref s.heap.objs.size,rawInt 0,.none,.none]}) (s.heap.objs.size+1) s.heap.objs.size 0 .none:=by
  have:=wy (s.heap.push { cls:=.type (Ej tp),data:=.fields #[.ref a,.int 0 0]})
   (o:={ cls:=.type "enumerate",data:=.fields #[.none,.bool false,.ref s.heap.objs.size,rawInt 0,.none,.none]}) rfl
  rw[j] at this;exact this
 exact⟨⟨_,r,rfl⟩,h _ r ⟨_,mz _ (wy _ rfl),rfl,rfl⟩ (by rw[Dl,j]) λb o x=>mz _ (mz _ x)⟩
end
section
variable {prog:Program} {w:World} {A:Around} {E:Value->Shared->Prop} {s:Shared} {z TI TO i1 i2 l1 l2:Addr} {t1 t2:Bool} {k1 k2:Nat} {xs ys:Array Value}
def Aj{x y a b:Value}{Q:Value->Shared->Prop}(D:ZipApart z TI TO i1 i2 l1 l2)
  (P:IsZip s.heap z TI TO .none) (ar:IsPair s.heap TI (.ref i1) (.ref i2)) (a0:IsPair s.heap TO a b)
  (h1:SqI t1 s.heap i1 l1 k1) (h2:SqI t2 s.heap i2 l2 k2) (ax:SqO t1 s.heap l1 xs) (ai:SqO t2 s.heap l2 ys) (hx:xs[k1]?=some x) (hy:ys[k2]?=some y)
  (hQ:∀C,IsZip C z TI TO (rawInt s.heap.objs.size)->IsPair C TO x y->SqI t1 C i1 l1 (k1+1)->SqI t2 C i2 l2 (k2+1)->IsPair C s.heap.objs.size x y->C.objs.size=s.heap.objs.size+1 ->
   (∀c o,c≠z->c≠TO->c≠i1->c≠i2->s.heap.get? c=some o->C.get? c=some o)->Q (.ref s.heap.objs.size) { s with heap:=C}) :
  wpAny (model prog w) A (Builtin.«zip.__next__» ⟨[.ref z],[]⟩) (λfin s'=>∃v,fin=.done (.ret v)/\Q v s') E s:=by
 show wpAny _ _ (field (.ref z) 2 >>= _) _ _ _;refine b_ (wpAny_field P rfl (x:=.bool false) rfl ?_);show wpAny _ _ (field (.ref z) 3 >>= _) _ _ _;refine b_ (wpAny_field P rfl (x:=.ref TI) rfl ?_);refine b_ (wpAny_seqItems ar rfl ?_);show wpAny _ _ (Builtin.SmallTypes.ownedTupleIsFree (.ref z) >>= _) _ _ _;refine b_ ?_;unfold Builtin.SmallTypes.ownedTupleIsFree;refine b_ (wpAny_field P rfl (x:=.none) rfl (i3 ?_));simp only[if_true];refine b_ (wpAny_rule ?_);refine b_ (wpAny_field P rfl (x:=.ref TO) rfl ?_);refine b_ (wpAny_setField_rec P (by simp) λY J j=>?_);replace J:IsZip Y z TI TO .ellipsis:=J;replace j:Heap.SameBut z s.heap Y:=j;refine b_ ?_;simp only[List.zipIdx_cons,List.zipIdx_nil,Qn,Qt];refine b_ (b_ (wpAny_onRaise ?_));show wpAny _ _ (Builtin.SmallTypes.nextOf (.ref i1) >>= _) _ _ _;refine b_ (jw (s:={ s with heap:=Y}) (h1.at' λo e=>(j.2 _ D.i1z).trans e) (ax.at' λo e=>(j.2 _ D.l1z).trans e) hx λhb as B=>i3 ?_);replace B:Heap.SameBut i1 Y hb:=B;have M:IsPair hb TO a b:=(B.2 _ D.TOi1).trans ((j.2 _ D.TOz).trans a0);refine b_ (wpAny_seqItems M rfl ?_);refine b_ (wpAny_updateSeq_pair M λZ H r=>?_);replace H:IsPair Z TO x b:=H;replace r:Heap.SameBut TO hb Z:=r;refine b_ (wpAny_letGo (i3 ?_));refine b_ (b_ (wpAny_onRaise ?_));show wpAny _ _ (Builtin.SmallTypes.nextOf (.ref i2) >>= _) _ _ _
 refine b_ (jw (s:={ s with heap:=Z}) (h2.at' λo e=>(r.2 _ D.TOi2.symm).trans ((B.2 _ D.i12.symm).trans ((j.2 _ D.i2z).trans e)))
  (ai.at' λo e=>(r.2 _ D.l2TO).trans ((B.2 _ D.l2i1).trans ((j.2 _ D.l2z).trans e))) hy λhd al F=>i3 ?_)
 replace F:Heap.SameBut i2 Z hd:=F;have U:IsPair hd TO x b:=(F.2 _ D.TOi2).trans H;refine b_ (wpAny_seqItems U rfl ?_);refine b_ (wpAny_updateSeq_pair U λf i G=>?_);replace i:IsPair f TO x y:=i;replace G:Heap.SameBut TO hd f:=G;refine b_ (wpAny_letGo (i3 (i3 ?_)));refine b_ (wpAny_seqItems i rfl ?_);refine b_ (wpAny_newTuple ?_);have O:f.objs.size=s.heap.objs.size:=by rw[G.1,F.1,r.1,B.1,j.1]
 have T:IsZip f z TI TO .ellipsis:=(G.2 _ D.TOz.symm).trans ((F.2 _ D.i2z.symm).trans ((r.2 _ D.TOz.symm).trans ((B.2 _ D.i1z.symm).trans J)));have an:∀c o,c≠z->c≠TO->c≠i1->c≠i2->s.heap.get? c=some o->f.get? c=some o:=λc o I c2 c3 c4 e =>
  (G.2 _ c2).trans ((F.2 _ c4).trans ((r.2 _ c2).trans ((B.2 _ c3).trans ((j.2 _ I).trans e))))
 have ap:SqI t1 f i1 l1 (k1+1):=as.at' λo e=>(G.2 _ D.TOi1.symm).trans ((F.2 _ D.i12).trans ((r.2 _ D.TOi1.symm).trans e));have ao:SqI t2 f i2 l2 (k2+1):=al.at' λo e=>(G.2 _ D.TOi2.symm).trans e;have u:z<f.objs.size:=n9 T;show wpAny _ _ (Builtin.SmallTypes.ownedTupleHandOut (.ref z) (.ref f.objs.size) >>= _) _ _ _;refine b_ ?_;unfold Builtin.SmallTypes.ownedTupleHandOut;have ay:IsZip (f.push { cls:=.type "tuple",data:=.seq #[x,y]}) z TI TO .ellipsis:=mz _ T;refine b_ (wpAny_setField_rec ay (by simp) λhg L sg=>?_);replace L:IsZip hg z TI TO (rawInt f.objs.size):=L;refine wpAny_setField_rec L (by simp) λX l sh=>?_;replace l:IsZip X z TI TO (rawInt f.objs.size):=l;have up:∀c o,c≠z->f.get? c=some o->X.get? c=some o:=λc o I e=>(sh.2 _ I).trans ((sg.2 _ I).trans (mz _ e));have R:IsPair X f.objs.size x y:=(sh.2 _ (Cy u)).trans ((sg.2 _ (Cy u)).trans (wy _ rfl));have S:X.objs.size=f.objs.size+1:=by rw[sh.1,sg.1,Dl]
 rw[O] at l R S;refine i3 ⟨_,rfl,?_⟩;show Q (.ref f.objs.size) _;rw[O];exact hQ X l (up _ _ D.TOz i) (ap.at' λo e=>up _ o D.i1z e) (ao.at' λo e=>up _ o D.i2z e) R S λc o I c2 c3 c4 e=>up c o I (an c o I c2 c3 c4 e)
def BW(hh:A.handled=none)(D:ZipApart z TI TO i1 i2 l1 l2)
  (L:IsZip s.heap z TI TO .none) (T:IsPair s.heap TI (.ref i1) (.ref i2)) (Z:IsPair s.heap TO a b)
  (h1:SqI t1 s.heap i1 l1 k1) (h2:SqI t2 s.heap i2 l2 k2) (J:SqO t1 s.heap l1 xs) (P:SqO t2 s.heap l2 ys) (I:xs[k1]?=none\/ys[k2]?=none)
  (hE:∀Y e,(∀c o,c≠z->c≠TO->c≠i1->c≠i2->s.heap.get? c=some o->Y.get? c=some o)->(∃o,Y.get? e=some o/\o.cls=.type "StopIteration")->E (.ref e) { s with heap:=Y}) :
  wpAny (model prog w) A (Builtin.«zip.__next__» ⟨[.ref z],[]⟩) Q E s:=by
 show wpAny _ _ (field (.ref z) 2 >>= _) _ _ _;refine b_ (wpAny_field L rfl (x:=.bool false) rfl ?_);show wpAny _ _ (field (.ref z) 3 >>= _) _ _ _;refine b_ (wpAny_field L rfl (x:=.ref TI) rfl ?_);refine b_ (wpAny_seqItems T rfl ?_);show wpAny _ _ (Builtin.SmallTypes.ownedTupleIsFree (.ref z) >>= _) _ _ _;refine b_ ?_;unfold Builtin.SmallTypes.ownedTupleIsFree;refine b_ (wpAny_field L rfl (x:=.none) rfl (i3 ?_));simp only[if_true];refine b_ (wpAny_rule ?_);refine b_ (wpAny_field L rfl (x:=.ref TO) rfl ?_);refine b_ (wpAny_setField_rec L (by simp) λB u i=>?_);replace u:IsZip B z TI TO .ellipsis:=u;replace i:Heap.SameBut z s.heap B:=i;refine b_ ?_;simp only[List.zipIdx_cons,List.zipIdx_nil,Qn,Qt];refine b_ (b_ (wpAny_onRaise ?_));show wpAny _ _ (Builtin.SmallTypes.nextOf (.ref i1) >>= _) _ _ _
 cases X:xs[k1]? with
 | none =>
  refine b_ (ko (s:={ s with heap:=B}) hh (h1.at' λo e=>(i.2 _ D.i1z).trans e) (J.at' λo e=>(i.2 _ D.l1z).trans e) X λM e l R=>?_);obtain⟨U,f,j⟩:=R;have F:IsZip M z TI TO .ellipsis:=l _ _ D.i1z.symm u;have y:e≠z:=λq=>by subst q;rw[F] at f;cases f;simp at j
  exact wpAny_setField_rec F (by simp) λO _ r=>hE O e (λc o G _ S _ q=>(r.2 _ G).trans (l _ _ S ((i.2 _ G).trans q))) ⟨U,(r.2 _ y).trans f,j⟩
 | some x =>
  have hy:ys[k2]?=none:=by
   rcases I with q|q
   .rw[X] at q;cases q
   .exact q
  refine b_ (jw (s:={ s with heap:=B}) (h1.at' λo e=>(i.2 _ D.i1z).trans e) (J.at' λo e=>(i.2 _ D.l1z).trans e) X λM al l=>i3 ?_);replace l:Heap.SameBut i1 B M:=l;have C:IsPair M TO a b:=(l.2 _ D.TOi1).trans ((i.2 _ D.TOz).trans Z);refine b_ (wpAny_seqItems C rfl ?_);refine b_ (wpAny_updateSeq_pair C λO ai r=>?_);replace r:Heap.SameBut TO M O:=r;refine b_ (wpAny_letGo (i3 ?_));refine b_ (b_ (wpAny_onRaise ?_));show wpAny _ _ (Builtin.SmallTypes.nextOf (.ref i2) >>= _) _ _ _
  refine b_ (ko (s:={ s with heap:=O}) hh (h2.at' λo e=>(r.2 _ D.TOi2.symm).trans ((l.2 _ D.i12.symm).trans ((i.2 _ D.i2z).trans e)))
   (P.at' λo e=>(r.2 _ D.l2TO).trans ((l.2 _ D.l2i1).trans ((i.2 _ D.l2z).trans e))) hy λhd e sd R=>?_)
  obtain⟨U,f,j⟩:=R;have H:IsZip hd z TI TO .ellipsis:=sd _ _ D.i2z.symm ((r.2 _ D.TOz.symm).trans ((l.2 _ D.i1z.symm).trans u));have y:e≠z:=λq=>by subst q;rw[H] at f;cases f;simp at j
  exact wpAny_setField_rec H (by simp) λhf _ sf=>hE hf e (λc o G c2 S c4 q=>(sf.2 _ G).trans (sd _ _ c4 ((r.2 _ c2).trans ((l.2 _ S).trans ((i.2 _ G).trans q))))) ⟨U,(sf.2 _ y).trans f,j⟩
def AM(D:ZipApart z TI TO i1 i2 l1 l2)
  (B:IsZip s.heap z TI TO .none) (j:IsPair s.heap TI (.ref i1) (.ref i2)) (r:IsPair s.heap TO a b)
  (L:SqI t1 s.heap i1 l1 k1) (P:SqI t2 s.heap i2 l2 k2) (l:SqO t1 s.heap l1 xs) (i:SqO t2 s.heap l2 ys) (S:xs[k1]?=some x) (R:ys[k2]?=some y)
  (C:∀f,IsZip f z TI TO (rawInt s.heap.objs.size)->IsPair f TO x y->SqI t1 f i1 l1 (k1+1)->SqI t2 f i2 l2 (k2+1)->IsPair f s.heap.objs.size x y->f.objs.size=s.heap.objs.size+1 ->
   (∀c o,c≠z->c≠TO->c≠i1->c≠i2->s.heap.get? c=some o->f.get? c=some o)->Q (some (.ref s.heap.objs.size)) { s with heap:=f}) :
  wpAny (model prog w) A (pyNext (.ref z)) Q E s:=by
 have u:s.TypeIs (.ref z) "zip":=⟨_,B,rfl⟩;unfold pyNext
 exact b_ (wpAny_attempt (wpAny_callSpecial?_slot (name:=Str.ofString "__next__") u F.slot_zip_next
  (wpAny_call_entry F.slot_zip_next u F.entry_zip_next (Aj D B j r L P l i S R λf q1 O I J G M H=>i3 (C f q1 O I J G M H)) (F.args_zip_next_1 _))))
def E7(O:A.handled=none)(D:ZipApart z TI TO i1 i2 l1 l2)
  (B:IsZip s.heap z TI TO .none) (j:IsPair s.heap TI (.ref i1) (.ref i2)) (u:IsPair s.heap TO a b)
  (I:SqI t1 s.heap i1 l1 k1) (J:SqI t2 s.heap i2 l2 k2) (l:SqO t1 s.heap l1 xs) (i:SqO t2 s.heap l2 ys) (f:xs[k1]?=none\/ys[k2]?=none)
  (C:∀r,(∀c o,c≠z->c≠TO->c≠i1->c≠i2->s.heap.get? c=some o->r.get? c=some o)->Q none { s with heap:=r}):wpAny (model prog w) A (pyNext (.ref z)) Q E s:=by
 have y:s.TypeIs (.ref z) "zip":=⟨_,B,rfl⟩;unfold pyNext
 refine b_ (wpAny_attempt (wpAny_callSpecial?_slot (name:=Str.ofString "__next__") y F.slot_zip_next
  (wpAny_call_entry F.slot_zip_next y F.entry_zip_next (BW O D B j u I J l i f λr e M H=>?_) (F.args_zip_next_1 _))))
 obtain⟨o,L,G⟩:=H;refine b_ (wpAny_isInstance (T:="StopIteration") (b:=true) ⟨o,L,G⟩ isSubtype_stop ?_);exact i3 (C _ M)
end
abbrev zA(t1:Bool)(h:Heap)(l1:Addr):Heap:=h.push { cls:=.type (Ej t1),data:=.fields #[.ref l1,.int 0 0]}
abbrev zB(t1 t2:Bool)(h:Heap)(l1 l2:Addr):Heap:=(zA t1 h l1).push { cls:=.type (Ej t2),data:=.fields #[.ref l2,.int 0 0]}
abbrev zC(t1 t2:Bool)(h:Heap)(l1 l2:Addr):Heap:=(zB t1 t2 h l1 l2).push { cls:=.type "tuple",data:=.seq #[.ref h.objs.size,.ref (zA t1 h l1).objs.size]}
abbrev zD(t1 t2:Bool)(h:Heap)(l1 l2:Addr):Heap:=(zC t1 t2 h l1 l2).push { cls:=.type "tuple",data:=.seq #[.none,.none]}
abbrev zE(t1 t2:Bool)(h:Heap)(l1 l2:Addr):Heap:=(zD t1 t2 h l1 l2).push { cls:=.type "zip",data:=.fields #[.none,.bool false,.bool false,.ref (zB t1 t2 h l1 l2).objs.size,.ref (zC t1 t2 h l1 l2).objs.size]}
def E8(i j:Bool)(a f:Addr)(xs ys:Array Value) :
  Meets (Builtin.«zip.__new__» ⟨[.type "zip",.ref a,.ref f],[]⟩) (λ_ R s=>SqO i s.heap a xs/\SqO j s.heap f ys/\R (.ok (.ret (.ref (zD i j s.heap a f).objs.size))) { s with heap:=zE i j s.heap a f}) :=
 .of_wp λprog w A R s h=>by
  obtain⟨z,g,d,B,os⟩:=s;obtain⟨y,r,h⟩:=h;have C:=sub_zip;have l:SqO i (Shared.heap ⟨z,g,d,B,os⟩) a xs:=y;have u:SqO j (Shared.heap ⟨z.push { cls:=.type (Ej i),data:=.fields #[.ref a,.int 0 0]},g,d,B,os⟩) f ys:=r.at' λo e=>mz _ e
  wp_walk using jT l,jT u
  exact⟨_,rfl,h⟩
section
variable {prog:Program} {w:World} {A:Around} {E:Value->Shared->Prop} {s:Shared}
def AU(l:SqO t1 s.heap l1 xs)(i:SqO t2 s.heap l2 ys)
  (h:∀a,IsZip a (s.heap.objs.size+4) (s.heap.objs.size+2) (s.heap.objs.size+3) .none->IsPair a (s.heap.objs.size+2) (.ref s.heap.objs.size) (.ref (s.heap.objs.size+1)) ->
   IsPair a (s.heap.objs.size+3) .none .none->SqI t1 a s.heap.objs.size l1 0->SqI t2 a (s.heap.objs.size+1) l2 0->a.objs.size=s.heap.objs.size+5 ->
   (∀c o,s.heap.get? c=some o->a.get? c=some o)->Q (.ref (s.heap.objs.size+4)) { s with heap:=a}) :
  wpAny (model prog w) A (call (.type "zip") [.ref l1,.ref l2]) Q E s:=by
 refine callType_new F.called_zip (by decide) (F.typeCall_zip_2 _ _) (F.newCall_zip_2 _ _) (λobj=>F.args_object_init_3 obj _ _) F.entry_zip_new (E8 t1 t2 l1 l2 xs ys) ⟨l,i,?_⟩;have z1:(zA t1 s.heap l1).objs.size=s.heap.objs.size+1:=Dl ..;have r:(zB t1 t2 s.heap l1 l2).objs.size=s.heap.objs.size+2:=by rw[Dl,z1]
 have u:(zC t1 t2 s.heap l1 l2).objs.size=s.heap.objs.size+3:=by rw[Dl,r]
 have j:(zD t1 t2 s.heap l1 l2).objs.size=s.heap.objs.size+4:=by rw[Dl,u]
 have G:(zE t1 t2 s.heap l1 l2).objs.size=s.heap.objs.size+5:=by rw[Dl,j]
 have f:(zE t1 t2 s.heap l1 l2).get? (zD t1 t2 s.heap l1 l2).objs.size=some _:=wy _ rfl;have y:(zE t1 t2 s.heap l1 l2).get? (zC t1 t2 s.heap l1 l2).objs.size=some _:=mz _ (wy _ rfl);have z:(zE t1 t2 s.heap l1 l2).get? (zB t1 t2 s.heap l1 l2).objs.size=some _:=mz _ (mz _ (wy _ rfl));have B:(zE t1 t2 s.heap l1 l2).get? (zA t1 s.heap l1).objs.size=some _:=mz _ (mz _ (mz _ (wy _ rfl)));have C:(zE t1 t2 s.heap l1 l2).get? s.heap.objs.size=some _:=mz _ (mz _ (mz _ (mz _ (wy _ rfl))));show _/\_;rw[r,u,j] at f;rw[z1,r] at z;rw[u] at y;rw[z1] at B;rw[j]
 exact⟨⟨_,f,rfl⟩,h _ f z y ⟨_,C,rfl,rfl⟩ ⟨_,B,rfl,rfl⟩ G λc o x =>
  mz _ (mz _ (mz _ (mz _ (mz _ x))))⟩
end
end SeqT
namespace MM
open PySem.Spec PyProof.Rows L2 SeqT
def Do(f:Bool)(K:hR)(H:Hp)(a:Addr)(ys:List V):Prop:=match f with
 | true=>SqT K H a ys
 | false=>SqL K H a ys
section
variable {X:Cx} {Mq:List (Addr × Obj)} {Z:L2.St} {H:Hp} {s:Shared}
def fP(I:Inv X Mq Z H s)(h:Do tp X.K H a ys):∃f:List Value,aJ ys f/\SqO tp s.heap a f.toArray/\ys.length<=sizeLine:=by
 cases tp with
 | true =>
  obtain⟨f,i,pl,j⟩:=I.tuple h;exact⟨f,i,pl,j⟩
 | false =>
  obtain⟨f,i,pl,j⟩:=I.list h;exact⟨f,i,pl.isList,j⟩
def pU(I:Inv X Mq Z H s)(h:Do tp X.K H a xs)(f:Do tp X.K H a ys):xs=ys:=by
 cases tp with
 | true=>exact I.tuple_inj h f
 | false=>exact I.list_inj h f
def ii(I:Inv X Mq Z H s){i:Heap}{t':Nat}{ch:List Addr}(hf:∀b∈ch,i6 X Mq H b)(k:∀b o,b∉ch->s.heap.get? b=some o->i.get? b=some o) :
  Inv X Mq Z H { s with heap:=i,toks:=t'}:=by
 have f:∀b u,H b=some u->b∉ch:=λb u e z=>by rw[(hf b z).1] at e;cases e
 refine I.step (g':=s.gens) (d':=s.drawn) (ch:=ch) (λb G=>?_) (λb o _ _ a e _=>k b o a e) (λb o _ _ a e _=>⟨o.slots,k b o a e⟩) (λ_ _ _ _ n=>n)
  (λb o a e=>⟨o,k b o a e⟩) (λ_ _ e=>e) (λ_ _ _ e=>e) (λb ps e=>⟨#[],by rw[e];simp⟩) (λm B=>?_) (λb u e=>?_) I.bare
 .obtain⟨L,l,M,j,F,C⟩:=hf b G;exact⟨j,l,F,C⟩
 .obtain⟨o,y,J,E,r⟩:=B;exact⟨o,y,J,k _ o (λz=>(hf _ z).2.1 rfl) E,r⟩
 .refine (I.hok b u e).stay (λc v a q=>k c v ?_ q) (λ_ q=>q) λ_ _ q=>q;rcases a with z|z
  .rw[z];exact f b u e
  .exact f c _ z
def qb(I:Inv X Mq Z H s){h':Heap}{t':Nat}{ch:List Addr}{ys:List V}{its:List Value}(hf:∀b∈ch,i6 X Mq H b)(y:aJ ys its)(E:ys.length<=sizeLine)(r:s.heap.objs.size∉ch)
  (B:h'.get? s.heap.objs.size=some { cls:=.type "tuple",data:=.seq its.toArray}) (k:∀b o,b∉ch->s.heap.get? b=some o->h'.get? b=some o) :
  Inv X Mq Z (m_ H s.heap.objs.size (.tup ys)) { s with heap:=h',toks:=t'}/\(∀b∈ch,(m_ H s.heap.objs.size (.tup ys)) b=none)/\H s.heap.objs.size=none:=by
 have j:=I.hok.fresh (j_ s.heap.objs.size);have l:∀b∈ch,b≠s.heap.objs.size:=λb a z=>r (by rw[<-z];exact a);have C:Inv X Mq Z (m_ H s.heap.objs.size (.tup ys)) { s with heap:=s.heap.push { cls:=.type "tuple",data:=.seq its.toArray},toks:=s.toks} :=
  I.laid (o:=.tup ys) (λb u q=>mz _ q) (j_ _) ⟨E,its,y,_,wy _ rfl,rfl,⟨_,rfl⟩,rfl⟩
 have f:∀b∈ch,(m_ H s.heap.objs.size (.tup ys)) b=none:=λb a=>by rw[bt (l b a)];exact (hf b a).1
 refine⟨?_,f,j⟩;refine ii (t':=t') C (ch:=ch) (λb a=>⟨f b a,(hf b a).2⟩) λb o a e=>?_;by_cases z:b=s.heap.objs.size
 .subst z;have i:(s.heap.push { cls:=.type "tuple",data:=.seq its.toArray}).get? s.heap.objs.size=some { cls:=.type "tuple",data:=.seq its.toArray}:=wy _ rfl;rw[show ({ s with heap:=s.heap.push { cls:=.type "tuple",data:=.seq its.toArray},toks:=s.toks}:Shared).heap=s.heap.push { cls:=.type "tuple",data:=.seq its.toArray} from rfl,i] at e;cases e;exact B
 .have i:(s.heap.push { cls:=.type "tuple",data:=.seq its.toArray}).get? b=some o:=e;rw[Heap.get?_push_ne _ _ _ z] at i;exact k b o a i
end
def Uc(K:hR)(f:Bool)(a:Addr):It :=
 ⟨λi H=>∃ys y,Do f K H a ys/\ys[i]?=some y,λi H x j=>∃p y,H p=none/\x=.ref p/\j=m_ H p (.tup [.int i,y])/\∀ys,Do f K H a ys->ys[i]?=some y,λi H=>∃ys,Do f K H a ys/\ys.length<=i⟩
def yW{P:Program}{w:World}{K:hR}{M:List Expr}{x1:Nat}{Y:Pos}(tp:Bool)(a e f:Addr)(G:e≠f)(as:a≠e)(ar:a≠f) :
  Db P w K (.Tuple M x1 Y) (Uc K tp a) [e,f] e (λi h=>(∃old,IsEnum h e f i old)/\SqI tp h f a i) where
 mem:=by simp
 obj:=λi h st b J=>by
  obtain⟨⟨old,j⟩,C⟩:=st
  have:b=e\/b=f:=by simpa using J
  rcases this with rfl|rfl
  .exact⟨_,j,λv z=>nomatch z⟩
  .obtain⟨o,ho,R,hd⟩:=C;exact⟨o,ho,λv z=>by rw[hd] at z;cases z⟩
 keep:=λi h h' st k=>let ⟨⟨old,j⟩,C⟩:=st;⟨⟨old,k e (by simp) _ j⟩,C.at' λo q=>k f (by simp) o q⟩
 item:=by
  intro X hP hw hK R i Mq s Z H E I hf st hg;subst hP hw hK;obtain⟨⟨old,j⟩,C⟩:=st;obtain⟨ys,y,U,hy⟩:=hg;obtain⟨r,rv,so,hz⟩:=fP I U;obtain⟨u,hu,ru⟩:=rv.get hy;have a3:i<r.toArray.size:=by
   have:=(tr.mp hu).1
   simpa using this
  have F:(X.A.in1).handled=none:=by have:=I.ok.hd R;simpa using this
  refine wpAny_pyNext_enum_itemD (MB F tp f a ar r.toArray) j ⟨C,so⟩ a3 G (by simp[G,Ne.symm as]) λx h1 S hx ap ay an a8 a5=>⟨_,rfl,?_⟩;have a1:x=u:=by
   have:r.toArray[i]?=some u:=by simpa using hu
   rw[this] at hx;exact (Option.some.inj hx).symm
  subst a1;refine wpAny_letOwnedTupleGo_enum (s:={ s with heap:=h1,toks:=S+1}) ap λh2 al l=>?_;replace l:Heap.SameBut e h1 h2:=l;have B:e<s.heap.objs.size:=n9 j;have L:f<s.heap.objs.size:=C.lt;obtain⟨I2,a6,ao⟩:=qb (t':=S+1) (h':=h2) I (ch:=[e,f]) (ys:=[.int i,y]) (its:=[.int i S,x]) hf (.cons ⟨S,rfl⟩ (.cons ru .nil)) (by rw[sizeLine_eq];show 2<=_;decide)
   (by simp only[ml,Ef,or_false,not_or];exact⟨Cy B,Cy L⟩)
   ((l.2 _ (Cy B)).trans an)
   (λb o J q=>by
    have O:b≠e:=λz=>J (by simp[z]);have ax:b≠f:=λz=>J (by simp[z])
    exact (l.2 b O).trans (a5 b o O ax q))
  refine⟨.ref s.heap.objs.size,_,I2,rfl,⟨_,y,ao,rfl,rfl,λzs a2=>by rw[pU I a2 U];exact hy⟩,⟨⟨x,by simpa using al⟩,?_⟩,a6⟩;exact ay.1.at' λo q=>(l.2 f (Ne.symm G)).trans q
 done:=by
  intro X hP hw hK R i Mq s Z H E I hf st hg;subst hP hw hK;obtain⟨⟨old,j⟩,C⟩:=st;obtain⟨ys,U,hy⟩:=hg;obtain⟨r,rv,so,hz⟩:=fP I U;have F:(X.A.in1).handled=none:=by have:=I.ok.hd R;simpa using this
  have a7:=rv.length;have hT:s.TypeIs (.ref e) "enumerate":=⟨_,j,rfl⟩;unfold pyNext;refine b_ (wpAny_attempt (wpAny_callSpecial?_slot (name:=Str.ofString "__next__") hT PySem.F.slot_enumerate_next (wpAny_call_entry PySem.F.slot_enumerate_next hT PySem.F.entry_enumerate_next ?_ (PySem.F.args_enumerate_next_1 _))));show wpAny _ _ (field (.ref e) 2 >>= _) _ _ _;refine b_ (wpAny_field j rfl (x:=.ref f) rfl ?_);refine b_ (ko F C so (by simp;ext) λh1 x a4 ai=>?_);obtain⟨o,ho,a0⟩:=ai;refine b_ (wpAny_isInstance (T:="StopIteration") (b:=true) ⟨o,ho,a0⟩ isSubtype_stop ?_);refine i3 ⟨rfl,ii (t':=s.toks) I hf λb o J q=>a4 b o (λz=>J (by simp[z])) q⟩
 self:=λA i s Q E st h=>let ⟨⟨old,j⟩,_⟩:=st;wpAny_pyIter_enum j h
def Ud(K:hR)(f j:Bool)(a b:Addr):It :=
 ⟨λi H=>∃xs ys x y,Do f K H a xs/\Do j K H b ys/\xs[i]?=some x/\ys[i]?=some y,
   λi H v l=>∃p x y,H p=none/\v=.ref p/\l=m_ H p (.tup [x,y])/\(∀xs,Do f K H a xs->xs[i]?=some x)/\∀ys,Do j K H b ys->ys[i]?=some y,
   λi H=>∃xs ys,Do f K H a xs/\Do j K H b ys/\(xs.length<=i\/ys.length<=i)⟩
def BG{P:Program}{w:World}{K:hR}{al:List Expr}{x1:Nat}{ap:Pos}(t1 t2:Bool)(a b z TI TO G F:Addr)(D:ZipApart z TI TO G F a b) :
  Db P w K (.Tuple al x1 ap) (Ud K t1 t2 a b) [z,TI,TO,G,F] z (λi h=>IsZip h z TI TO .none/\IsPair h TI (.ref G) (.ref F)/\(∃u v,IsPair h TO u v)/\SqI t1 h G a i/\SqI t2 h F b i) where
 mem:=by simp
 obj:=λi h st c j=>by
  obtain⟨C,f,⟨u,v,l⟩,⟨o1,e1,_,d1⟩,⟨o2,e2,_,d2⟩⟩:=st
  have:c=z\/c=TI\/c=TO\/c=G\/c=F:=by simpa using j
  rcases this with rfl|rfl|rfl|rfl|rfl
  .exact⟨_,C,λv z=>nomatch z⟩
  .exact⟨_,f,λv z=>nomatch z⟩
  .exact⟨_,l,λv z=>nomatch z⟩
  .exact⟨o1,e1,λv z=>by rw[d1] at z;cases z⟩
  .exact⟨o2,e2,λv z=>by rw[d2] at z;cases z⟩
 keep:=λi h h' st k=>let ⟨C,f,⟨u,v,l⟩,T,S⟩:=st
  ⟨k z (by simp) _ C,k TI (by simp) _ f,⟨u,v,k TO (by simp) _ l⟩,T.at' λo q=>k G (by simp) o q,S.at' λo q=>k F (by simp) o q⟩
 item:=by
  intro X hP hw hK j i Mq s Z H E I hf st hg;subst hP hw hK;obtain⟨C,f,⟨u,v,l⟩,T,S⟩:=st;obtain⟨xs,ys,x,y,r,B,hx,hy⟩:=hg;obtain⟨an,J,R,a7⟩:=fP I r;obtain⟨U,L,M,a2⟩:=fP I B;obtain⟨u1,ay,a0⟩:=J.get hx;obtain⟨u2,a6,a3⟩:=L.get hy;refine AM D C f l T S R M (x:=u1) (y:=u2) (by simpa using ay) (by simpa using a6) λha a1 Y as a5 ax bc ao=>⟨_,rfl,?_⟩;refine wpAny_letOwnedTupleGo_zip (s:={ s with heap:=ha}) a1 λhb a4 sb=>?_;replace sb:Heap.SameBut z ha hb:=sb;have l1:z<s.heap.objs.size:=n9 C;have l2:TI<s.heap.objs.size:=n9 f;have l3:TO<s.heap.objs.size:=n9 l;have l4:G<s.heap.objs.size:=T.lt;have l5:F<s.heap.objs.size:=S.lt;have up:∀c o,c≠z->ha.get? c=some o->hb.get? c=some o:=λc o j q=>(sb.2 c j).trans q;obtain⟨I2,a8,ar⟩:=qb (t':=s.toks) (h':=hb) I (ch:=[z,TI,TO,G,F]) (ys:=[x,y]) (its:=[u1,u2]) hf (.cons a0 (.cons a3 .nil)) (by rw[sizeLine_eq];show 2<=_;decide)
   (by simp only[ml,Ef,or_false,not_or];exact⟨Cy l1,Cy l2,Cy l3,Cy l4,Cy l5⟩)
   (up _ _ (Cy l1) ax)
   (λc o j q=>up c o (λe=>j (by simp[e])) (ao c o (λe=>j (by simp[e])) (λe=>j (by simp[e])) (λe=>j (by simp[e])) (λe=>j (by simp[e])) q))
  refine⟨.ref s.heap.objs.size,_,I2,rfl,⟨_,x,y,ar,rfl,rfl,λzs O=>by rw[pU I O r];exact hx,λzs O=>by rw[pU I O B];exact hy⟩,⟨a4,?_,⟨_,_,up _ _ D.TOz Y⟩,as.at' λo q=>up _ o D.i1z q,a5.at' λo q=>up _ o D.i2z q⟩,a8⟩;exact up _ _ D.TIz (ao _ _ D.TIz D.TITO D.TIi1 D.TIi2 f)
 done:=by
  intro X hP hw hK j i Mq s Z H E I hf st hg;subst hP hw hK;obtain⟨C,f,⟨u,v,l⟩,T,S⟩:=st;obtain⟨xs,ys,r,B,ai⟩:=hg;obtain⟨an,J,R,a7⟩:=fP I r;obtain⟨U,L,M,a2⟩:=fP I B;have e1:=J.length;have e2:=L.length;have hT:s.TypeIs (.ref z) "zip":=⟨_,C,rfl⟩;have a9:(X.A.in1).handled=none:=by have:=I.ok.hd j;simpa using this
  refine E7 (I.ok.hd j) D C f l T S R M ?_ λh' hk=>⟨rfl,ii (t':=s.toks) I hf λc o j q=>hk c o (λe=>j (by simp[e])) (λe=>j (by simp[e])) (λe=>j (by simp[e])) (λe=>j (by simp[e])) q⟩;rcases ai with q|q
  .exact .inl (by simp;ext)
  .exact .inr (by simp;ext)
 self:=λA i s Q E st h=>wpAny_pyIter_zip st.1 h
def cu(v:PV)(h:MH):Option (Bool × List PV × List (Nat × List PV)):=match v with
 | .loc n=>(match h[n]? with
  | some (.lst xs)=>some (false,xs,[(n,xs)])
  | _=>none)
 | .frl xs=>some (false,xs,[])
 | .tup xs=>some (true,xs,[])
 | _=>none
def uY{X:Cx}{U:List Addr}{H:Hp}{h:MH}{x:PV}{y:V}{E:Bool}{xs:List PV}{gd:List (Nat × List PV)}(J:RH X.K X.mg U H h)(r:RP X.K U H x y)(e:cu x h=some (E,xs,gd)) :
  ∃a,y=.ref a/\(∃ys,Do E X.K H a ys)/\∀i f j,Le U H i f->RH X.K X.mg i f j->(∀p∈gd,j[p.1]?=some (.lst p.2))->∃ys,Do E X.K f a ys/\RPs X.K i f xs ys:=by
 cases r with
 | frl s r=>cases e;exact⟨_,rfl,⟨_,s.sq⟩,λi f j l _ _=>⟨_,(l.sqf s).sq,r.le l⟩⟩
 | tup s r=>cases e;exact⟨_,rfl,⟨_,s⟩,λi f j l _ _=>⟨_,l.sqt s,r.le l⟩⟩
 | @loc n a F =>
  obtain⟨o,eo,G⟩:=J.obj F;unfold cu at e;dsimp only at e;rw[eo] at e
  cases o with
  | lst M =>
   cases e;obtain⟨ys,I,L⟩:=G;refine⟨a,rfl,⟨ys,SqL.of I⟩,λi f j l C ok=>?_⟩;obtain⟨u,z,B⟩:=C.at' n a _ (l.get F) (ok (n,xs) (by simp));exact⟨u,SqL.of z,B⟩
  | _=>cases e
 | _=>cases e
def ju(xs:List PV):List PV:=xs.zipIdx.map λp=>.tup [.int (p.2:Int),p.1]
def fI(xs ys:List PV):List PV:=(xs.zip ys).map λp=>.tup [p.1,p.2]
def AE{xs:List PV}{i:Nat}{x:PV}(h:xs[i]?=some x):(ju xs)[i]?=some (.tup [.int (i:Int),x]):=by
 unfold ju;rw[tt,List.getElem?_zipIdx,h];simp
def qz(xs:List PV):(ju xs).length=xs.length:=by simp[ju]
def nU(xs ys:List PV):(fI xs ys).length=min xs.length ys.length:=by simp[fI]
def tO{xs ys:List PV}{i:Nat}{x y:PV}(a:xs[i]?=some x)(f:ys[i]?=some y):(fI xs ys)[i]?=some (.tup [x,y]):=by
 unfold fI;rw[tt]
 have:(xs.zip ys)[i]?=some (x,y):=by rw[SU];exact⟨a,f⟩
 rw[this];rfl
def Ro(m:Mx (List PV)):Mx MIt:=λZ h=>(m Z h).bind λf a=>match f with
 | [x]=>(match cu x a with
  | some (_,xs,gd)=>.ok ⟨ju xs,gd⟩ a
  | none=>.bad)
 | _=>.bad
def MC(m:Mx (List PV)):Mx MIt:=λZ h=>(m Z h).bind λi a=>match i with
 | [x,y]=>(match cu x a,cu y a with
  | some (_,xs,f),some (_,ys,j)=>.ok ⟨fI xs ys,f++j⟩ a
  | _,_=>.bad)
 | _=>.bad
section
variable {X:Cx} {N W G:List Str} {k:Nat}
def E9(g:Good X N W G k){Y:List Expr}{x1:Nat}{tp:Pos}{a:Expr}{m:Mx (List PV)}{p Q:Pos}{j:Nat}(hj:G[j]?=some "enumerate")(hm:X.mg "enumerate"=none)(ha:MA X [a] m)
  (hs:starEach [a] X.env=[(false,eval a X.env)]:=by rfl):MI X (.Tuple Y x1 tp) (.Call (.Name "enumerate" p) [a] [] Q) (Ro m):=by
 have d:=g.dbg _ (z4 _ (bo hj));intro Mq s Z H R I ⟨U,ao,h,rs,rh,q⟩;refine wpAny_Call_Name_kw (jW I (g.gl _ (bo hj)) hm PyProof.Rows.Boot.«enumerate» ?_ d.2.2 d.1)
 refine PyProof.Rows.callWith_type1 (l_ (ha Q Mq s Z H (λvs C=>∃J O xs,Le U H J C/\RH X.K X.mg J C O/\RPs X.K J C xs vs/\Ful X (nP X) ao J C ((match xs with
   | [x]=>(match cu x O with | some (_,xs,gd)=>.ok ⟨ju xs,gd⟩ O | none=>.bad)
   | _=>.bad:Out MIt)) R) I ⟨U,ao,h,rs,rh,Ful.bind q λJ C v v' O _ l1 E rv q1=>⟨J,O,v,l1,E,rv,q1⟩⟩) λus r ⟨vs,C,P,r1,J,O,xs,l1,E,rv,q1⟩=>?_) hs rfl
 cases rv with
 | nil=>exact q1.elim
 | @cons y y' ys a5 ry t1 =>
  cases t1 with
  | cons _ _=>exact q1.elim
  | nil =>
   dsimp only at q1
   cases L:cu y O with
   | none=>rw[L] at q1;exact q1.elim
   | some z =>
    obtain⟨b,zs,gd⟩:=z;rw[L] at q1;obtain⟨ad,rfl,⟨ws,ax⟩,ay⟩:=uY E ry L;obtain⟨u,rfl,rx⟩:=gE r1;cases rx;obtain⟨a2,a4,so,hz⟩:=fP P ax;refine zL so λh' he hi a1 hk=>?_;have hT:Shared.TypeIs { r with heap:=h'} (.ref (r.heap.objs.size+1)) "enumerate":=⟨_,he,rfl⟩;refine wpAny_pyIter_enum he ?_;have I2:Inv X Mq Z C { r with heap:=h',toks:=r.toks}:=P.kept hk;obtain⟨oa,ar,a3,_⟩:=id so;have al:ad<r.heap.objs.size:=n9 ar;have an:=P.hok.fresh (j_ r.heap.objs.size);have ai:=P.hok.fresh (Gn r.heap.objs.size);refine⟨r.heap.objs.size+1,_,_,_,C,rfl,I2,yW b ad _ r.heap.objs.size (Cy (OF _)) (s_ (KP al)) (s_ al),⟨⟨_,he⟩,hi⟩,λc hc=>?_,?_⟩
    .have:c=r.heap.objs.size+1\/c=r.heap.objs.size:=by simpa using hc
     rcases this with rfl|rfl
     .have F:=Inv.fpOk P (H':=C) (b:=r.heap.objs.size+1) (Gn _) ai;exact F
     .exact Inv.fpOk P (H':=C) (j_ _) an
    .refine q1 J C _ (Le.refl _ _) E ?_;intro U' H' h2 i l T ok;obtain⟨M,B,ap⟩:=ay U' H' h2 l T ok;refine⟨λf=>?_,λf=>⟨M,B,by rw[<-ap.length];rw[qz] at f;exact f⟩⟩;rw[qz] at f;have hx:zs[i]?=some (zs[i]'f):=p_ f;obtain⟨w',ew,as⟩:=ap.get hx;refine⟨⟨M,w',B,ew⟩,λx' H3 ⟨pp,y2,hp,e1,e2,S⟩=>?_⟩;subst e1;subst e2;have ey:y2=w':=by
      have:=S M B
      rw[ew] at this;exact (Option.some.inj this).symm
     subst ey;obtain⟨a0,l3⟩:=T.tup hp [.int i,y2];exact⟨U',_,l3,a0,AE hx,.tup (SqT.of cp) (.cons (.int _) (.cons (as.le l3) .nil))⟩
def zp(g:Good X N W G k){a5:List Expr}{x1:Nat}{tp:Pos}{a b:Expr}{m:Mx (List PV)}{p an:Pos}{j:Nat}(hj:G[j]?=some "zip")(hm:X.mg "zip"=none)(ha:MA X [a,b] m)
  (hs:starEach [a,b] X.env=(false,eval a X.env)::starEach [b] X.env:=by rfl) (b9:(backTo an (starEach [b] X.env)).any (·.1)=false:=by rfl):MI X (.Tuple a5 x1 tp) (.Call (.Name "zip" p) [a,b] [] an) (MC m):=by
 have d:=g.dbg _ (z4 _ (bo hj));intro Mq s Z H R I ⟨U,b0,h,rs,rh,q⟩;refine wpAny_Call_Name_kw (jW I (g.gl _ (bo hj)) hm PyProof.Rows.Boot.«zip» ?_ d.2.2 d.1)
 refine PyProof.Rows.callWith_type1 (l_ (ha an Mq s Z H (λvs M=>∃U1 Y xs,Le U H U1 M/\RH X.K X.mg U1 M Y/\RPs X.K U1 M xs vs/\Ful X (nP X) b0 U1 M ((match xs with
   | [x,y]=>(match cu x Y,cu y Y with | some (_,xs,g1),some (_,ys,g2)=>.ok ⟨fI xs ys,g1++g2⟩ Y | _,_=>.bad)
   | _=>.bad:Out MIt)) R) I ⟨U,b0,h,rs,rh,Ful.bind q λU1 M v v' Y _ l1 L rv q1=>⟨U1,Y,v,l1,L,rv,q1⟩⟩) λus f ⟨vs,M,I1,r1,U1,Y,xs,l1,L,rv,q1⟩=>?_) hs b9
 cases rv with
 | nil=>exact q1.elim
 | @cons y y' ys dk ry t1 =>
  cases t1 with
  | nil=>exact q1.elim
  | @cons v v' d0 c4 rv t2 =>
   cases t2 with
   | cons _ _=>exact q1.elim
   | nil =>
    dsimp only at q1
    cases Q:cu y Y with
    | none=>rw[Q] at q1;exact q1.elim
    | some z =>
     obtain⟨b1,a8,dc⟩:=z
     cases O:cu v Y with
     | none=>rw[Q,O] at q1;exact q1.elim
     | some z2 =>
      obtain⟨b2,ay,de⟩:=z2;rw[Q,O] at q1;obtain⟨E,rfl,⟨dx,bm⟩,a9⟩:=uY L ry Q;obtain⟨B,rfl,⟨ds,a7⟩,a0⟩:=uY L rv O
      cases r1 with
      | @cons _ u1 _ dv cm cs =>
       cases cs with
       | @cons _ u2 _ dd cx cn =>
        cases cn;cases cm;cases cx;obtain⟨da,c7,br,dF⟩:=fP I1 bm;obtain⟨c3,c5,bc,dt⟩:=fP I1 a7;refine AU br bc λh' hz b5 c0 ch c1 db hk=>?_;refine wpAny_pyIter_zip hz ?_;have I2:Inv X Mq Z M { f with heap:=h',toks:=f.toks}:=I1.kept hk;obtain⟨dV,bf,_,_⟩:=id br;obtain⟨dn,a3,_,_⟩:=id bc;have S:E<f.heap.objs.size:=n9 bf;have T:B<f.heap.objs.size:=n9 a3;have sN:∀(n:Nat),f.heap.objs.size<=f.heap.objs.size+n:=λn=>Nat.le_add_right _ _;have ap:∀(c:Addr) (n:Nat),c<f.heap.objs.size->c≠f.heap.objs.size+n:=λc n hc=>s_ (xv hc (sN n));have r:∀(m n:Nat),m≠n->f.heap.objs.size+m≠f.heap.objs.size+n:=λm n b6 e=>b6 (Nat.add_left_cancel e);have D:ZipApart (f.heap.objs.size+4) (f.heap.objs.size+2) (f.heap.objs.size+3) f.heap.objs.size (f.heap.objs.size+1) E B :=
         ⟨r 2 4 (by decide),r 3 4 (by decide),r 0 4 (by decide),r 1 4 (by decide),r 2 3 (by decide),r 2 0 (by decide),r 2 1 (by decide),r 3 0 (by decide),r 3 1 (by decide),r 0 1 (by decide),
          ap E 4 S,ap E 3 S,ap E 0 S,ap E 1 S,ap B 4 T,ap B 3 T,ap B 0 T,ap B 1 T⟩
        refine⟨f.heap.objs.size+4,_,_,_,M,rfl,I2,BG b1 b2 E B _ _ _ _ _ D,⟨hz,b5,⟨_,_,c0⟩,ch,c1⟩,λc hc=>?_,?_⟩
        .have F:∀n:Nat,i6 X Mq M (f.heap.objs.size+n):=λn=>Inv.fpOk I1 (H':=M) (sN n) (I1.hok.fresh (sN n))
         have:c=f.heap.objs.size+4\/c=f.heap.objs.size+2\/c=f.heap.objs.size+3\/c=f.heap.objs.size\/c=f.heap.objs.size+1:=by simpa using hc
         rcases this with rfl|rfl|rfl|rfl|rfl
         .exact F 4
         .exact F 2
         .exact F 3
         .exact F 0
         .exact F 1
        .refine q1 U1 M _ (Le.refl _ _) L ?_;intro U' H' h2 i l ar ok;obtain⟨P,C,ai⟩:=a9 U' H' h2 l ar (λp hp=>ok p (Gj _ hp));obtain⟨J,u,al⟩:=a0 U' H' h2 l ar (λp hp=>ok p (z4 _ hp));refine⟨λao=>?_,λao=>⟨P,J,C,u,?_⟩⟩
         .rw[nU] at ao;have bL:a8[i]?=some (a8[i]'(by ext)):=p_ (by ext);have b3:ay[i]?=some (ay[i]'(by ext)):=p_ (by ext);obtain⟨w1,a4,b4⟩:=ai.get bL;obtain⟨w2,a6,b7⟩:=al.get b3;refine⟨⟨P,J,w1,w2,C,u,a4,a6⟩,λx' H3 ⟨pp,y1,y2,hp,e1,e2,as,ax⟩=>?_⟩;subst e1;subst e2;have b8:y1=w1:=by
           have:=as P C
           rw[a4] at this;exact (Option.some.inj this).symm
          have cd:y2=w2:=by
           have:=ax J u
           rw[a6] at this;exact (Option.some.inj this).symm
          subst b8;subst cd;obtain⟨c2,l3⟩:=ar.tup hp [y1,y2];exact⟨U',_,l3,c2,tO bL b3,.tup (SqT.of cp) (.cons (b4.le l3) (.cons (b7.le l3) .nil))⟩
         .rw[nU] at ao;have a1:=ai.length;have a2:=al.length;ext
end
end MM
namespace MM
open PySem.Spec PyProof.Rows L2 SetT SortT
def kM:List PV->Option (List Int)
 | []=>some []
 | .int i::r=>(kM r).map (i::·)
 | _=>none
def gz(l:List Int):List Int:=l.mergeSort λa b=>decide (a<=b)
def lq(l:List Int):(gz l).Perm l:=List.mergeSort_perm _ _
def ub(l:List Int):(gz l).Pairwise (·<=·):=by
 have:=List.pairwise_mergeSort (le:=λa b:Int=>decide (a<=b)) (l:=l) (λa b c f i=>by
   simp only[decide_eq_true_eq] at f i ⊢;lia) (λa b=>by
   simp only[Bool.or_eq_true,decide_eq_true_eq];lia)
 unfold gz;exact this.imp λ{a b} h=>by simpa using h
def nh{l m:List Int}(f:l.Pairwise (·<=·))(i:m.Pairwise (·<=·))(p:l.Perm m):l=m :=
 List.Perm.eq_of_pairwise (λa b _ _ x y=>by lia) f i p
def wd:∀{xs:List PV} {k:List Int},kM xs=some k->xs=k.map .int
 | [],k,h=>by cases h;rfl
 | x::r,k,h=>by
  cases x with
  | int i =>
   unfold kM at h
   cases a:kM r with
   | none=>rw[a] at h;cases h
   | some f =>
    rw[a] at h;cases h;rw[wd a];rfl
  | _=>cases h
def uo:∀{ns:List Int} {a:List Value},aJ (ns.map V.int) a->IntsAre a ns
 | [],_,h=>by cases h;exact .nil
 | i::k,_,h=>by
  cases h with
  | cons r t =>
   obtain⟨f,rfl⟩:=r;exact .cons i f (uo t)
def um:∀{ns:List Int} {a:List Value},IntsAre a ns->aJ (ns.map V.int) a
 | _,_,.nil=>.nil
 | _,_,.cons n t h=>.cons ⟨t,rfl⟩ (um h)
section
variable {X:Cx} {N W G:List Str} {k:Nat}
end
end MM
namespace MM
open PySem.Spec PyProof.Rows L2
def pG(I:Nat->oe->MH->Prop):∀(xs:List PV) (j:Nat) (Z:oe) (h:MH),I j Z h->(∀j Z h,I j Z h->it.ok h) ->
  (∀m Z h x,I (j+m) Z h->xs[m]?=some x->∃l u a f,g x Z h=.nx l u/\b l u=.nx a f/\I (j+m+1) a f) ->
  ∃a f,z5 it g b xs Z h=.nx a f/\I (j+xs.length) a f
 | [],j,Z,h,i,hok,_=>⟨Z,h,EX (hok _ _ _ i),i⟩
 | x::r,j,Z,h,i,hok,st=>by
  obtain⟨l,u,E,H,e1,e2,C⟩:=st 0 Z h x i rfl;obtain⟨G,F,e3,B⟩:=pG I r (j+1) E H C hok λm a f y q z=>by
   have:=st (m+1) a f y (by rw[show j+(m+1)=j+1+m by lia];exact q) (by simpa using z)
   rw[show j+(m+1)+1=j+1+m+1 by lia] at this;exact this
  refine⟨G,F,?_,by rw[pk,show j+(r.length+1)=j+1+r.length by lia];exact B⟩;rw[BL (hok _ _ _ i) e1,e2];exact e3
end MM
namespace MM
open PySem.Spec PyProof.Rows L2 SetT SortT
section
variable {h:MH} {i:Int} {xs:List PV} {n:Nat}
def qw(e:h[n]?=some (.lst xs)):gQ n [] h=.ok .non (h.set n (.lst [])):=by simp only[gQ,e]
def vR(em:m Z h=.ok (.loc n) h1)(e:h1[n]?=some (.lst xs)):C7 f m ma Z h=(ma Z h1).bind λa j=>(f n a j).ne:=by
 rw[IH,em];simp[e]
end
def itR1'(em:m Z h=.ok [.int j] h1)(z:-(2 ^ 62)<=j/\j<2 ^ 62):eR m Z h=.ok ⟨bZ 0 j.toNat,[]⟩ h1:=by
 rw[Bk,em];simp only[Out.bind_ok];rw[d_ z]
def MD(em:m Z h=.ok [.int (n:Int)] h1)(f:n<=100000):eR m Z h=.ok ⟨bZ 0 n,[]⟩ h1:=by
 have z1:-(2 ^ 62)<=(n:Int):=Int.le_trans (by decide) (Int.natCast_nonneg n);have a:(n:Int)<2 ^ 62:=Int.lt_of_le_of_lt (Int.ofNat_le.mpr f) (by decide)
 have:=itR1' em ⟨z1,a⟩
 rwa [v_] at this
def kH:∀(k:List Int),PyData.canLayAll0 (k.map .int)=true/\PyData.depthAll (k.map .int)<=1
 | []=>⟨rfl,by simp[PyData.depthAll]⟩
 | i::k=>by
  obtain⟨a,b⟩:=kH k;constructor
  .simp[PyData.canLayAll0,PyData.canLay0,a]
  .simp only[m3,PyData.depthAll,PyData.depth];lia
end MM
namespace MM
open PySem.Spec PyProof.Rows L2
def nZ(h:MH):PV->Option Bool
 | .non=>some false
 | .bl b=>some b
 | .int i=>some (i != 0)
 | .str _=>none
 | .tup xs=>some (!xs.isEmpty)
 | .frl xs=>some (!xs.isEmpty)
 | .loc n=>match h[n]? with
  | some (.lst xs)=>some (!xs.isEmpty)
  | _=>none
def Tj(m:Mx PV):Mx Bool:=λZ h=>(m Z h).bind λv a=>match nZ a v with
 | some b=>.ok b a
 | none=>.bad
section
variable {X:Cx} {N W G:List Str} {k:Nat}
def lS{K:hR}{U:List Addr}{H:Hp}{xs:List PV}{ys:List V}(r:RPs K U H xs ys):(!xs.isEmpty)=!ys.isEmpty:=by
 cases r <;> rfl
def IK{e:Expr}{m:Mx PV}(h:ME X e m)(E:∀j,isTrue e X.env j=(do let v <-j;standAt e.pos;holding [v] (truthy v)):=by intro _;rfl):MT X e (Tj m):=by
 refine PT.imp (Bs h E) λZ H Q ⟨U,y,h,L,J,q⟩=>⟨U,y,h,L,J,Ful.bind q λl u x R P _ M f C q1=>?_⟩
 cases C with
 | non=>exact⟨false,rfl,q1 l u _ (Le.refl _ _) f rfl⟩
 | bl b=>exact⟨b,rfl,q1 l u _ (Le.refl _ _) f rfl⟩
 | int i=>exact⟨_,rfl,q1 l u _ (Le.refl _ _) f rfl⟩
 | str i=>exact q1.elim
 | @tup xs a ys s r=>exact⟨_,.inr (.inl ⟨ys,s,rfl⟩),by rw[<-lS r];exact q1 l u _ (Le.refl _ _) f rfl⟩
 | @frl xs a ys s r=>exact⟨_,.inl ⟨ys,s.sq,rfl⟩,by rw[<-lS r];exact q1 l u _ (Le.refl _ _) f rfl⟩
 | @loc n a e =>
  obtain⟨o,eo,F⟩:=f.obj e
  cases o with
  | lst xs =>
   obtain⟨ys,I,B⟩:=F;simp only[nZ,eo] at q1;exact⟨_,.inl ⟨ys,.inl (.inl I),rfl⟩,by rw[<-lS B];exact q1 l u _ (Le.refl _ _) f rfl⟩
  | dic fz O xs=>simp only[nZ,eo] at q1;exact q1.elim
  | exc z=>simp only[nZ,eo] at q1;exact q1.elim
end
end MM
namespace MM
open PySem.Spec PyProof.Rows L2 PySem.W
section
variable {X:Cx}
end
end MM
namespace MM
open PySem.Spec PyProof.Rows L2
section
variable {X:Cx} {o e:Expr} {es:List Expr} {name:Str} {apos cpos:Pos} {id:String} {f:Str->List PV->MH->Out PV} {m:Mx PV} {ma:Mx (List PV)}
end
end MM
namespace DcT
open PyProof.Rows
section
variable {prog:Program} {w:World} {A:Around} {E:Value->Shared->Prop} {s:Shared}
def xz:typeLookup (.type "tuple") "keys"=pure none:=by rw[typeLookup_type,builtinLookup_eq_fast];kernel_rfl
def zm(z:s.heap.get? a=some o)(r:o.cls=.type "tuple")(f:o.data=.seq xs k)(hd:o.dict=none)(B:A.handled=none)
  (h:∀l y e,Heap.NewExcOf s.heap l e "AttributeError"->Q none { s with heap:=l,toks:=y}):wpAny (model prog w) A (getAttr? (.ref a) "keys") Q E s:=by
 obtain⟨c,I,C,G⟩:=o;simp only at r f hd;subst r f hd;obtain⟨H,g,d,y,os⟩:=s;have u:∀j,(⟨H,g,d,j,os⟩:Shared).TypeIs (.ref a) "tuple":=λ_=>⟨_,z,rfl⟩;have L:=sub_AttributeError;have J:=F.slot_tuple_getattribute.lookup;have S:=F.slot_tuple_getattribute.bind (.ref a);have P:=am_tuple_getattr_none;unfold getAttr? getAttrBy? getAttrBy
 repeat (any_goals (first | assumption | exact u _ | ((with_reducible show wpAny _ _ (call (Value.builtin "tuple.__getattribute__") _ _) _ _ _);refine call_meets F.slot_tuple_getattribute (u _) am_entry_tuple_getattribute (F.args_tuple_getattribute_2 _ _) (meets_getattribute_miss_tuple a xs k G "keys" _ xz (by decide +kernel) (by decide)) ⟨z,B,λl j e i=>?_⟩)|wp_step))
 obtain⟨R,O,M⟩:=i.there;show wpAny _ _ (getattributeRaised _ _ _ _ _ _ _) _ _ _;unfold getattributeRaised
 repeat (any_goals (first | assumption | wp_step))
 exact h _ _ _ i.of
def ng:entryFor table "dict.update.loop"=some Builtin.«dict.update.loop»:=entryFor_of_tree (by kernel_rfl)
def gD:plainId "dict.update.loop"=true:=by decide +kernel
def Ext(a h:Heap):Prop:=∀b o,a.get? b=some o->h.get? b=some o
def jv{h f:Heap}{d:Addr}{a:List (Int × Value)}(T:h.DictOf (intKind prog w) d a)(hd:∀o,h.get? d=some o->f.get? d=some o):f.DictOf (intKind prog w) d a:=by
 obtain⟨o,l,j,i,r⟩:=T;exact⟨o,l,j,hd o i,r⟩
def ye{a:List (Int × Value)}{k:Int}{v:Value}(h:k∉a.map (·.1)):stored a k v=a++[(k,v)]:=by
 unfold stored;rw[g_];intro z;rw[List.any_eq_true] at z;obtain⟨x,f,e⟩:=z;exact h (mu.mpr ⟨x,f,by simpa using e⟩)
def MF{R:Result->Shared->Prop}{I:Addr}{fp wr:List Addr}{G:Array GenState->Array GenState->Prop}{n:Nat}{P:Nat->Value->Prop}{St:Nat->Shared->Prop}
  (W:WalksS prog w A.in1 I fp wr G n P St) (d:Addr) (O:d∉fp) {H0:Heap} (a3:H0.get? d=none) (a1:∀b∈wr,H0.get? b=none) (f:List (Int × Value)) (hn:f.length=n) (a7:n<=sizeLine) (nd:(f.map (·.1)).Nodup)
  (U:∀i v r,P i v->f[i]?=some r->∃a t,v=.ref a/\H0.IsTuple a #[.int r.1 t,r.2]) :
  ∀(c i:Nat) (s:Shared) (j:Int) (tj:Tok),n - i=c->i<=n->St i s->Ext H0 s.heap->s.heap.DictOf (intKind prog w) d (f.take i) ->
   (∀l,Moved (d::wr) G s l->Ext H0 l.heap->l.heap.DictOf (intKind prog w) d f->R (.ok (.ret .none)) l) ->
   codeAny (model prog w) A (.builtin "dict.update.loop" ⟨[.ref d,.ref I,.int j tj,.none],[]⟩) R s:=by
 have Y:d∉wr:=λh=>O (W.sub _ h);have y:∀b∈wr,b∈d::wr:=λb F=>m1 _ F;have B:∀{s l:Shared},Moved wr G s l->Ext H0 s.heap->Ext H0 l.heap:=λ{s l} u x b o e =>
  u.heap b o (λF=>by rw[a1 b F] at e;cases e) (x b o e)
 intro c
 induction c with
 | zero =>
  intro i s j tj hc hi C hx hT J;have e:i=n:=by lia
  subst e;refine codeAny_builtin ng ?_;rw[Around.under_plainId gD _];show wpAny _ A.in1 (pyNext (.ref I) >>= _) _ _ s;refine b_ (W.done s _ _ C λl u=>?_);show wpAny _ A.in1 (Builtin.Dict.addKeywords d [] >>= λ_=>ret Value.none) _ _ l;rw[<-hn,OG] at hT;refine b_ ?_;show wpAny _ A.in1 (pure ()) _ _ l;exact i3 (i3 (J l (u.mono y) (B u hx) (jv hT λo e=>u.heap d o Y e)))
 | succ c ih =>
  intro i s j tj hc hi C hx hT J;have an:i<n:=by lia
  refine codeAny_builtin ng ?_;rw[Around.under_plainId gD _];show wpAny _ A.in1 (pyNext (.ref I) >>= _) _ _ s;refine b_ (W.item i s _ _ an C λv l hP X u=>?_);obtain⟨r,hk⟩:∃k,f[i]?=some k:=⟨_,p_ (by lia)⟩;obtain⟨a,t,rfl,ha⟩:=U i v r hP hk;have S:=B u hx;have ay:=jv hT (λo e=>u.heap d o Y e);obtain⟨oa,ap,H,na,ao⟩:=ha;have al:=S a oa ap;have ar:l.TypeIs (.ref a) "tuple":=⟨oa,al,H⟩;dsimp only;refine b_ (wpAny_holding (b_ ?_));have L:∀(Q:List Value->Shared->Prop) (E:Value->Shared->Prop),Q [.int r.1 t,r.2] l->wpAny (model prog w) A.in1 (Builtin.Dict.pairItems (.ref a)) Q E l:=λQ E q=>by
   unfold Builtin.Dict.pairItems;refine b_ (wpAny_typeOf ar ?_);obtain⟨a8,g',d',bm,a6⟩:=l;obtain⟨oc,od,bf,a9⟩:=oa;simp only at H ao;subst H ao;rw[d_ (by decide)]
   repeat (any_goals (first | assumption | wp_step))
  refine wpAny_tryCatch (L _ _ ?_);dsimp only;have ai:(f.take i).length<=sizeLine:=by rw[Er];lia
  have T:r.1∉(f.take i).map (·.1):=λz=>by
   obtain⟨x,a2,ex⟩:=mu.mp z;obtain⟨q,M⟩:=KI.mp a2;rw[List.getElem?_take] at M
   split at M
   .rename_i bc
    have e1:(f.map (·.1))[q]?=some r.1:=by rw[tt,M];simp[ex]
    have e2:(f.map (·.1))[i]?=some r.1:=by rw[tt,hk];rfl
    have l1:q<(f.map (·.1)).length:=(tr.mp e1).1
    have:=(List.getElem?_inj l1 nd).mp (e1.trans e2.symm)
    lia
   .cases M
  have as:f.take (i+1)=f.take i++[r]:=by rw[Qu,hk];rfl
  refine wpAny_holding (wpAny_dictSet_pairs (knd:=intKind prog w) (k:=r.1) (intKind_is prog w r.1 t) ay (λh' hD sb=>?_) ai);rw[ye T,show f.take i++[(r.1,r.2)]=f.take (i+1) from as.symm] at hD;have a4:Ext H0 h':=λq o e=>by
   have M:q≠d:=by rintro rfl;rw[a3] at e;cases e
   exact (sb.2 q M).trans (S q o e)
  refine i3 ⟨plainId_quiet gD _,ih (i+1) _ _ _ (by lia) an (W.frame _ l _ _ X (Gn _) λb F o e=>(sb.2 b (λq:b=d=>O (by rw[<-q];exact F))).trans e) a4 hD λa0 Z a5 ax=>?_⟩;refine J a0 (Moved.trans W.gtrans ((u.mono y).then_heap (Gn _) λb o F e=>?_) Z) a5 ax;exact (sb.2 b (λq:b=d=>F (by rw[q];exact CY))).trans e
set_option maxHeartbeats 3200000 in
theorem oN{a:Addr}{items:Array Value}{kvs:List (Int × Value)}{Q:Value->Shared->Prop}(hh:A.handled=none)(ha:∃o k,s.heap.get? a=some o/\o.cls=.type "tuple"/\o.data=.seq items k/\o.dict=none)
  (hn:kvs.length=items.size) (Y:items.size<=sizeLine) (nd:(kvs.map (·.1)).Nodup)
  (G:∀(i:Nat) v U,items[i]?=some v->kvs[i]?=some U->∃b t,v=.ref b/\s.heap.IsTuple b #[.int U.1 t,U.2])
  (h:∀(M:Heap) (tk:Nat),M.DictOf (intKind prog w) s.heap.objs.size kvs->Ext s.heap M->Q (.ref s.heap.objs.size) { s with heap:=M,toks:=tk}) :
  wpAny (model prog w) A (call (.type "dict") [.ref a]) Q E s:=by
 refine callType_codes (Q₁:=λobj r=>obj=.ref s.heap.objs.size/\r={ s with heap:=s.heap.push { cls:=.type "dict",data:=.dict #[]}}) F.kt_called_dict (F.kt_typeCall_dict_1 _) F.entry_dict_init (kt_code_dict_new _ ⟨rfl,rfl⟩) ?_;rintro obj r ⟨rfl,rfl⟩;have j:(s.heap.push { cls:=.type "dict",data:=.dict #[]}).DictOf (intKind prog w) s.heap.objs.size []:=Heap.DictOf.new s.heap;refine⟨j.typeIs,F.args_dict_init_2 _ _,?_⟩;unfold Builtin.«dict.__init__»;refine b_ ?_;unfold Builtin.Dict.selfAndRest;refine b_ (wpAny_notOrdered_dict j.typeIs ?_);show wpAny _ _ (pure (s.heap.objs.size,[Value.ref a])) _ _ _;refine i3 ?_;show wpAny _ _ (Builtin.Dict.updateFrom "dict.__init__" s.heap.objs.size (.ref a) [] .none) _ _ _;unfold Builtin.Dict.updateFrom;obtain⟨H,ka,l,z,C,an⟩:=ha;have y:(s.heap.push { cls:=.type "dict",data:=.dict #[]}).get? a=some H:=mz _ l;have I:A.in1.in1.handled=none:=by simp[hh]
 refine b_ (wpAny_typeOf (T:="tuple") ⟨H,y,z⟩ ?_);rw[d_ (by decide)];refine b_ (zm y z C an I λu X e hx=>?_);rw[d_ (by rfl)];have R:Ext s.heap u:=λb o eb=>hx.keeps b o (mz _ eb);have L:u.DictOf (intKind prog w) s.heap.objs.size []:=jv j λo eo=>hx.keeps _ o eo;have B:u.IsTuple a items:=⟨H,R a H l,z,ka,C⟩;refine b_ (wpAny_rule (b_ (wpAny_pyIter_tuple (s:={ s with heap:=u,toks:=X}) B ?_)));have J:s.heap.objs.size<u.objs.size:=by
  obtain⟨o,_,_,ho,_⟩:=L;exact n9 ho
 have ai:a<u.objs.size:=n9 (R a H l);have has:a<s.heap.objs.size:=n9 l;have f:∀b,s.heap.objs.size<=b->s.heap.get? b=none:=λb hb=>by
  cases e:s.heap.get? b with
  | none=>rfl
  | some o=>exact absurd (n9 e) (Nat.not_lt.mpr hb)
 refine i3 ⟨plainId_quiet gD _,?_⟩
 refine MF (A:=A.in1) (H0:=s.heap) ((Walks.tuple (A:=A.in1.in1) I u.objs.size a (s_ ai) items).toS) s.heap.objs.size (by simp only[ml,Ef,or_false,not_or];exact⟨s_ J,Cy has⟩) (f _ (j_ _)) (λb hb=>by
   have:b=u.objs.size:=by simpa using hb
   rw[this];exact f _ (Dm J)) kvs hn Y nd G items.size 0 _ 0 0 (by lia) (Cz _) ⟨⟨_,wy _ rfl,rfl,rfl⟩,B.push _⟩ (λb o e=>mz _ (R b o e)) (jv L λo e=>mz _ e) ?_
 intro s' Z O al;obtain⟨M,g',d',S,P⟩:=s';have eg:g'=s.gens:=Z.gens;have ed:d'=s.drawn:=Z.drawn;have eo:P=s.os:=Z.os;subst eg;subst ed;subst eo;exact⟨rfl,h M S al O⟩
end
end DcT
namespace MM
open PySem.Spec PyProof.Rows L2 DcT
section
variable {X:Cx} {N W G:List Str} {k:Nat}
local instance inhPV:Inhabited PV:=⟨.non⟩
def iN:List PV->Option (List (Int × PV))
 | []=>some []
 | .tup [.int k,v]::r=>(iN r).map ((k,v)::·)
 | _=>none
def MK(x:PV):Option (List (Int × PV)):=match x with
 | .tup ps=>(match iN ps with
  | some a=>if (a.map (·.1)).Nodup then some a else none
  | none=>none)
 | _=>none
def ya{K:hR}{U:List Addr}{H:Hp}:∀{xs:List PV} {ys:List V} {y:List Value} {a:List (Int × PV)},RPs K U H xs ys->aJ ys y->iN xs=some a ->
  xs.length=a.length/\∀(i:Nat) u f,y[i]?=some u->a[i]?=some f->∃b w,u=.ref b/\SqT K H b [.int f.1,w]/\RP K U H f.2 w:=by
 intro xs
 induction xs with
 | nil =>
  intro ys y a r v e;cases r;cases v;cases e;exact⟨rfl,λi u f h=>by simp at h⟩
 | cons x xs L =>
  intro ys y a r v e
  cases r with
  | cons O I =>
   cases v with
   | cons C M =>
    unfold iN at e
    split at e
    .rename_i h;cases h
    .rename_i P R Q h
     injection h with j l
     subst j l;rw[Bv] at e;obtain⟨z,e1,rfl⟩:=e;obtain⟨B,hv⟩:=L I M e1;refine⟨by simp[B],λi u f j l=>?_⟩
     cases i with
     | zero =>
      simp at j l;subst j l
      cases O with
      | tup sq rp =>
       cases rp with
       | cons q1 J=>cases J with
        | cons E F =>
         cases F;cases q1;exact⟨_,_,C,sq,E⟩
     | succ i =>
      simp at j l;exact hv i u f j l
    .cases e
def kA(K:hR)(x:Str)(i j:Int):Prop:=∃(a:Addr) (t l:Tok) (n:Nat) (f:Array (Option Value)),PySem.W.nsIn K mainGlobals x=some (some (.ref a))/\K.lookup a=some ⟨.type "tuple",none,.seq #[.int i t,.int j l] n,f⟩
def nN(K:hR)(mg:DL)(x:Str)(i j:Int):Prop:=∃(a:Addr) (t l:Tok) (n:Nat) (f:Array (Option Value)),mg x=some (.ref a)/\K.lookup a=some ⟨.type "tuple",none,.seq #[.int i t,.int j l] n,f⟩
def wj{K:hR}{x:Str}{i j:Int}{a:Addr}{t r:Tok}{n:Nat}{f:Array (Option Value)}(h:PySem.W.nsIn K mainGlobals x=some (some (.ref a)))(l:K.lookup a=some ⟨.type "tuple",none,.seq #[.int i t,.int j r] n,f⟩):kA K x i j:=⟨a,t,r,n,f,h,l⟩
def kA.mg{K:hR}{mg:DL}{base:Heap}{x:Str}{i j:Int}(z:kA K x i j)(kin:K.In base)(ns:base.Ns mainGlobals mg):nN K mg x i j:=by
 obtain⟨a,t,r,n,f,h,l⟩:=z;exact⟨a,t,r,n,f,PySem.W.mg_of kin ns h,l⟩
def IL(g:Good X N W G k){x:Str}{q:Nat}{i j:Int}{f:Pos}(r:G[q]?=some x)(l:nN X.K X.mg x i j):ME X (.Name x f) (mC (.tup [.int i,.int j])):=by
 obtain⟨a,t,B,n,C,l,u⟩:=l;have d:=g.dbg x (z4 _ (bo r));exact PE.imp (Eu (v:=.ref a) (g.gl x (bo r)) l rfl d.1) λZ H Q ⟨U,y,h,E,z,q⟩=>q U H _ (Le.refl _ _) z (.tup (ys:=[.int i,.int j]) (.inr ⟨_,_,n,u,rfl,⟨rfl,rfl⟩,by show 2<=sizeLine;decide,.cons ⟨t,rfl⟩ (.cons ⟨B,rfl⟩ .nil)⟩) (.cons (.int _) (.cons (.int _) .nil)))
end
end MM
namespace L2
open PySem.Spec PyProof.Rows
section
variable {X:Cx} {e st:Expr} {te:TE} {hi:Option Expr} {th ts:TO} {pos p2:Pos}
end
end L2
namespace MM
open PySem.Spec PyProof.Rows L2
section
variable {X:Cx} {pos p2:Pos}
end
section
variable {X:Cx} {k:Nat}
end
end MM
namespace MM
open PySem.Spec PyProof.Rows L2 SetT SortT
section
variable {X:Cx} {N W G:List Str} {k:Nat}
end
end MM
namespace L2
open PySem.Spec PyProof.Rows
section
variable {X:Cx} {a:Expr} {ta:TE} {pos:Pos}
end
end L2
namespace MM
open PySem.Spec PyProof.Rows L2
section
variable {X:Cx} {pos:Pos}
end
section
variable {X:Cx}
end
end MM
namespace MM
open PySem.Spec PyProof.Rows L2 DcT
def E_(a:List (p6 × V))(k:p6):Option V:=(a.find? λf=>decide (f.1=k)).map (·.2)
def KV.val{a:List (p6 × V)}{f:List (p6 × Value)}(r:KV a f)(k:p6):gZ (E_ a k) (valueAt f k):=by
 unfold KV at r
 induction r with
 | nil=>exact True.intro
 | @cons p q ps u h t l =>
  obtain⟨i,j⟩:=h;unfold E_ valueAt at *;rw[Lo,Lo,<-i];by_cases e:p.1=k
  .simp only[e,decide_true];exact j
  .simp only[e,decide_false];exact l
def lW{a:List (p6 × V)}{f:List (p6 × Value)}(r:KV a f):a.length=f.length:=by
 unfold KV at r
 induction r with
 | nil=>rfl
 | cons h t i=>simp[i]
def IM{f:List (p6 × V)}{j:List (p6 × Value)}{i:Nat}{p:p6 × Value}(r:KV f j)(e:j[i]?=some p):∃v,f[i]?=some (p.1,v)/\aS v p.2:=by
 unfold KV at r
 induction r generalizing i with
 | nil=>simp at e
 | @cons a b ps u h t l =>
  cases i with
  | zero=>simp at e;subst e;exact⟨a.2,by simp[<-h.1],h.2⟩
  | succ i=>simp at e;simpa using l e
def p7(a:List Int)(xs:List α)(i:Int):Option α:=match a,xs with
 | k::a,x::xs=>if k=i then some x else p7 a xs i
 | _,_=>none
def jn(a:List Int)(xs:List α)(i:Int)(v:α):List Int × List α:=match a,xs with
 | k::a,x::xs=>if k=i then (k::a,v::xs) else (k::(jn a xs i v).1,x::(jn a xs i v).2)
 | _,_=>([i],[v])
def Ce{a:List Int}{xs:List α}{i:Int}{v:α}(h:xs.length=a.length):(jn a xs i v).2.length=(jn a xs i v).1.length/\(jn a xs i v).1.length<=a.length+1:=by
 induction a generalizing xs with
 | nil=>simp[jn]
 | cons k a f =>
  cases xs with
  | nil=>simp at h
  | cons x xs =>
   simp at h;unfold jn;split
   .simp[h]
   .have:=f h
    simp only[pk];lia
def uD{a:List Int}{ys:List V}{i:Int}(h:ys.length=a.length):E_ (kz a ys) (.inl i)=p7 a ys i:=by
 induction a generalizing ys with
 | nil=>cases ys <;> rfl
 | cons k a f =>
  cases ys with
  | nil=>simp at h
  | cons y ys =>
   have:=f (ys:=ys) (by simpa using h)
   unfold kz E_ at *;rw[m3,KL,Lo,p7];by_cases e:k=i
   .simp[e]
   .simp only[show ¬(Sum.inl k:p6)=.inl i from λz=>e (by cases z;rfl),decide_false,g_ e];exact this
def fE{a:List (p6 × Value)}{i:p6}:a.any (λf=>decide (f.1=i))=true↔i∈a.map Prod.fst:=by
 rw[List.any_eq_true,mu];exact⟨λ⟨x,h,e⟩=>⟨x,h,by simpa using e⟩,λ⟨x,h,e⟩=>⟨x,h,by simpa using e⟩⟩
def IN{f:List Int}{ys:List V}{B:List (p6 × Value)}{i:Int}{y:V}{u:Value}(h:ys.length=f.length)(nd:(B.map (·.1)).Nodup)(r:KV (kz f ys) B)(E:aS y u) :
  KV (kz (jn f ys i y).1 (jn f ys i y).2) (stored B (.inl i) u):=by
 induction f generalizing ys B with
 | nil =>
  have:B=[]:=by
   unfold KV at r;cases ys <;> cases r <;> rfl
  subst this;exact .cons ⟨rfl,E⟩ .nil
 | cons k f j =>
  cases ys with
  | nil=>simp at h
  | cons z ys =>
   have H:ys.length=f.length:=by simpa using h
   unfold KV at r
   cases r with
   | @cons _ q _ l F t =>
    obtain⟨q1,I⟩:=q;obtain⟨e1,e2⟩:=F;cases e1;rw[m3,CU] at nd;have j:=j H nd.2 t;unfold stored at *;unfold jn;by_cases e:k=i
    .subst e;rw[d_ rfl,d_ (fE.mpr (by simp))];refine .cons ⟨by simp,by simp[E]⟩ ?_
     have:(l.map λa=>if a.1=(Sum.inl k:p6) then (a.1,u) else a)=l:=by
      conv=>rhs;rw[<-OR l]
      refine B_ λx G=>?_;rw[g_]
      .rfl
      .intro z;exact nd.1 (mu.mpr ⟨x,G,z⟩)
     show KV _ (l.map λa=>if a.1=(Sum.inl k:p6) then (a.1,u) else a);rw[this];exact t
    .have C:¬(Sum.inl k:p6)=.inl i:=λz=>e (by cases z;rfl);rw[g_ e];by_cases m:(Sum.inl i:p6)∈l.map Prod.fst
     .rw[d_ (fE.mpr m)] at j;rw[d_ (fE.mpr (m1 _ m))];exact .cons ⟨by simp[C],by simp[C,e2]⟩ j
     .rw[g_ (λz=>m (fE.mp z))] at j;rw[g_ (λz=>(ml.mp (fE.mp z)).elim (λz=>C z.symm) m)];exact .cons ⟨rfl,e2⟩ j
section
variable {K:hR} {U:List Addr} {H:Hp}
def qd{ks:List Int}{xs:List PV}{ys:List V}(r:RPs K U H xs ys)(i:Int):match p7 ks xs i with
  | some x=>∃y,p7 ks ys i=some y/\RP K U H x y
  | none=>p7 ks ys i=none:=by
 induction ks generalizing xs ys with
 | nil=>cases xs <;> cases ys <;> rfl
 | cons k ks f =>
  cases r with
  | nil=>rfl
  | cons a t =>
   unfold p7;by_cases e:k=i
   .simp only[d_ e];exact⟨_,rfl,a⟩
   .simp only[g_ e];exact f t
def BX{ks:List Int}{xs:List PV}{ys:List V}{v:PV}{y:V}(r:RPs K U H xs ys)(q:RP K U H v y)(i:Int):(jn ks xs i v).1=(jn ks ys i y).1/\RPs K U H (jn ks xs i v).2 (jn ks ys i y).2:=by
 induction ks generalizing xs ys with
 | nil=>exact⟨by simp[jn],by simpa [jn] using .cons q .nil⟩
 | cons k ks l =>
  cases r with
  | nil=>exact⟨rfl,.cons q .nil⟩
  | cons a t =>
   unfold jn;by_cases e:k=i
   .simp only[d_ e];exact⟨trivial,.cons q t⟩
   .simp only[g_ e];obtain⟨j,f⟩:=l t;exact⟨by rw[j],.cons a f⟩
end
def cf(h:MH)(y:PV):Option (Bool × List Int × List PV):=match y with
 | .loc n=>(match h[n]? with
  | some (.dic fz a xs)=>some (fz,a,xs)
  | _=>none)
 | _=>none
def gf{X:Cx}{U:List Addr}{H:Hp}{h:MH}{x:PV}{y:V}{fz:Bool}{i:List Int}{xs:List PV}(u:RH X.K X.mg U H h)(r:RP X.K U H x y)(e:cf h x=some (fz,i,xs)) :
  ∃n a ys,x=.loc n/\U[n]?=some a/\y=.ref a/\h[n]?=some (.dic fz i xs)/\ys.length=i.length/\RPs X.K U H xs ys/\dO fz (H a) (.dK (kz i ys)):=by
 cases r with
 | @loc n a j =>
  obtain⟨o,eo,l⟩:=u.obj j;unfold cf at e;dsimp only at e;rw[eo] at e
  cases o with
  | dic f k z =>
   cases e;obtain⟨ys,e1,e2,e3⟩:=l;exact⟨n,a,ys,rfl,j,rfl,eo,e1,e2,e3⟩
  | _=>cases e
 | _=>cases e
def rN(a:Bool)(x y:PV)(h:MH):Out PV:=match x,cf h y with
 | .int i,some (_,f,xs)=>.ok (.bl (if a then !(p7 f xs i).isSome else (p7 f xs i).isSome)) h
 | _,_=>.bad
def mL(x y:PV)(h:MH):Out PV:=match y,cf h x with
 | .int i,some (_,a,xs)=>Out.ofO (p7 a xs i) h
 | _,_=>.bad
section
variable {X:Cx} {N W G:List Str} {k:Nat}
def Bg{K:hR}{U:List Addr}{H:Hp}{f:List Int}{xs:List PV}{ys:List V}{l:List (p6 × Value)}{i:Int}(z:ys.length=f.length)(r:RPs K U H xs ys)(j:KV (kz f ys) l):(p7 f xs i).isSome=(valueAt l (.inl i)).isSome:=by
 have a:=KV.val j (.inl i);rw[uD z] at a;have b:=qd (ks:=f) r i
 cases e:p7 f xs i with
 | none =>
  rw[e] at b;dsimp only at b;rw[b] at a;rw[gZ.none_of a];rfl
 | some x =>
  rw[e] at b;obtain⟨y,e1,_⟩:=b;rw[e1] at a;obtain⟨u,e2,_⟩:=gZ.some_of a;rw[e2];rfl
def IQ(f:Bool):Cm X (compareOp (if f then .NotIn else .In)) (rN f):=by
 intro T s Z H Y O u v Q I j B ⟨U,h,x,y,C,J,F,q⟩;unfold rN at q
 split at q
 .rename_i i fz P xs M
  obtain⟨n,a,ys,rfl,R,rfl,eo,L,r,d⟩:=gf C F M;cases J;obtain⟨t,rfl⟩:=j;cases B;obtain⟨z,hd,S,l,E⟩:=i7 I.hok d;have e:=Bg (i:=i) L r l
  cases f with
  | false =>
   refine wpAny_in_of (eV _ _ i t) hd E.mapOf ⟨.bl _,H,I.tok _,rfl,?_⟩;rw[<-e];exact q U H _ (Le.refl _ _) C (.bl _)
  | true =>
   refine wpAny_notIn_of (eV _ _ i t) hd E.mapOf ⟨.bl _,H,I.tok _,rfl,?_⟩;rw[<-e];exact q U H _ (Le.refl _ _) C (.bl _)
 .exact q.elim
def IR{ea b:Expr}{ma mb:Mx PV}{T:Pos}(ha:ME X ea ma)(hb:ME X b mb)(hs:∀ov R,subscripted b false ov R=operate [ov,R] (getItem ov R):=by exact λ_ _=>rfl):ME X (.Subscript ea b T) (aC mL ma mb):=by
 intro S s Z H Q I ⟨U,f,h,rs,rh,q⟩;refine Subscript_ (l_ (ha S s Z H (λx' F=>∃l M x,Le U H l F/\RH X.K X.mg l F M/\RP X.K l F x x'/\Ful X (RV' X) f l F ((mb f M).bind λy L=>(mL x y L).ne) Q) I ⟨U,f,h,rs,rh,Ful.bind q λl F x x' M _ l1 J Y q1=>⟨l,M,x,l1,J,Y,q1⟩⟩) λu s1 ⟨x',F,I1,r1,l,M,x,l1,J,Y,q1⟩=>l_ (hb S s1 Z F (λy' C=>∃E L y,Le l F E C/\RH X.K X.mg E C L/\RP X.K E C y y'/\Ful X (RV' X) f E C (mL x y L).ne Q) I1 ⟨l,f,M,rs.le l1,J,Ful.bind q1 λE C y y' L _ l2 j O B=>⟨E,L,y,l2,j,O,B⟩⟩) λR s2 ⟨y',C,I2,r2,E,L,y,l2,j,O,B⟩=>?_);unfold mL at B
 split at B
 .rename_i i fz ks xs ed
  obtain⟨n,a,ys,rfl,en,rfl,eo,hl,ai,d⟩:=gf j (Y.le l2) ed;cases O;obtain⟨t,rfl⟩:=r2;cases r1;obtain⟨z,hd,vs,an,dd⟩:=i7 I2.hok d
  cases ex:p7 ks xs i with
  | none=>rw[ex] at B;exact B.elim
  | some x =>
   rw[ex] at B;have b:=qd (ks:=ks) ai i;rw[ex] at b;obtain⟨y,e1,O⟩:=b;have ra:=KV.val an (.inl i);rw[uD hl,e1] at ra;obtain⟨w',hw,al⟩:=gZ.some_of ra;have hT:=dd.typeIs (s:=s2);unfold subscriptTail;refine b_ ?_;rw[getitemInPython_of_ne hT.not_modules];refine b_ (wpAny_specialOf hT PySem.F.slot_dict_getitem.lookup ?_);have fin:wpAny (model X.prog X.w) X.A (subscripted b false (.ref a) (.int i t)) (λr P=>wpAny (model X.prog X.w) X.A (letTemporaryGo ea (.ref a) r >>= λ_=>pure r) (EP X S Z Q) X.xe P) X.xe s2:=by
    rw[hs (.ref a) (.int i t)];exact wpAny_operating (wpAny_getItem_of (eV _ _ i t) dd.mapOf hw (b_ (wpAny_letTemporaryGo (i3 ⟨y,C,I2.tok _,al,B E C _ (Le.refl _ _) j O⟩))))
   first
    | exact i3 (b_ fin)
    | exact b_ (i3 (b_ fin))
    | exact b_ fin
 .exact B.elim
def Rq(m:Mx PV)(r:Mx (List PV)):Mx PV:=λZ h=>(m Z h).bind λx a=>match x,cf a x with
 | .loc n,some _=>(r Z a).bind λj f=>match j,cf f (.loc n) with
  | [.int i,d],some (_,l,xs)=>.ok ((p7 l xs i).getD d) f
  | _,_=>.bad
 | _,_=>.bad
def vN{u:List (Addr × Obj)}{Z:L2.St}{H:Hp}{s:Shared}{fz:Bool}{a:Addr}{i:List (p6 × V)}(I:Inv X u Z H s)(d:dO fz (H a) (.dK i)) :
  s.TypeIs (.ref a) "dict"/\(∀b,Value.ref a=.ref b->∃f,s.heap.get? b=some f/\f.dict=none)/\(a == sysModules)=false:=by
 obtain⟨_,hd,y,_,j⟩:=i7 I.hok d;refine⟨j.typeIs,λb q=>?_,hd⟩;cases q;obtain⟨f,_,_,l,r,_⟩:=j;exact⟨f,l,r.2.1⟩
def GF{o a b:Expr}{m:Mx PV}{ma:Mx (List PV)}{L f:Pos}(he:ME X o m)(ha:MA X [a,b] ma)
  (R:attributeBase o "get" X.env (eval o X.env)=eval o X.env:=by rfl)
  (al:((backTo f (starEach [a,b] X.env)).all (λx=>!x.1) && (backToKw f (keywordEach [] X.env)).all (λx=>x.1.isSome)
   && decide ([a,b].length+([]:List Keyword).length+(if ([]:List Keyword).isEmpty then 0 else 1)<30))=true:=by rfl)
  (P:(L.endLine == f.line)=true:=by rfl) (hs:starEach [a,b] X.env=(false,eval a X.env)::starEach [b] X.env:=by rfl) (C:(backTo f (starEach [b] X.env)).any (·.1)=false:=by rfl) :
  ME X (.Call (.Attribute o "get" L) [a,b] [] f) (Rq m ma):=by
 intro Mq s Z H Q I ⟨U,j,h,rs,rh,q⟩
 refine wpAny_Call_method_late R al P rfl (l_ (he Mq s Z H (λx' M=>∃E Y x,Le U H E M/\RH X.K X.mg E M Y/\RP X.K E M x x'/\Ful X (RV' X) j E M (match x,cf Y x with
 | .loc n,some _=>(ma j Y).bind λJ F=>match J,cf F (.loc n) with
  | [.int i,d],some (_,ks,xs)=>.ok ((p7 ks xs i).getD d) F
  | _,_=>.bad
 | _,_=>.bad) Q) I ⟨U,j,h,rs,rh,Ful.bind q λE M x x' Y _ l1 l rx q1=>⟨E,Y,x,l1,l,rx,q1⟩⟩) λv s1 ⟨x',M,I1,r1,E,Y,x,l1,l,rx,q1⟩=>?_)
 split at q1
 .rename_i n w ew
  obtain⟨fz,ks,xs⟩:=w;obtain⟨_,ad,ys,e0,en,rfl,eo,hl,a6,d⟩:=gf l rx ew;cases e0;cases r1;obtain⟨t1,t2,_⟩:=vN I1 d;refine⟨"dict","dict.get",PySem.F.plainAttrs_dict,PySem.F.slot_dict_get,PySem.F.type_dict_get,t1,t2,?_⟩
  have hA:=ha f Mq s1 Z M (λO r=>∃B F J,Le E M B r/\RH X.K X.mg B r F/\RPs X.K B r J O/\Ful X (RV' X) j B r (match J,cf F (.loc n) with
   | [.int i,d],some (_,ks,xs)=>.ok ((p7 ks xs i).getD d) F
   | _,_=>.bad) Q) I1 ⟨E,j,Y,rs.le l1,l,Ful.bind q1 λB r J O F _ l2 u T q2=>⟨B,F,J,l2,u,T,q2⟩⟩
  rw[hs] at hA ⊢;refine Calls.callWith_builtin (by show (false || (backTo f (starEach [b] X.env)).any (·.1))=false;rw[C] <;> rfl) (Calls.evalArgs_plain ?_);refine l_ hA λus s2 ⟨O,r,I2,r2,B,F,J,l2,u,T,q2⟩=>?_
  split at q2
  .rename_i i dd a8 S ai ap
   obtain⟨_,a7,a5,e0,a9,e1,a0,ar,an,d2⟩:=gf u (.loc (l2.get en)) ap;cases e0;cases e1
   cases T with
   | cons a1 a2=>cases a2 with
    | cons a3 a4 =>
     cases a4;cases a1
     cases r2 with
     | cons b1 b2=>cases b2 with
      | @cons _ u3 _ _ b3 b4 =>
       cases b4;obtain⟨t,rfl⟩:=b1;obtain⟨z,hd,J,as,de⟩:=i7 I2.hok d2;have ra:=KV.val as (.inl i);rw[uD ar] at ra;have rb:=qd (ks:=S) an i;have fin:∃v',aS v' ((valueAt J (.inl i)).getD u3)/\RP X.K B r ((p7 S ai i).getD dd) v':=by
        cases ex:p7 S ai i with
        | none =>
         rw[ex] at rb;dsimp only at rb;rw[rb] at ra;rw[gZ.none_of ra];exact⟨_,b3,a3⟩
        | some x =>
         rw[ex] at rb;obtain⟨y,e1,ry⟩:=rb;rw[e1] at ra;obtain⟨w',hw,ao⟩:=gZ.some_of ra;rw[hw];exact⟨y,ao,ry⟩
       obtain⟨v',ay,ax⟩:=fin;exact call_meetsIn PySem.F.slot_dict_get de.typeIs PySem.F.entry_dict_get (PySem.F.args_dict_get_3 _ _ _) (meets_dict_get_default (cX X.prog X.w) ad (eV _ _ i t) hd _) ⟨_,de.mapOf,v',r,I2.tok _,ay,q2 B r _ (Le.refl _ _) u ax⟩
  .exact q2.elim
 .exact q1.elim
def r9(mo f mv:Mx PV):n8:=y_ mv λv=>y_ mo λo=>y_ f λi Z h=>match o,i,cf h o with
 | .loc n,.int j,some (false,a,xs)=>if a.length<sizeLine then .nx Z (h.set n (.dic false (jn a xs j v).1 (jn a xs j v).2)) else .bad
 | _,_,_=>.bad
def Fa{o i y:Expr}{mo mi mv:Mx PV}{Q M:Pos}(ho:ME X o mo)(hi:ME X i mi)(hv:ME X y mv)(hs:swapsWith y (some (.Subscript o i M)) Q.line X.env=pure false:=by rfl) :
  MS X (.Assign [.Subscript o i M] y Q) (r9 mo mi mv):=by
 intro T s Z H D I ⟨U,f,h,rs,rh,q⟩;unfold r9 at q
 have kk:tM X (RV' X) mv Z H (λB H1=>tM X (RV' X) mo Z H1 λo' Y=>tM X (RV' X) mi Z Y λi' C=>∃E F v o i,RH X.K X.mg E C F/\RS X.K E C f Z/\RP X.K E C v B/\RP X.K E C o o'/\RP X.K E C i i'/\bG X E C (match o,i,cf F o with
  | .loc n,.int j,some (false,l,xs)=>if l.length<sizeLine then .nx f (F.set n (.dic false (jn l xs j v).1 (jn l xs j v).2)) else .bad
  | _,_,_=>.bad) D):=by
  refine⟨U,f,h,rs,rh,?_⟩;unfold y_ at q
  cases e:mv f h with
  | exc x h1=>rw[e] at q;exact q
  | bad=>rw[e] at q;exact q
  | ok v h1 =>
   rw[e] at q;intro U1 H1 B L ai rv;dsimp only at q;refine⟨U1,f,h1,rs.le L,ai,?_⟩
   cases e2:mo f h1 with
   | exc x h2=>rw[e2] at q;exact XP.le (X:=X) (σp:=f) (x:=x) (h:=h2) L q
   | bad=>rw[e2] at q;exact q
   | ok ov h2 =>
    rw[e2] at q;intro U2 Y o' P an ro;dsimp only at q;refine⟨U2,f,h2,(rs.le L).le P,an,?_⟩
    cases e3:mi f h2 with
    | exc x F=>rw[e3] at q;exact XP.le (X:=X) (σp:=f) (x:=x) (h:=F) P (XP.le (X:=X) (σp:=f) (x:=x) (h:=F) L q)
    | bad=>rw[e3] at q;exact q
    | ok iv F =>
     rw[e3] at q;intro E C i' l3 J ri;exact⟨E,F,v,ov,iv,J,((rs.le L).le P).le l3,(rv.le P).le l3,ro.le l3,ri,bG.le l3 (bG.le P (bG.le L q))⟩
 refine wpAny_Assign_Subscript (l_ (hv T s Z H _ I kk) λr s1 ⟨B,H1,I1,rv,q1⟩=>l_ (ho T s1 Z H1 _ I1 q1) λu s2 ⟨o',Y,I2,ru,q2⟩=>l_ (hi T s2 Z Y _ I2 q2) λiv s3 ⟨i',C,I3,ri,E,F,v,ov,i,J,ap,pv,po,pi,O⟩=>?_) hs
 split at O
 .rename_i n j l xs ed
  obtain⟨_,a,ys,e0,en,rfl,eo,hl,ao,d⟩:=gf J po ed;cases e0;cases pi;obtain⟨t,rfl⟩:=ri;cases ru;by_cases hz:l.length<sizeLine
  .rw[d_ hz] at O;have d':C a=some (.dK (kz l ys)):=d;obtain⟨z,hd,vs,S,dd⟩:=i7 I3.hok d;obtain⟨p1,p2⟩:=BX (ks:=l) ao pv j;obtain⟨L,P⟩:=Ce (i:=j) (v:=B) hl;have nd:(vs.map (·.1)).Nodup:=by obtain⟨_,_,_,_,_,_,_,_,nd⟩:=dd;exact nd
   have ar:(kz (jn l ys j B).1 (jn l ys j B).2).length<=sizeLine:=by
    unfold kz;rw[Hi,oI];lia
   refine wpAny_setItem_pairs (hsz:=by rw[<-lW S];exact z) (eV _ _ j t) dd λh' R al=>?_;have he:∃q,h'.get? a=some q:=let ⟨q,_,_,hq,_⟩:=R;⟨q,hq⟩;have I4:Inv X T Z (m_ C a (.dK (kz (jn l ys j B).1 (jn l ys j B).2))) { s3 with heap:=h',toks:=s3.toks+1} :=
    I3.write (x:=a) (e:=a) (by rw[d'];exact True.intro) (.inl rfl) (λb q hb z=>(al.2 b hb).trans z) he ⟨ar,hd,_,IN hl nd S rv,R⟩
   obtain⟨as,l4⟩:=J.put en (o:=.dic false (jn l xs j v).1 (jn l xs j v).2) (ho:=.dK (kz (jn l ys j B).1 (jn l ys j B).2)) ⟨(jn l ys j B).2,by rw[p1];exact L,p2,by rw[p1];rfl⟩;exact⟨Z,_,I4,O E _ Z l4 as (ap.le l4)⟩
  .rw[g_ hz] at O;exact O.elim
 .exact O.elim
def BC(a:List PV)(h:MH):Out PV:=match a with
 | [x]=>(match cf h x with
  | some (_,f,_)=>ql (f.map .int) h
  | none=>.bad)
 | _=>.bad
def yK:∀{f:List Int} {ys:List V} {j:List (p6 × Value)} {a:List Value},ys.length=f.length->KV (kz f ys) j->a.length=j.length->(∀(i:Nat) v,a[i]?=some v->∃k x,j[i]?=some (k,x)/\o7 k v=true)->aJ (f.map V.int) a:=by
 intro f
 induction f with
 | nil =>
  intro ys j a z r l h;unfold KV at r
  have:j=[]:=by cases ys <;> cases r <;> rfl
  subst this
  cases a with
  | nil=>exact .nil
  | cons _ _=>simp at l
 | cons k f H =>
  intro ys j a z r l h
  cases ys with
  | nil=>simp at z
  | cons y ys =>
   unfold KV at r
   cases r with
   | @cons _ q _ I F B =>
    cases a with
    | nil=>simp at l
    | cons u a =>
     obtain⟨E,x,e1,e2⟩:=h 0 u rfl;cases e1;have C:Sum.inl k=E:=F.1;subst C;rcases bU e2 with ⟨i,t,e3,rfl⟩|⟨_,_,e3,_⟩
     .cases e3;exact .cons ⟨t,rfl⟩ (H (by simpa using z) B (by simpa using l) λi v hv=>by simpa using h (i+1) v (by simpa using hv))
     .cases e3
def Bt(g:Good X N W G k):dw X (.type "list") BC:=by
 intro Mq s Z H xs us Q I r ⟨U,h,ps,B,rp,q⟩;unfold BC at q
 split at q
 .rename_i x
  cases rp with
  | cons r1 P =>
   cases P
   cases r with
   | cons R F =>
    cases F
    cases u:cf h x with
    | none=>rw[u] at q;exact q.elim
    | some w =>
     obtain⟨fz,l,xs⟩:=w;rw[u] at q;obtain⟨n,a,ys,rfl,en,rfl,eo,J,L,d⟩:=gf B r1 u;cases R;obtain⟨z,hd,vs,j,Y⟩:=i7 I.hok d;obtain⟨ep,T⟩:=Y.dictAt;dsimp only at q;unfold ql at q;by_cases y:(l.map PV.int).length<=sizeLine
     .rw[d_ y] at q;refine PySem.W.kdl_call (PySem.W.kdl_dict hd) (I.ok.hd g.calm) T (by rw[<-lW j];exact z) λh' tk f S kp e E=>?_;have M:aJ (l.map V.int) f.toList:=yK J j (by rw[CD];exact E.1) λi v hv=>E.2 i v (by rw[<-Ec];exact hv);obtain⟨C,O⟩:=B.new (I.hok.fresh (j_ s.heap.objs.size)) (o:=.lst (l.map .int)) (ho:=.lst (l.map V.int)) ⟨_,rfl,RPs.ints _⟩;refine⟨.ref s.heap.objs.size,_,I.laid (o:=.lst (l.map V.int)) kp (j_ _) (show ObjOk X.prog X.w _ h' _ (.lst _) from⟨by simpa using y,f.toList,S,M,by simpa using e⟩),rfl,q _ _ _ O C (.loc (by rw[<-B.len];simp))⟩
     .rw[g_ y] at q;exact q.elim
 .exact q.elim
def IT(i:Nat)(m:n8):n8:=λZ h=>match Z[i]? with
 | some (some (.loc n))=>(match h[n]? with
  | some (.dic false a xs)=>m Z (h.set n (.dic true a xs))
  | _=>.bad)
 | _=>.bad
def ML{st:List Stmt}{m:n8}(i:Nat)(Q:C1 X st m):C1 X st (IT i m):=by
 intro L s Z H D I ⟨U,u,h,J,E,q⟩;unfold IT at q
 split at q
 .rename_i n e
  split at q
  .rename_i j xs eo
   obtain⟨v',ev,M⟩:=J.2 i _ e
   cases M with
   | @loc _ a F =>
    obtain⟨ys,P,r,d⟩:=E.at' n a _ F eo;have R:H a=some (.dK (kz j ys)):=d;obtain⟨z,hd,T,l,Y⟩:=i7 I.hok d;obtain⟨f,O,ep,B,S⟩:=Y;have I2:Inv X L Z (m_ H a (.frz f (.dK (kz j ys)))) { s with heap:=s.heap,toks:=s.toks} :=
     I.write (x:=a) (e:=a) (by rw[R];exact True.intro) (.inl rfl) (λb q hb z=>z) ⟨f,B⟩ ⟨B,z,hd,T,l,f,O,ep,B,S⟩
    obtain⟨y,C⟩:=E.put F (o:=.dic true j xs) (ho:=.frz f (.dK (kz j ys))) ⟨ys,P,r,f,rfl⟩;exact Q L s Z _ D I2 ⟨U,u,_,J.le C,y,bG.le C q⟩
  .exact q.elim
 .exact q.elim
def rZ(n:Nat)(a:List PV)(h:MH):Out PV:=match a,h[n]? with
 | [.int i],some (.lst xs)=>if 0<=i/\i<2 ^ 62 then (match xs[i.toNat]? with
  | some y=>.ok y (h.set n (.lst (xs.eraseIdx i.toNat)))
  | none=>.bad) else .bad
 | _,_=>.bad
def RPs.erase{K:hR}{U:List Addr}{H:Hp}{xs:List PV}{ys:List V}(r:RPs K U H xs ys)(i:Nat):RPs K U H (xs.eraseIdx i) (ys.eraseIdx i):=by
 induction xs generalizing ys i with
 | nil=>cases r;exact .nil
 | cons x xs f =>
  cases r with
  | cons a t =>
   cases i with
   | zero=>exact t
   | succ i=>exact .cons a (f t i)
def Fb:Ei X "list.pop" (E0 X rZ):=by
 intro T s Z H x Y v R Q I J F ⟨U,h,n,a,ps,e,E,C,rp,q⟩;subst e;obtain⟨o,eo,L⟩:=C.obj E;unfold rZ at q;rw[eo] at q
 split at q
 .rename_i i xs e
  injection e with e
  subst e
  cases rp with
  | cons S O =>
   cases O;cases S;obtain⟨ys,M,u⟩:=L;by_cases B:0<=i/\i<2 ^ 62
   .rw[d_ B] at q
    cases ex:xs[i.toNat]? with
    | none=>rw[ex] at q;exact q.elim
    | some y =>
     rw[ex] at q;obtain⟨r,f,j⟩:=u.get ex;obtain⟨l,z⟩:=C.put E (o:=.lst (xs.eraseIdx i.toNat)) (ho:=.lst (ys.eraseIdx i.toNat)) ⟨_,rfl,u.erase _⟩;have P:=(tr.mp f).1;exact Bn T s Z H _ _ v R Q I J F ⟨a,ys,i,i.toNat,r,rfl,rfl,M,by lia,by lia,by simp[seqIndex?];lia,f,q U _ r z l (j.le z)⟩
   .rw[g_ B] at q;exact q.elim
 .exact q.elim
end
section
variable {X:Cx} {N W G:List Str} {k:Nat}
local instance inhPV2:Inhabited PV:=⟨.non⟩
def AB{P:Program}{w:World}{i:List DictEntry}{f:List (Int × Value)}(p:Pairs (intKind P w) i f):Pairs (cX P w) i (f.map λj=>((Sum.inl j.1:p6),j.2)):=by
 induction p with
 | nil=>exact .nil
 | cons a b _ l=>exact .cons a b l
def IU{P:Program}{w:World}{h:Heap}{a:Addr}{j:List (Int × Value)}(d:h.DictOf (intKind P w) a j):h.DictOf (cX P w) a (j.map λf=>((Sum.inl f.1:p6),f.2)):=by
 obtain⟨o,l,E,B,C,y,F,u,nd⟩:=d;refine⟨o,l,E,B,C,y,λe r=>?_,AB u,?_⟩
 .obtain⟨i,e1,e2⟩:=F e r;exact⟨.inl i,e1,e2⟩
 .rw[oF];rw[show ((λx:p6 × Value=>x.1)∘λf:Int × Value=>((Sum.inl f.1:p6),f.2))=(Sum.inl∘λf:Int × Value=>f.1) from rfl,<-oF];exact (Dv.mpr (List.Pairwise.imp (λh z=>h (by cases z;rfl)) nd))
def IV{K:hR}{U:List Addr}{H:Hp}:∀{kvs:List (Int × PV)} {vals:List (Int × Value)},kvs.length=vals.length->(∀(i:Nat) a b,kvs[i]?=some a->vals[i]?=some b->a.1=b.1/\∃v,aS v b.2/\RP K U H a.2 v) ->
  ∃ys:List V,ys.length=(kvs.map (·.1)).length/\RPs K U H (kvs.map (·.2)) ys/\KV (kz (kvs.map (·.1)) ys) (vals.map λj=>((Sum.inl j.1:p6),j.2)):=by
 intro kvs
 induction kvs with
 | nil =>
  intro vals f _
  cases vals with
  | nil=>exact⟨[],rfl,.nil,.nil⟩
  | cons _ _=>simp at f
 | cons a kvs y =>
  intro vals f h
  cases vals with
  | nil=>simp at f
  | cons b vals =>
   obtain⟨ys,e1,e2,e3⟩:=y (by simpa using f) λi a b r u=>h (i+1) a b (by simpa using r) (by simpa using u);obtain⟨e,v,l,rp⟩:=h 0 a b rfl rfl;exact⟨v::ys,by simp at e1 ⊢;exact e1,.cons rp e2,.cons ⟨congrArg Sum.inl e,l⟩ e3⟩
def CJ(f:List PV)(h:MH):Out PV:=match f with
 | [x]=>(match MK x with
  | some a=>.ok (.loc h.length) (h++[.dic false (a.map (·.1)) (a.map (·.2))])
  | none=>.bad)
 | _=>.bad
def xq(g:Good X N W G k):dY X (.type "dict") (λxs H Q=>∃U h ps f v,xs=[v]/\RH X.K X.mg U H h/\RP X.K U H (.tup ps) v/\iN ps=some f/\(f.map (·.1)).Nodup /\
   ∀l ys,H l=none->ys.length=(f.map (·.1)).length->RPs X.K U H (f.map (·.2)) ys->Q (.ref l) (m_ H l (.dK (kz (f.map (·.1)) ys)))):=by
 intro Mq s Z H xs us Q I r ⟨U,h,ps,f,v,e,rh,rp,ep,nd,q⟩;subst e;obtain⟨u,rfl,ru⟩:=r.one
 cases rp with
 | tup sq O =>
  cases ru;obtain⟨j,rv,ht,hz⟩:=I.tupleN sq;obtain⟨hl,hv⟩:=ya O rv ep;have a0:=rv.length;have a5:=O.length;have M:∀i,i<j.length->∃b t B,j[i]?=some (.ref b)/\s.heap.IsTuple b #[.int (f[i]!).1 t,B]/\∃w,aS w B/\RP X.K U H (f[i]!).2 w:=by
   intro i P;have C:i<f.length:=by lia
   obtain⟨b,w,e1,e2,e3⟩:=hv i j[i] f[i] (by simp[P]) (by simp[C]);obtain⟨ay,Y,ap,_⟩:=I.tuple e2
   cases Y with
   | cons a1 a2=>cases a2 with
    | cons a3 a4 =>
     cases a4;obtain⟨t,rfl⟩:=a1;refine⟨b,t,_,by rw[p_ P,e1],?_,w,a3,?_⟩
     .rw[getElem!_pos f i C];exact ap
     .rw[getElem!_pos f i C];exact e3
  have ai:∃y:List (Int × Value),y.length=j.length/\∀i,i<j.length->∃b t B,y[i]?=some ((f[i]!).1,B)/\j[i]?=some (.ref b)/\s.heap.IsTuple b #[.int (f[i]!).1 t,B]/\∃w,aS w B/\RP X.K U H (f[i]!).2 w:=by
   have:∀n,n<=j.length->∃y:List (Int × Value),y.length=n/\∀i,i<n->∃b t B,y[i]?=some ((f[i]!).1,B)/\j[i]?=some (.ref b)/\s.heap.IsTuple b #[.int (f[i]!).1 t,B]/\∃w,aS w B/\RP X.K U H (f[i]!).2 w:=by
    intro n
    induction n with
    | zero=>exact λ_=>⟨[],rfl,λi P=>absurd P (Nat.not_lt_zero _)⟩
    | succ n ih =>
     intro hn;obtain⟨vs,e1,e2⟩:=ih (by lia);obtain⟨b,t,B,f1,f2,f3⟩:=M n (by lia);refine⟨vs++[((f[n]!).1,B)],by simp[e1],λi P=>?_⟩;by_cases z:i<n
     .obtain⟨b,t,B,E,S⟩:=e2 i z;exact⟨b,t,B,by rw[xu (by lia)];exact E,S⟩
     .have:i=n:=by lia
      subst this;exact⟨b,t,B,by rw[C5 (by lia),e1];simp,f1,f2,f3⟩
   exact this _ (j_ _)
  obtain⟨y,ar,J⟩:=ai;have L:y.map (·.1)=f.map (·.1):=by
   apply P_;intro i;by_cases z:i<j.length
   .obtain⟨_,_,_,E,_⟩:=J i z;have C:i<f.length:=by lia
    rw[tt,tt,E,p_ C,getElem!_pos f i C];rfl
   .rw[Ed (by simp;lia),Ed (by simp;lia)]
  obtain⟨oa,T,al,⟨na,as⟩,an⟩:=ht;refine oN (a:=_) (items:=j.toArray) (kvs:=y) (I.ok.hd g.calm) ⟨oa,na,T,al,as,an⟩ (by simp[ar]) (by simp;lia) (L▸nd) (λi v kv R F=>?_) λh' tk hD hx=>?_
  .have z:i<j.length:=by
    have:=(tr.mp F).1
    lia
   obtain⟨b,t,B,E,S,g3,_⟩:=J i z;rw[E] at F;cases F
   have:v=.ref b:=by
    have e:j.toArray[i]?=j[i]?:=by simp
    rw[e,S] at R;exact (Option.some.inj R).symm
   exact⟨b,t,this,g3⟩
  .have hn:H s.heap.objs.size=none:=I.hok.fresh (j_ _);have ax:=Inv.bigM I;obtain⟨ys,y1,y2,y3⟩:=IV (K:=X.K) (U:=U) (H:=H) (kvs:=f) (vals:=y) (by lia) λi a b R F=>by
    have z:i<j.length:=by
     have:=(tr.mp F).1
     lia
    obtain⟨b',t,B,E,S,g3,w,g4,g5⟩:=J i z;rw[E] at F;cases F;have C:i<f.length:=by lia
    rw[p_ C] at R;cases R;rw[getElem!_pos f i C] at g5 ⊢;exact⟨rfl,w,g4,g5⟩
   have ao:(kz (f.map (·.1)) ys).length<=sizeLine:=by
    unfold kz;rw[Hi,oI,oI];lia
   exact⟨.ref s.heap.objs.size,_,I.laid (o:=.dK (kz (f.map (·.1)) ys)) hx (j_ _) ⟨ao,beq_eq_false_iff_ne.mpr (Cy ax),_,y3,IU hD⟩,rfl,q _ ys hn y1 y2⟩
 | _=>cases ep
def wC(g:Good X N W G k):dw X (.type "dict") CJ:=by
 intro M s Z H xs F Q I r ⟨U,h,ps,j,rp,q⟩;unfold CJ at q
 split at q
 .rename_i x
  cases rp with
  | cons O C =>
   cases C
   cases a:MK x with
   | none=>rw[a] at q;exact q.elim
   | some f =>
    rw[a] at q;unfold MK at a
    split at a
    .rename_i ps
     split at a
     .rename_i u L
      split at a
      .rename_i nd
       cases a;refine xq g M s Z H _ F Q I r ⟨U,h,ps,f,_,rfl,j,O,L,nd,λl ys z E J=>?_⟩;have B:RO X.K X.mg U H l (.dic false (f.map Prod.fst) (f.map Prod.snd)) (some (.dK (kz (f.map Prod.fst) ys))):=⟨ys,E,J,rfl⟩;obtain⟨i,y⟩:=j.new z B;exact q _ _ _ y i (.loc (by rw[<-j.len];simp))
      .cases a
     .cases a
    .cases a
 .exact q.elim
def Ue(a:Addr)(o:Obj)(f:List Int)(ys:List V):It :=
 ⟨λi H=>H a=some (.frz o (.dK (kz f ys)))/\i<f.length,λi H x j=>∃p k y,H p=none/\x=.ref p/\j=m_ H p (.tup [.int k,y])/\f[i]?=some k/\ys[i]?=some y,λi H=>H a=some (.frz o (.dK (kz f ys)))/\f.length<=i⟩
def GG{L:List (Addr × Obj)}{Z:L2.St}{H:Hp}{s:Shared}{a:Addr}{o:Obj}{f:List (p6 × V)}{B:Nat}{r:Array DictEntry}(I:Inv X L Z H s)(u:o.data=.dict r B)(e:H a=some (.frz o (.dK f))) :
  s.heap.get? a=some o/\∃i,KV f i/\s.heap.DictAt (cX X.prog X.w) a i B:=by
 obtain⟨l,_,_,i,j,M,C,E,y,J,z,F⟩:=(show ObjOk X.prog X.w H s.heap a (.frz o (.dK f)) from I.hok a _ e);rw[l] at y;cases y;rw[u] at z;cases z;exact⟨l,i,j,o,r,l,J,u,F⟩
def sw{a:List Int}{ys:List V}(f:ys.length=a.length):(kz a ys).length=a.length:=by unfold kz;rw[Hi,oI];lia
def xm{P:Program}{w:World}{K:hR}{M:List Expr}{x1:Nat}{ai:Pos}(a u:Addr)(o:Obj){es:Array DictEntry}{ep:Nat}{f:List Int}{ys:List V}(hl:ys.length=f.length)(L:o.data=.dict es ep)(ax:a≠u) :
  Db P w K (.Tuple M x1 ai) (Ue a o f ys) [u] u (λi h=>∃ok C,IsItemIter h u a i f.length ep ok C) where
 mem:=by simp
 obj:=λi h st b J=>by
  obtain⟨ok,C,l⟩:=st
  have:b=u:=by simpa using J
  subst this;exact⟨_,l,λv z=>nomatch z⟩
 keep:=λi h h' st k=>let ⟨ok,C,l⟩:=st;⟨ok,C,k u (by simp) _ l⟩
 item:=by
  intro X hP hw hK hc i Mq s Z H E I hf st hg;subst hP hw hK;obtain⟨ok,C,l⟩:=st;obtain⟨hH,Y⟩:=hg;obtain⟨ho,R,B,da⟩:=GG I L hH;have r:R.length=f.length:=by rw[<-lW B,sw hl]
  obtain⟨⟨k,x⟩,U⟩:∃p,R[i]?=some p:=⟨R[i],by simp[r,Y]⟩;obtain⟨v,hv,rv⟩:=IM B U;have hk:f[i]?=some f[i]:=by simp[Y]
  have hy:ys[i]?=some (ys[i]'(by lia)):=by simp
  have ao:(kz f ys)[i]?=some (.inl f[i],ys[i]'(by lia)):=by
   unfold kz;rw[SU];exact⟨by simp[Y],hy⟩
  rw[ao] at hv;cases hv;rw[<-r] at l;refine wpAny_pyNext_items_item l da U λkey h1 O an hT as ap=>⟨_,rfl,?_⟩;rcases bU (k:=Sum.inl f[i]) (v:=key) O with ⟨j,t,e3,rfl⟩|⟨_,_,e3,_⟩
  .cases e3;refine wpAny_letOwnedTupleGo_items (s:={ s with heap:=h1}) an λh2 F y=>?_;replace y:Heap.SameBut u h1 h2:=y;have S:u<s.heap.objs.size:=n9 l;obtain⟨I2,ar,al⟩:=qb (t':=s.toks) (h':=h2) I (ch:=[u]) (ys:=[.int f[i],ys[i]'(by lia)]) (its:=[.int f[i] t,x]) hf (.cons ⟨t,rfl⟩ (.cons rv .nil)) (by rw[sizeLine_eq];show 2<=_;decide)
    (by simp only[ml,Ef,or_false];exact Cy S)
    ((y.2 _ (Cy S)).trans hT)
    (λb o J q=>by
     have T:b≠u:=λz=>J (by simp[z])
     exact (y.2 b T).trans (ap b o T q))
   rw[r] at F;exact⟨.ref s.heap.objs.size,_,I2,rfl,⟨_,_,_,al,rfl,rfl,hk,hy⟩,⟨_,_,F⟩,ar⟩
  .cases e3
 done:=by
  intro X hP hw hK hc i Mq s Z H E I hf st hg;subst hP hw hK;obtain⟨ok,C,l⟩:=st;obtain⟨hH,Y⟩:=hg;obtain⟨ho,R,B,da⟩:=GG I L hH;have r:R.length=f.length:=by rw[<-lW B,sw hl]
  rw[<-r] at l;exact wpAny_pyNext_items_end (I.ok.hd hc) l da (by simp;lia) λh' U=>⟨rfl,ii (t':=s.toks) I hf λb o J q=>U b o (λz=>J (by simp[z])) q⟩
 self:=λA i s Q E st h=>let ⟨ok,C,l⟩:=st;PySem.W.kcp_self l h
def MN(m:Mx PV):Mx MIt:=λZ h=>(m Z h).bind λx a=>match cf a x with
 | some (true,f,xs)=>.ok ⟨fI (f.map .int) xs,[]⟩ a
 | _=>.bad
def Cg{O:List Expr}{x1:Nat}{tp:Pos}{o:Expr}{m:Mx PV}{z y:Pos}(he:ME X o m)
  (E:attributeBase o "items" X.env (eval o X.env)=eval o X.env:=by rfl) (C:(z.endLine == y.line)=true:=by rfl) :
  MI X (.Tuple O x1 tp) (.Call (.Attribute o "items" z) [] [] y) (MN m):=by
 intro Mq s Z H R I ⟨U,al,h,rs,rh,q⟩
 refine wpAny_Call_method0_late E C (l_ (he Mq s Z H (λx' r=>∃B L x,Le U H B r/\RH X.K X.mg B r L/\RP X.K B r x x'/\Ful X (nP X) al B r (match cf L x with
 | some (true,J,xs)=>.ok ⟨fI (J.map .int) xs,[]⟩ L
 | _=>.bad) R) I ⟨U,al,h,rs,rh,Ful.bind q λB r x x' L _ l1 u rx q1=>⟨B,L,x,l1,u,rx,q1⟩⟩) λv f ⟨x',r,I1,r1,B,L,x,l1,u,rx,q1⟩=>?_)
 split at q1
 .rename_i J xs ed
  obtain⟨n,a,ys,rfl,en,rfl,eo,hl,F,d⟩:=gf u rx ed;cases r1;obtain⟨t1,t2,ai⟩:=vN I1 d;obtain⟨ob,d⟩:=d;obtain⟨P,_,_,Y,ax,a0,es,ep,h3,h4,h5,h6⟩:=(show ObjOk X.prog X.w r f.heap a (.frz ob (.dK (kz J ys))) from I1.hok a _ d);rw[P] at h3;cases h3;have dd:f.heap.DictOf (cX X.prog X.w) a Y:=⟨ob,es,ep,P,h4,h5,h6⟩;have ar:Y.length=J.length:=by rw[<-lW ax,sw hl]
  refine⟨"dict","dict.items",PySem.F.plainAttrs_dict,PySem.F.slot_dict_items,PySem.F.type_dict_items,t1,t2,Calls.callWith_builtin rfl (PySem.evalArgs_none ?_)⟩;refine call_meetsIn PySem.F.slot_dict_items dd.typeIs PySem.F.entry_dict_items (PySem.F.args_dict_items_1 _) (meets_dict_items (cX X.prog X.w) a ai) ⟨⟨Y,dd⟩,?_⟩;have da:(f.heap.push { cls:=.type "dict_items",data:=.fields #[.ref a]}).DictAt (cX X.prog X.w) a Y ep:=⟨ob,es,mz _ P,h4,h5,h6⟩;have I2:Inv X Mq Z r { f with heap:=f.heap.push { cls:=.type "dict_items",data:=.fields #[.ref a]},toks:=f.toks}:=I1.kept λb o e=>mz _ e;refine wpAny_pyIter_items ⟨_,wy _ rfl,rfl,rfl⟩ da ?_;have an:(f.heap.push { cls:=.type "dict_items",data:=.fields #[.ref a]}).objs.size=f.heap.objs.size+1:=Dl ..;have I3:Inv X Mq Z r { f with heap:=(f.heap.push { cls:=.type "dict_items",data:=.fields #[.ref a]}).push { cls:=.type "dict_itemiterator",data:=.fields #[.none,.bool false,.ref a,.int 0 0,.int Y.length 0,.int ep 0,.none,.none]},toks:=f.toks}:=I2.kept λb o e=>mz _ e;have as:a<(f.heap.push { cls:=.type "dict_items",data:=.fields #[.ref a]}).objs.size:=by rw[an];exact KP (n9 P)
  refine⟨_,_,_,_,r,rfl,I3,xm a _ ob hl h5 (s_ as),⟨_,_,by rw[<-ar];exact wy _ rfl⟩,λc hc=>?_,?_⟩
  .have:c=(f.heap.push { cls:=.type "dict_items",data:=.fields #[.ref a]}).objs.size:=by simpa using hc
   subst this;exact Inv.fpOk I2 (j_ _) (I2.hok.fresh (j_ _))
  .refine q1 B r _ (Le.refl _ _) u ?_;intro U' H' P i l ao ok;have S:=l.frz _ _ _ d;have M:=F.le l;have T:(fI (J.map PV.int) xs).length=J.length:=by rw[nU,oI,F.length];lia
   refine⟨λj=>?_,λj=>⟨S,by rw[T] at j;exact j⟩⟩;rw[T] at j;refine⟨⟨S,j⟩,λx' H3 ⟨pp,kk,y2,hp,e1,e2,e3,e4⟩=>?_⟩;subst e1;subst e2;have Q:i<xs.length:=by rw[F.length];lia
   have hx:xs[i]?=some (xs[i]'Q):=p_ Q;obtain⟨w',ew,ap⟩:=M.get hx;rw[e4] at ew;cases ew;obtain⟨ay,l3⟩:=ao.tup hp [.int kk,y2];exact⟨U',_,l3,ay,tO (by rw[tt,e3];rfl) hx,.tup (SqT.of cp) (.cons (.int _) (.cons (ap.le l3) .nil))⟩
 .exact q1.elim
end
end MM
namespace PU
open MM
def ys{α:Type}{a b:α}(h:a=b):a=b:=h
inductive D where
 | non | bl (b:Bool) | int (i:Int) | str (x:Str) | tup (xs:List D) | lst (xs:List D) | dic (fz:Bool) (ks:List Int) (ds:List D) | exc (c:Str) | pen
abbrev hB:=Int × Int × Int
abbrev aG:=List (Option D)
def ci(h:MH)(p:Nat)(s:hB):Prop:=h[p]?=some (.lst [.int s.1,.int s.2.1,.int s.2.2])
inductive Rr (P:List PV->Prop) (v:PV):Prop
 | mk (xs:List PV) (e:v=.tup xs) (r:P xs):Rr P v
inductive Tl (h:MH) (O:List Nat) (P:List PV->Prop) (v:PV):Prop
 | mk (n:Nat) (xs:List PV) (e:v=.loc n) (no:n∉O) (g:h[n]?=some (.lst xs)) (r:P xs):Tl h O P v
inductive To (h:MH) (O:List Nat) (fz:Bool) (ks:List Int) (P:List PV->Prop) (v:PV):Prop
 | mk (n:Nat) (xs:List PV) (e:v=.loc n) (no:n∉O) (g:h[n]?=some (.dic fz ks xs)) (r:P xs):To h O fz ks P v
inductive Tp (h:MH) (O:List Nat) (o:MO) (v:PV):Prop
 | mk (n:Nat) (e:v=.loc n) (no:n∉O) (g:h[n]?=some o):Tp h O o v
inductive Rs (P:PV->Prop) (Q:List PV->Prop) (vs:List PV):Prop
 | mk (x:PV) (r:List PV) (e:vs=x::r) (a:P x) (b:Q r):Rs P Q vs
mutual
def Rp(p:Nat)(h:MH)(O:List Nat):D->PV->Prop
 | .non,v=>v=.non
 | .bl b,v=>v=.bl b
 | .int i,v=>v=.int i
 | .str x,v=>v=.str x
 | .tup a,v=>Rr (Rps p h O a) v
 | .lst a,v=>Tl h O (Rps p h O a) v
 | .dic fz f a,v=>To h O fz f (Rps p h O a) v
 | .exc c,v=>Tp h O (.exc ⟨c,[]⟩) v
 | .pen,v=>v=.loc p
def Rps(p:Nat)(h:MH)(O:List Nat):List D->List PV->Prop
 | [],a=>a=[]
 | d::f,a=>Rs (Rp p h O d) (Rps p h O f) a
end
def aR{h:MH}{n:Nat}{o:MO}(e:h[n]?=some o):n<h.length:=(tr.mp e).1
structure Mv (O:List Nat) (h:MH) (O':List Nat) (h':MH):Prop where
 keep:∀n:Nat,n<h.length->n∉O->h'[n]?=h[n]?
 new:∀o∈O',o∈O\/h.length<=o
def Mv.get{O f:List Nat}{h i:MH}(s:Mv O h f i){n:Nat}{o:MO}(e:h[n]?=some o)(a:n∉O):n∉f/\i[n]?=some o:=by
 have j:=aR e;refine⟨λz=>?_,(s.keep n j a).trans e⟩;rcases s.new n z with q|q
 .exact a q
 .lia
section
variable {p:Nat} {O O':List Nat} {h h':MH}
def Rp.mv(s:Mv O h O' h')(r:Rp p h O d v):Rp p h' O' d v:=by
 refine D.rec (motive_1:=λd=>∀v,Rp p h O d v->Rp p h' O' d v) (motive_2:=λl=>∀u,Rps p h O l u->Rps p h' O' l u)
  (λ_ r=>r) (λ_ _ r=>r) (λ_ _ r=>r) (λ_ _ r=>r) (λl i _ r=>?_) (λl i _ r=>?_) (λ_ _ l i _ r=>?_) (λ_ _ r=>?_) (λ_ r=>r) (λ_ r=>r) (λ_ _ i j _ r=>?_) d v r
 .obtain⟨xs,e,r⟩:=r;exact⟨xs,e,i _ r⟩
 .obtain⟨n,xs,e,f,g,r⟩:=r;exact⟨n,xs,e,(s.get g f).1,(s.get g f).2,i _ r⟩
 .obtain⟨n,xs,e,f,g,r⟩:=r;exact⟨n,xs,e,(s.get g f).1,(s.get g f).2,i _ r⟩
 .obtain⟨n,e,f,g⟩:=r;exact⟨n,e,(s.get g f).1,(s.get g f).2⟩
 .obtain⟨x,t,e,a,b⟩:=r;exact⟨x,t,e,i _ a,j _ b⟩
def Rps.mv(s:Mv O h O' h')(r:Rps p h O f vs):Rps p h' O' f vs:=by
 induction f generalizing vs with
 | nil=>exact r
 | cons d f i=>obtain⟨x,t,e,a,b⟩:=r;exact⟨x,t,e,a.mv s,i b⟩
def Rps.length(r:Rps p h O f vs):vs.length=f.length:=by
 induction f generalizing vs with
 | nil=>rw[show vs=[] from r];rfl
 | cons d f i=>obtain⟨x,t,e,a,b⟩:=r;rw[e,pk,pk,i b]
def Rps.get{f:List D}{j:List PV}{i:Nat}{d:D}(r:Rps p h O f j)(g:f[i]?=some d):∃v,j[i]?=some v/\Rp p h O d v:=by
 induction f generalizing j i with
 | nil=>cases g
 | cons d f l =>
  obtain⟨x,t,e,a,b⟩:=r;subst e
  cases i with
  | zero=>cases g;exact⟨x,rfl,a⟩
  | succ i=>have z:=@l t i b g;exact z
def Rps.app(r:Rps p h O f vs)(s:Rps p h O es ws):Rps p h O (f++es) (vs++ws):=by
 induction f generalizing vs with
 | nil=>rw[show vs=[] from r];exact s
 | cons d f i=>obtain⟨x,t,e,a,b⟩:=r;subst e;exact⟨x,t++_,rfl,a,i b⟩
def Rps.take(n:Nat)(r:Rps p h O f vs):Rps p h O (f.take n) (vs.take n):=by
 induction f generalizing vs n with
 | nil=>rw[show vs=[] from r];cases n <;> rfl
 | cons d f i =>
  obtain⟨x,t,e,a,b⟩:=r;subst e
  cases n with
  | zero=>rfl
  | succ n=>exact⟨x,t.take n,rfl,a,i n b⟩
def Rps.drop(n:Nat)(r:Rps p h O f vs):Rps p h O (f.drop n) (vs.drop n):=by
 induction f generalizing vs n with
 | nil=>rw[show vs=[] from r];cases n <;> rfl
 | cons d f i =>
  cases n with
  | zero=>exact r
  | succ n=>obtain⟨x,t,e,a,b⟩:=r;subst e;exact i n b
def Rps.set(i:Nat)(r:Rps p h O f vs)(q:Rp p h O d v):Rps p h O (f.set i d) (vs.set i v):=by
 induction f generalizing vs i with
 | nil=>rw[show vs=[] from r];rfl
 | cons l f j =>
  obtain⟨x,t,e,a,b⟩:=r;subst e
  cases i with
  | zero=>exact⟨v,t,rfl,q,b⟩
  | succ i=>exact⟨x,t.set i v,rfl,a,j i b⟩
end
def dl:Option (List Int)->List D->D
 | none,a=>.lst a
 | some f,a=>.dic false f a
def mo:Option (List Int)->List PV->MO
 | none,xs=>.lst xs
 | some a,xs=>.dic false a xs
def fA(e:D.lst ds=dl k es):k=none/\ds=es:=by
 cases k with
 | none=>cases e;exact⟨rfl,rfl⟩
 | some _=>cases e
inductive Tq (p:Nat) (h:MH) (L:Nat) (O:List Nat) (d:D) (v:PV):Prop
 | mk (n:Nat) (k:Option (List Int)) (xs:List PV) (ds:List D) (e:d=dl k ds) (e':v=.loc n) (o:n∈O) (l:L<=n) (g:h[n]?=some (mo k xs)) (r:Rps p h O ds xs):Tq p h L O d v
def Vw(p:Nat)(h:MH)(L:Nat)(O:List Nat)(d:D)(v:PV):Prop:=Rp p h O d v\/Tq p h L O d v
def Vws(p:Nat)(h:MH)(L:Nat)(O:List Nat):List D->List PV->Prop
 | [],a=>a=[]
 | d::f,a=>Rs (Vw p h L O d) (Vws p h L O f) a
inductive MP (p:Nat) (L:Nat) (O:List Nat) (h:MH) (k:Option (List Int)) (ds:List D) (v:PV):Prop
 | mk (n:Nat) (xs:List PV) (e:v=.loc n) (l:L<=n) (g:h[n]?=some (mo k xs)) (r:Rps p h (n::O) ds xs):MP p L O h k ds v
def Frs(p:Nat)(L:Nat)(O:List Nat)(h:MH)(d:D)(v:PV):Prop:=∀k a,d=dl k a->MP p L O h k a v
structure KB (p:Nat) (h h':MH):Prop where
 len:h.length<=h'.length
 keep:∀n:Nat,n<h.length->n≠p->h'[n]?=h[n]?
def KB.refl(p:Nat)(h:MH):KB p h h:=⟨j_ _,λ_ _ _=>rfl⟩
def KB.trans(a:KB p h h1)(b:KB p h1 h2):KB p h h2 :=
 ⟨yi a.len b.len,λn f i=>(b.keep n (xv f a.len) i).trans (a.keep n f i)⟩
def KB.app(p:Nat)(h g:MH):KB p h (h++g):=⟨by simp,λn a _=>xu a⟩
def KB.mv(k:KB p h h')(f:p∈O):Mv O h O h' :=
 ⟨λn a i=>k.keep n a λz=>i (z▸f),λo j=>.inl j⟩
def ci.app{p:Nat}{h g:MH}{s:hB}(e:ci h p s):ci (h++g) p s:=by
 unfold ci at *;rw[xu (aR e)];exact e
def Vw.kb{p L:Nat}{h f:MH}{O:List Nat}{d:D}{v:PV}(k:KB p h f)(a:p∈O)(hL:p<L)(w:Vw p h L O d v):Vw p f L O d v:=by
 rcases w with r|⟨n,i,xs,l,e1,e2,u,j,g,r⟩
 .exact .inl (r.mv (k.mv a))
 .exact .inr ⟨n,i,xs,l,e1,e2,u,j,(k.keep n (aR g) (by lia)).trans g,r.mv (k.mv a)⟩
inductive PR (α:Type) where
 | ok (a:α) (s:hB)
 | exc (c:Str) (s:hB)
 | bad
def PR.bind{α β:Type}(r:PR α)(f:α->hB->PR β):PR β:=match r with
 | .ok a s=>f a s
 | .exc c s=>.exc c s
 | .bad=>.bad
@[simp] theorem Pb(a:α)(s:hB)(f:α->hB->PR β):(PR.ok a s).bind f=f a s:=rfl
@[simp] theorem Pe(c:Str)(s:hB)(f:α->hB->PR β):(PR.exc c s).bind f=.exc c s:=rfl
@[simp] theorem Pd(f:α->hB->PR β):(PR.bad:PR α).bind f=.bad:=rfl
def PR.of{α:Type}(o:Option α)(s:hB):PR α:=match o with
 | some a=>.ok a s
 | none=>.bad
@[simp] theorem Pf(a:α)(s:hB):PR.of (some a) s=.ok a s:=rfl
@[simp] theorem Pn(s:hB):PR.of (none:Option α) s=.bad:=rfl
inductive Tr {α β:Type} (p:Nat) (h:MH) (o:Out β) (a:α) (s:hB) (R:MH->α->β->Prop):Prop
 | mk (b:β) (h':MH) (e:o=.ok b h') (k:KB p h h') (n:ci h' p s) (r:R h' a b):Tr p h o a s R
inductive Tt {β:Type} (p:Nat) (h:MH) (o:Out β) (c:Str) (s:hB):Prop
 | mk (h':MH) (e:o=.exc ⟨c,[]⟩ h') (k:KB p h h') (n:ci h' p s):Tt p h o c s
def Ok{α β:Type}(p:Nat)(h:MH)(o:Out β)(r:PR α)(R:MH->α->β->Prop):Prop:=match r with
 | .ok a s=>Tr p h o a s R
 | .exc c s=>Tt p h o c s
 | .bad=>True
def Ok.bind{α β γ δ:Type}{p:Nat}{h:MH}{o:Out β}{r:PR α}{R:MH->α->β->Prop}{f:β->MH->Out δ}{g:α->hB->PR γ}{S:MH->γ->δ->Prop}(q:Ok p h o r R)
  (k:∀a b i s,KB p h i->ci i p s->R i a b->Ok p i (f b i) (g a s) S):Ok p h (o.bind f) (r.bind g) S:=by
 cases r with
 | ok a s =>
  obtain⟨b,i,rfl,kb,pn,rr⟩:=q
  have:=k a b i s kb pn rr
  rw[Out.bind_ok,Pb]
  cases e:g a s with
  | ok c z =>
   rw[e] at this;obtain⟨d,u,e2,j,l,y⟩:=this;exact⟨d,u,e2,kb.trans j,l,y⟩
  | exc c z =>
   rw[e] at this;obtain⟨u,e2,j,l⟩:=this;exact⟨u,e2,kb.trans j,l⟩
  | bad=>trivial
 | exc c s =>
  obtain⟨i,rfl,kb,pn⟩:=q;exact⟨i,rfl,kb,pn⟩
 | bad=>trivial
def Ok.imp{α β:Type}{p:Nat}{h:MH}{o:Out β}{r:PR α}{R S:MH->α->β->Prop}(q:Ok p h o r R)(k:∀f a b,KB p h f->R f a b->S f a b):Ok p h o r S:=by
 cases r with
 | ok a s=>obtain⟨b,i,e,kb,pn,rr⟩:=q;exact⟨b,i,e,kb,pn,k _ _ _ kb rr⟩
 | exc c s=>exact q
 | bad=>trivial
structure SR (p:Nat) (h:MH) (L:Nat) (O:List Nat) (ws:List Nat) (Z:oe) (env:aG):Prop where
 len:Z.length=env.length
 fz:∀i d,env[i]?=some (some d)->i∉ws->∃v,Z[i]?=some (some v)/\Rp p h O d v
 ow:∀i d,env[i]?=some (some d)->i∈ws->∃n k xs ds,d=dl k ds/\Z[i]?=some (some (.loc n))/\n∈O/\L<=n/\h[n]?=some (mo k xs)/\Rps p h O ds xs
structure Cx (p:Nat) (h:MH) (L:Nat) (B O:List Nat) (ws:List Nat) (Z:oe) (env:aG) (s:hB):Prop where
 bd:∀o∈O,o<h.length
 sub:∀o∈B,o∈O
 bb:∀o∈B,o<L
 pb:p∈B
 hL:L<=h.length
 pen:ci h p s
 sr:SR p h L O ws Z env
section
variable {p L:Nat} {h h':MH} {B O ws:List Nat} {Z:oe} {env:aG} {s s':hB}
def Cx.pO(c:Cx p h L B O ws Z env s):p∈O:=c.sub p c.pb
def Cx.pL(c:Cx p h L B O ws Z env s):p<L:=c.bb p c.pb
def SR.mv{j:List Nat}(m:Mv O h j h')(y:∀o∈O,o∈j)(u:∀n:Nat,n<h.length->L<=n->n∈O->h'[n]?=h[n]?)(r:SR p h L O ws Z env):SR p h' L j ws Z env :=
 ⟨r.len,λi d e f=>let ⟨v,e1,q⟩:=r.fz i d e f;⟨v,e1,q.mv m⟩,λi d e f=>let ⟨n,k,xs,l,e1,e2,a,b,g,q⟩:=r.ow i d e f;⟨n,k,xs,l,e1,e2,y n a,b,(u n (aR g) b a).trans g,q.mv m⟩⟩
def Cx.kb(c:Cx p h L B O ws Z env s)(k:KB p h h')(pn:ci h' p s'):Cx p h' L B O ws Z env s' :=
 ⟨λo f=>xv (c.bd o f) k.len,c.sub,c.bb,c.pb,yi c.hL k.len,pn,c.sr.mv (k.mv c.pO) (λ_ h=>h) λn a i _=>k.keep n a (by have:=c.pL;lia)⟩
def Vw.base(w:Vw p h L O d v)(sub:∀o∈B,o∈O)(bb:∀o∈B,o<L):Rp p h B d v:=by
 have m:Mv O h B h:=⟨λ_ _ _=>rfl,λo a=>.inl (sub o a)⟩;rcases w with r|⟨n,k,xs,i,rfl,rfl,_,f,g,r⟩
 .exact r.mv m
 .cases k <;> exact⟨n,xs,rfl,λz=>by have:=bb n z;lia,g,r.mv m⟩
def Vws.base(sub:∀o∈B,o∈O)(bb:∀o∈B,o<L):∀{i:List D} {f:List PV},Vws p h L O i f->Rps p h B i f
 | [],_,r=>r
 | _::_,_,⟨x,t,e,a,b⟩=>⟨x,t,e,a.base sub bb,Vws.base sub bb b⟩
def Frs.rp(f:Frs p L' O h d v)(bd:∀o∈O,o<L')(e:d=dl k ds):Rp p h O d v:=by
 obtain⟨n,xs,e1,i,g,r⟩:=f k ds e;subst e;cases k <;> exact⟨n,xs,e1,λz=>by have:=bd n z;lia,g,r.mv ⟨λ_ _ _=>rfl,λo a=>.inl (m1 _ a)⟩⟩
def Frs.le(f:Frs p L2 O h d v)(i:L1<=L2):Frs p L1 O h d v:=λk j e =>
 let ⟨n,xs,e1,a,g,r⟩:=f k j e;⟨n,xs,e1,yi i a,g,r⟩
end
abbrev Bd(h:MH)(O:List Nat):Prop:=∀o∈O,o<h.length
inductive Gv (p:Nat) (h:MH) (O:List Nat) (fr:Bool) (o:Out PV) (d:D):Prop
 | mk (v:PV) (g:MH) (e:o=.ok v (h++g)) (r:Rp p (h++g) O d v) (f:fr=true->Frs p h.length O (h++g) d v):Gv p h O fr o d
structure Py where
 m:PV->MH->Out PV
 p:D->Option D
 fr:Bool
 ok:∀{q h L O a x d},Bd h O->Vw q h L O a x->p a=some d->Gv q h O fr (m x h) d
structure BD where
 m:PV->PV->MH->Out PV
 p:D->D->Option D
 fr:Bool
 ok:∀{q h L O a x b y d},Bd h O->Vw q h L O a x->Vw q h L O b y->p a b=some d->Gv q h O fr (m x y h) d
structure Dx where
 k:List PV->MH->Out PV
 p:List D->Option D
 fr:Bool
 ok:∀{q h L O as xs d},Bd h O->Vws q h L O as xs->p as=some d->Gv q h O fr (k xs h) d
structure Fn where
 m:List PV->MH->Out PV
 p:List D->hB->PR D
 fr:Bool
 ok:∀{q h O vs ds s},Bd h O->q∈O->ci h q s->Rps q h O ds vs->Ok q h (m vs h) (p ds s) (λh' d v=>Rp q h' O d v/\(fr=true->Frs q h.length O h' d v))
mutual
def flat:D->Bool
 | .lst _ | .dic _ _ _ | .exc _ | .pen=>false
 | .tup a=>qp a
 | _=>true
def qp:List D->Bool
 | []=>true
 | d::a=>flat d && qp a
end
section
variable {p:Nat} {h h':MH} {O O':List Nat}
mutual
def Rp.flat:∀{d:D} {v:PV},PU.flat d=true->Rp p h O d v->Rp p h' O' d v
 | .non,_,_,r=>r
 | .bl _,_,_,r=>r
 | .int _,_,_,r=>r
 | .str _,_,_,r=>r
 | .tup a,_,f,⟨xs,e,r⟩=>⟨xs,e,Rps.flat (by simpa [PU.flat] using f) r⟩
 | .lst a,_,f,_=>by simp[PU.flat] at f
 | .dic _ _ _,_,f,_=>by simp[PU.flat] at f
 | .exc _,_,f,_=>by simp[PU.flat] at f
 | .pen,_,f,_=>by simp[PU.flat] at f
def Rps.flat:∀{i:List D} {j:List PV},PU.qp i=true->Rps p h O i j->Rps p h' O' i j
 | [],_,_,r=>r
 | _::_,_,f,⟨x,t,e,a,b⟩=>⟨x,t,e,Rp.flat (by simp[PU.qp] at f;exact f.1) a,Rps.flat (by simp[PU.qp] at f;exact f.2) b⟩
end
end
structure Xe (ws:List Nat) where
 m:Mx PV
 p:aG->hB->PR D
 fz:Bool
 fr:Bool
 ok:∀{q h L B O Z env s},Cx q h L B O ws Z env s->Ok q h (m Z h) (p env s) (λh' d v=>Vw q h' L O d v/\(fz=true->Rp q h' O d v)/\(fr=true->Frs q h.length O h' d v))
structure Xs (ws:List Nat) where
 m:Mx (List PV)
 p:aG->hB->PR (List D)
 fz:Bool
 ok:∀{q h L B O Z env s},Cx q h L B O ws Z env s->Ok q h (m Z h) (p env s) (λh' ds vs=>Vws q h' L O ds vs/\(fz=true->Rps q h' O ds vs))
structure Xt (ws:List Nat) where
 m:Mx Bool
 p:aG->hB->PR Bool
 ok:∀{q h L B O Z env s},Cx q h L B O ws Z env s->Ok q h (m Z h) (p env s) (λ_ a b=>a=b)
noncomputable section
variable {ws:List Nat}
def Dy{q L:Nat}{h a:MH}{O:List Nat}{o:Out PV}{d:D}{s:hB}{fr:Bool}(le:h.length<=a.length)(pn:ci a q s)(g:Gv q a O fr o d) :
  Ok q a o (.ok d s) (λi d v=>Vw q i L O d v/\(true=true->Rp q i O d v)/\(fr=true->Frs q h.length O i d v)):=by
 obtain⟨v,g,e,r,f⟩:=g;exact⟨v,a++g,e,KB.app _ _ _,pn.app,.inl r,λ_=>r,λz=>(f z).le le⟩
def ab(i:Nat):Xe ws where
 m:=az i
 p:=λenv s=>match env[i]? with
  | some (some d)=>.ok d s
  | _=>.bad
 fz:=!ws.contains i
 fr:=false
 ok {q h L B O Z env s} c:=by
  show Ok q h _ (match env[i]? with | some (some d)=>PR.ok d s | _=>.bad) _
  cases e:env[i]? with
  | none=>trivial
  | some o =>
   cases o with
   | none=>trivial
   | some d =>
    by_cases z:i∈ws
    .obtain⟨n,k,xs,j,e1,e2,a,b,g,r⟩:=c.sr.ow i d e z;exact⟨.loc n,h,by simp[az,e2],KB.refl _ _,c.pen,.inr ⟨n,k,xs,j,e1,rfl,a,b,g,r⟩,λf=>by simp[z] at f,λf=>by simp at f⟩
    .obtain⟨v,e1,r⟩:=c.sr.fz i d e z;exact⟨v,h,by simp[az,e1],KB.refl _ _,c.pen,.inl r,λ_=>r,λf=>by simp at f⟩
inductive Cn where
 | non | bl (b:Bool) | int (i:Int) | str (x:Str)
def Cn.v:Cn->PV
 | .non=>.non
 | .bl b=>.bl b
 | .int i=>.int i
 | .str x=>.str x
def Cn.d:Cn->D
 | .non=>.non
 | .bl b=>.bl b
 | .int i=>.int i
 | .str x=>.str x
def Cn.rp(c:Cn){q:Nat}{h:MH}{O:List Nat}:Rp q h O c.d c.v:=by cases c <;> rfl
def xC(k:Cn):Xe ws where
 m:=mC k.v
 p:=λ_ s=>.ok k.d s
 fz:=true
 fr:=true
 ok {q h L B O Z env s} c:=⟨k.v,h,rfl,KB.refl _ _,c.pen,.inl k.rp,λ_=>k.rp,λ_ a f e=>by cases k <;> cases a <;> cases e⟩
def ac(o:BD)(a b:Xe ws):Xe ws where
 m:=aC o.m a.m b.m
 p:=λenv s=>(a.p env s).bind λx z=>(b.p env z).bind λy C=>.of (o.p x y) C
 fz:=true
 fr:=o.fr
 ok {q h L B O Z env s} c:=by
  refine (a.ok c).bind λx v I z i E ⟨G,_,_⟩=>?_;refine (b.ok (c.kb i E)).bind λy w J C j l ⟨F,_,_⟩=>?_
  cases e:o.p x y with
  | none=>trivial
  | some d =>
   have H:=(c.kb i E).kb j l;obtain⟨u,g,e1,r,f⟩:=o.ok H.bd (G.kb j c.pO c.pL) F e;exact Dy (yi i.len j.len) l ⟨u,g,by rw[e1];rfl,r,f⟩
def BV(o:Py)(a:Xe ws):Xe ws where
 m:=O3 o.m a.m
 p:=λenv s=>(a.p env s).bind λx j=>.of (o.p x) j
 fz:=true
 fr:=o.fr
 ok {q h L B O Z env s} c:=by
  refine (a.ok c).bind λx v z j i l ⟨y,_,_⟩=>?_
  cases e:o.p x with
  | none=>trivial
  | some d =>
   obtain⟨u,g,e1,r,f⟩:=o.ok (c.kb i l).bd y e;exact Dy i.len l ⟨u,g,by rw[e1];rfl,r,f⟩
def a_:Xs ws where
 m:=h_
 p:=λ_ s=>.ok [] s
 fz:=true
 ok {q h L B O Z env s} c:=⟨[],h,rfl,KB.refl _ _,c.pen,rfl,λ_=>rfl⟩
def aa(a:Xe ws)(r:Xs ws):Xs ws where
 m:=aw a.m r.m
 p:=λenv s=>(a.p env s).bind λx j=>(r.p env j).bind λy l=>.ok (x::y) l
 fz:=a.fz && r.fz
 ok {q h L B O Z env s} c:=by
  refine (a.ok c).bind λx v I j u G ⟨C,z1,_⟩=>?_;refine (r.ok (c.kb u G)).bind λy w F l i E ⟨z,H⟩=>?_;refine⟨v::w,F,rfl,KB.refl _ _,E,⟨v,w,rfl,C.kb i c.pO c.pL,z⟩,λf=>?_⟩;rw[Gk] at f;exact⟨v,w,rfl,(z1 f.1).mv (i.mv c.pO),H f.2⟩
def n_(o:Dx)(a:Xs ws):Xe ws where
 m:=λZ h=>(a.m Z h).bind o.k
 p:=λenv s=>(a.p env s).bind λx j=>.of (o.p x) j
 fz:=true
 fr:=o.fr
 ok {q h L B O Z env s} c:=by
  refine (a.ok c).bind λx v r j f i ⟨l,_⟩=>?_
  cases e:o.p x with
  | none=>trivial
  | some d=>exact Dy f.len i (o.ok (c.kb f i).bd l e)
def aj(f:Fn)(a:Xs ws)(u:a.fz=true:=by exact ys rfl):Xe ws where
 m:=cz f.m a.m
 p:=λenv s=>(a.p env s).bind f.p
 fz:=true
 fr:=f.fr
 ok {q h L B O Z env s} c:=by
  refine (a.ok c).bind λx v C y i l ⟨_,z⟩=>?_;have j:=c.kb i l;refine (f.ok j.bd j.pO l (z u)).imp λE d v kb ⟨r,fr⟩=>⟨.inl r,λ_=>r,λz=>(fr z).le i.len⟩
def DT(d:D):Bool:=match d with
 | .lst a=>qp a
 | d=>flat d
def mn(f:Fn)(a:Xs ws)(hf:f.fr=true:=by exact ys rfl):Xe ws where
 m:=cz f.m a.m
 p:=λenv s=>((a.p env s).bind f.p).bind λd s=>if DT d=true then .ok d s else .bad
 fz:=true
 fr:=true
 ok {q h L B O Z env s} c:=by
  have key:Ok q h ((a.m Z h).bind f.m) ((a.p env s).bind f.p) (λj d v=>Rp q j B d v/\Frs q h.length B j d v):=by
   refine (a.ok c).bind λx v R C u G ⟨w,_⟩=>?_;have l:=c.kb u G;refine (f.ok (λo Q=>xv (l.bb o Q) l.hL) l.pb G (w.base l.sub l.bb)).imp λj d v kb ⟨r,fr⟩=>⟨r,(fr hf).le u.len⟩
  show Ok q h ((a.m Z h).bind f.m) _ _
  cases e:(a.p env s).bind f.p with
  | bad=>trivial
  | exc x C=>rw[e] at key;exact key
  | ok d C =>
   rw[e] at key;obtain⟨v,j,e1,kb,pn,r,fr⟩:=key;rw[Pb];by_cases z:DT d=true
   .rw[d_ z];have H:Frs q h.length O j d v:=λk E y=>by
     obtain⟨n,xs,J,P,M,I⟩:=fr k E y;subst y
     cases k with
     | some _=>cases z
     | none=>exact⟨n,xs,J,P,M,Rps.flat z I⟩
    have F:Rp q j O d v:=by
     cases d with
     | lst E=>exact H.rp (k:=none) c.bd rfl
     | non=>exact r
     | bl b=>exact r
     | int i=>exact r
     | str i=>exact r
     | tup i=>exact Rp.flat z r
     | dic _ _ _=>cases z
     | exc _=>cases z
     | pen=>cases z
    exact⟨v,j,e1,kb,pn,.inl F,λ_=>F,λ_=>H⟩
   .rw[g_ z];trivial
def gi:100000<=sizeLine:=by decide
def jU(bd:Bd h O)(r:Rps q h O ds xs)(u:ds.length<=100000):Gv q h O true (ql xs h) (.lst ds):=by
 have l:=r.length;have m:Mv O h O (h++[MO.lst xs]):=⟨λn a _=>xu a,λo f=>.inl f⟩
 have j:Mv O h (h.length::O) (h++[MO.lst xs]):=⟨λn a _=>xu a,λo f=>by
  rcases ml.mp f with z|z
  .exact .inr (by lia)
  .exact .inl z⟩
 have g:(h++[MO.lst xs])[h.length]?=some (.lst xs):=by simp
 refine⟨.loc h.length,[.lst xs],?_,⟨_,_,rfl,λz=>by have:=bd _ z;lia,g,r.mv m⟩,λ_ k i e=>?_⟩
 .unfold ql;rw[d_];have:=gi;lia
 .obtain⟨rfl,rfl⟩:=fA e;exact⟨_,_,rfl,j_ _,g,r.mv j⟩
def vp(r:Rps q h O ds xs)(i:ds.length<=100000):Gv q h O true (z_ xs h) (.tup ds):=by
 have f:=r.length;refine⟨.tup xs,[],?_,?_,λ_ k a e=>by cases k <;> cases e⟩
 .unfold z_;rw[d_ (by have:=gi;lia)];simp
 .simpa using ⟨xs,rfl,r⟩
def fJ(a:Xs ws)(r:a.fz=true:=by exact ys rfl):Xe ws where
 m:=iP a.m
 p:=λenv s=>(a.p env s).bind λx l=>if x.length<=100000 then .ok (.lst x) l else .bad
 fz:=true
 fr:=true
 ok {q h L B O Z env s} c:=by
  refine (a.ok c).bind λx v u l i j ⟨_,z⟩=>?_;by_cases f:x.length<=100000
  .rw[d_ f];exact Dy i.len j (jU (c.kb i j).bd (z r) f)
  .rw[g_ f];trivial
def aU(a:Xs ws)(r:a.fz=true:=by exact ys rfl):Xe ws where
 m:=tP a.m
 p:=λenv s=>(a.p env s).bind λx i=>if x.length<=100000 then .ok (.tup x) i else .bad
 fz:=true
 fr:=true
 ok {q h L B O Z env s} c:=by
  refine (a.ok c).bind λx v u i j l ⟨_,z⟩=>?_;by_cases f:x.length<=100000
  .rw[d_ f];exact Dy j.len l (vp (z r) f)
  .rw[g_ f];trivial
def Fc:Xe ws where
 m:=ID
 p:=λ_ s=>.ok (.dic false [] []) s
 fz:=true
 fr:=true
 ok {q h L B O Z env s} c:=by
  have g:(h++[MO.dic false [] []])[h.length]?=some (.dic false [] []):=by simp
  have r:Rp q (h++[MO.dic false [] []]) O (.dic false [] []) (.loc h.length):=⟨_,[],rfl,λz=>by have:=c.bd _ z;lia,g,rfl⟩
  exact⟨.loc h.length,h++[.dic false [] []],rfl,KB.app _ _ _,c.pen.app,.inl r,λ_=>r,λ_ k f e=>by
   cases k with
   | none=>cases e
   | some a=>cases e;exact⟨_,[],rfl,j_ _,g,rfl⟩⟩
def Vw.bl(w:Vw q h L O (.bl b) v):v=.bl b:=by
 rcases w with r|⟨n,k,xs,a,e,_⟩
 .exact r
 .cases k <;> cases e
def PR.bl(r:PR D):PR Bool:=r.bind λd s=>match d with
 | .bl b=>.ok b s
 | _=>.bad
@[simp] theorem Pl:(PR.ok (D.bl b) s).bl=.ok b s:=rfl
def xB(a:Xe ws):Xt ws where
 m:=mB a.m
 p:=λenv s=>(a.p env s).bl
 ok {q h L B O Z env s} c:=by
  refine (a.ok c).bind λx v f l j i ⟨w,_,_⟩=>?_
  cases x with
  | bl b=>rw[w.bl];exact⟨b,f,rfl,KB.refl _ _,i,rfl⟩
  | _=>trivial
def dH(a:Xt ws):Xt ws where
 m:=pJ a.m
 p:=λenv s=>(a.p env s).bind λb s=>.ok (!b) s
 ok {q h L B O Z env s} c:=(a.ok c).bind λx v f l j i e=>⟨!v,f,rfl,KB.refl _ _,i,by rw[e]⟩
def qj(a b:Xt ws):Xt ws where
 m:=Ih a.m b.m
 p:=λenv s=>(a.p env s).bind λx s=>if x=true then b.p env s else .ok false s
 ok {q h L B O Z env s} c:=(a.ok c).bind λx v i l j f e=>by
  subst e
  cases x with
  | true=>simpa using b.ok (c.kb j f)
  | false=>exact⟨false,i,rfl,KB.refl _ _,f,rfl⟩
def CO(a b:Xt ws):Xt ws where
 m:=KY a.m b.m
 p:=λenv s=>(a.p env s).bind λx s=>if x=true then .ok true s else b.p env s
 ok {q h L B O Z env s} c:=(a.ok c).bind λx v i l j f e=>by
  subst e
  cases x with
  | false=>simpa using b.ok (c.kb j f)
  | true=>exact⟨true,i,rfl,KB.refl _ _,f,rfl⟩
def f_:Xt ws where
 m:=CH
 p:=λ_ s=>.ok true s
 ok {q h L B O Z env s} c:=⟨true,h,rfl,KB.refl _ _,c.pen,rfl⟩
def Ok.after{α β:Type}{p:Nat}{h l:MH}{o:Out β}{r:PR α}{R:MH->α->β->Prop}(k:KB p h l)(q:Ok p l o r R):Ok p h o r R:=by
 cases r with
 | bad=>trivial
 | exc C y=>obtain⟨i,j,f,a⟩:=q;exact⟨i,j,k.trans f,a⟩
 | ok B y=>obtain⟨z,i,j,f,a,u⟩:=q;exact⟨z,i,j,k.trans f,a,u⟩
def GH(pn:ci h q s):Ok q h (.ok (.bl b) h) (.ok (.bl b) s) (λa d v=>Vw q a L O d v/\(true=true->Rp q a O d v)/\(true=true->Frs q l O a d v)) :=
 ⟨.bl b,h,rfl,KB.refl _ _,pn,.inl rfl,λ_=>rfl,λ_ k f e=>by cases k <;> cases e⟩
def IW(k:Ok q h o r (λa d v=>Vw q a L O d v/\(fz=true->Rp q a O d v)/\(fr=true->Frs q l' O a d v))) :
  Ok q h o (r.bl.bind λb s=>.ok (.bl b) s) (λa d v=>Vw q a L O d v/\(true=true->Rp q a O d v)/\(true=true->Frs q l O a d v)):=by
 cases r with
 | bad=>trivial
 | exc c s=>exact k
 | ok d s =>
  obtain⟨v,a,e,kb,pn,w,_,_⟩:=k
  cases d with
  | bl b=>exact⟨v,a,e,kb,pn,w,λ_=>by rw[w.bl];rfl,λ_ k f e=>by cases k <;> cases e⟩
  | _=>trivial
def jk(a b:Xe ws):Xe ws where
 m:=xN a.m b.m
 p:=λenv s=>(a.p env s).bl.bind λx s=>if x=true then (b.p env s).bl.bind λy s=>.ok (.bl y) s else .ok (.bl false) s
 fz:=true
 fr:=true
 ok {q h L B O Z env s} c:=by
  have k:=a.ok c;show Ok q h ((a.m Z h).bind _) _ _
  cases e:a.p env s with
  | bad=>trivial
  | exc x u =>
   rw[e] at k;obtain⟨j,e1,f,i⟩:=k;rw[e1];exact⟨j,rfl,f,i⟩
  | ok d u =>
   rw[e] at k;obtain⟨v,j,e1,f,i,w,_,_⟩:=k
   cases d with
   | bl x =>
    rw[w.bl] at e1;rw[e1]
    cases x with
    | true =>
     exact Ok.after f (IW (l:=h.length) (b.ok (c.kb f i)))
    | false =>
     obtain⟨F,E,G,C,z,r⟩:=GH (L:=L) (l:=h.length) (O:=O) (b:=false) i;exact⟨F,E,G,f.trans C,z,r⟩
   | _=>trivial
def rS(a:Xe ws):Xe ws where
 m:=xp a.m
 p:=λenv s=>(a.p env s).bl.bind λx s=>.ok (.bl (!x)) s
 fz:=true
 fr:=true
 ok {q h L B O Z env s} c:=by
  have k:=a.ok c;show Ok q h ((a.m Z h).bind _) _ _
  cases e:a.p env s with
  | bad=>trivial
  | exc x u =>
   rw[e] at k;obtain⟨j,e1,f,i⟩:=k;rw[e1];exact⟨j,rfl,f,i⟩
  | ok d u =>
   rw[e] at k;obtain⟨v,j,e1,f,i,w,_,_⟩:=k
   cases d with
   | bl x =>
    rw[w.bl] at e1;rw[e1];obtain⟨E,C,F,z,y,r⟩:=GH (L:=L) (l:=h.length) (O:=O) (b:=!x) i;exact⟨E,C,F,f.trans z,y,r⟩
   | _=>trivial
def qg(t:Xt ws)(a b:Xe ws)(fz:Bool)(hf:fz=(a.fz && b.fz):=by exact ys rfl):Xe ws where
 m:=Im t.m a.m b.m
 p:=λenv s=>(t.p env s).bind λx s=>if x=true then a.p env s else b.p env s
 fz:=fz
 fr:=false
 ok {q h L B O Z env s} c:=(t.ok c).bind λx v y u i j e=>by
  subst e
  cases x with
  | true=>exact (a.ok (c.kb i j)).imp λl d v kb r=>⟨r.1,λf=>r.2.1 (by rw[hf,Gk] at f;exact f.1),λf=>by simp at f⟩
  | false=>exact (b.ok (c.kb i j)).imp λl d v kb r=>⟨r.1,λf=>r.2.1 (by rw[hf,Gk] at f;exact f.2),λf=>by simp at f⟩
end
structure Xi (ws:List Nat) where
 m:Mx MIt
 p:aG->hB->PR (List D)
 fz:Bool
 ok:∀{q h L B O Z env s},Cx q h L B O ws Z env s->Ok q h (m Z h) (p env s) (λh' ds it=>Rps q h' O ds it.xs/\(∀g∈it.gd,h'[g.1]?=some (.lst g.2)/\g.1≠q)/\(fz=true->∀g∈it.gd,g.1∉O))
inductive GI (q:Nat) (h:MH) (O:List Nat) (ds as:List D) (xs:List PV) (o:Out MIt):Prop
 | mk (it:MIt) (e:o=.ok it h) (r:Rps q h O ds it.xs) (g:∀g∈it.gd,h[g.1]?=some (.lst g.2)/\g.1≠q) (z:Rps q h O as xs->∀g∈it.gd,g.1∉O):GI q h O ds as xs o
structure MQ where
 k:List PV->MH->Out MIt
 p:List D->Option (List D)
 ok:∀{q h L O as xs ds},q<L->q∈O->Bd h O->Vws q h L O as xs->p as=some ds->GI q h O ds as xs (k xs h)
def D.items:D->Option (List D)
 | .lst a=>some a
 | .tup a=>some a
 | _=>none
@[simp] theorem bn:(D.lst ds).items=some ds:=rfl
@[simp] theorem qY:(D.tup ds).items=some ds:=rfl
noncomputable section
variable {ws:List Nat}
def be(o:MQ)(a:Xs ws):Xi ws where
 m:=λZ h=>(a.m Z h).bind o.k
 p:=λenv s=>(a.p env s).bind λx i=>.of (o.p x) i
 fz:=a.fz
 ok {q h L B O Z env s} c:=by
  refine (a.ok c).bind λx v C i l j ⟨w,z⟩=>?_
  cases e:o.p x with
  | none=>trivial
  | some F =>
   obtain⟨E,e1,r,u,y⟩:=o.ok c.pL c.pO (c.kb l j).bd w e;exact⟨E,C,e1,KB.refl _ _,j,r,u,λf=>y (z f)⟩
def Vw.seq(G:q<L)(E:q∈O)(w:Vw q h L O d v)(e:d.items=some ds):∃xs gd,yp v h=.ok ⟨xs,gd⟩ h/\Rps q h O ds xs/\(∀g∈gd,h[g.1]?=some (.lst g.2)/\g.1≠q)/\(Rp q h O d v->∀g∈gd,g.1∉O):=by
 have one:∀n xs,h[n]?=some (MO.lst xs)->n≠q->(∀g∈[(n,xs)],h[g.1]?=some (MO.lst g.2)/\g.1≠q):=λn xs g B y a=>by
  have:y=(n,xs):=by simpa using a
  subst this;exact⟨g,B⟩
 cases d with
 | lst j =>
  have:j=ds:=by simpa [D.items] using e
  subst this;rcases w with ⟨n,xs,e1,f,g,r⟩|⟨n,u,xs,i,l,e1,_,B,g,r⟩
  .subst e1;refine⟨xs,[(n,xs)],by simp only[yp,g],r,one n xs g (λz=>f (z▸E)),λ_ y a=>?_⟩
   have:y=(n,xs):=by simpa using a
   subst this;exact f
  .obtain⟨rfl,rfl⟩:=fA l;subst e1;replace g:h[n]?=some (.lst xs):=g;refine⟨xs,[(n,xs)],by simp only[yp,g],r,one n xs g (by lia),λ⟨F,C,e1,f,_,_⟩ y a=>?_⟩
   have:y=(n,xs):=by simpa using a
   subst this;cases e1;exact f
 | tup j =>
  have:j=ds:=by simpa [D.items] using e
  subst this;rcases w with ⟨xs,e1,r⟩|⟨n,u,xs,i,l,_⟩
  .subst e1;exact⟨xs,[],rfl,r,(λ_ a=>nomatch a),λ_ _ a=>nomatch a⟩
  .cases u <;> cases l
 | _=>simp[D.items] at e
def aV(a:Xe ws):Xi ws where
 m:=qi a.m
 p:=λenv s=>(a.p env s).bind λx i=>.of x.items i
 fz:=a.fz
 ok {q h L B O Z env s} c:=by
  refine (a.ok c).bind λx v u i C y ⟨w,z,_⟩=>?_
  cases e:x.items with
  | none=>trivial
  | some E =>
   obtain⟨xs,gd,e1,r,j,l⟩:=w.seq c.pL c.pO e;exact⟨⟨xs,gd⟩,u,e1,KB.refl _ _,y,r,j,λf=>l (z f)⟩
structure Xg (ws:List Nat) where
 m:Mg
 p:D->aG->Option aG
 ok:∀{q h L O Z env d v env'},SR q h L O ws Z env->Rp q h O d v->p d env=some env'->∃Z',m v Z h=.nx Z' h/\SR q h L O ws Z' env'/\∀i∈ws,Z'[i]?=Z[i]?/\env'[i]?=env[i]?
structure GJ (ws:List Nat) where
 m:ER
 p:List D->aG->Option aG
 ok:∀{q h L O Z env ds vs env'},SR q h L O ws Z env->Rps q h O ds vs->p ds env=some env'->∃Z',m vs Z h=.nx Z' h/\SR q h L O ws Z' env'/\∀i∈ws,Z'[i]?=Z[i]?/\env'[i]?=env[i]?
def SR.set(r:SR q h L O ws Z env)(C:i∉ws)(w:Rp q h O d v):SR q h L O ws (Z.set i (some v)) (env.set i (some d))/\∀j∈ws,(Z.set i (some v))[j]?=Z[j]?/\(env.set i (some d))[j]?=env[j]?:=by
 have ne:∀j∈ws,i≠j:=λj a z=>C (z▸a);refine⟨⟨by simp[r.len],λj e a l=>?_,λj e a l=>?_⟩,λj a=>⟨o0 (ne j a),o0 (ne j a)⟩⟩
 .by_cases z:i=j
  .subst z;have y:i<env.length:=by
    have:=(tr.mp a).1;simpa using this
   rw[Cw y] at a;cases a;exact⟨v,Cw (by rw[r.len];exact y),w⟩
  .rw[o0 z] at a;obtain⟨u,e1,q1⟩:=r.fz j e a l;exact⟨u,by rw[o0 z];exact e1,q1⟩
 .rw[o0 (ne j l)] at a;obtain⟨n,B,xs,E,e1,e2,f⟩:=r.ow j e a l;exact⟨n,B,xs,E,e1,by rw[o0 (ne j l)];exact e2,f⟩
def ia(i:Nat)(j:ws.contains i=false:=by exact ys rfl):Xg ws where
 m:=CG i
 p:=λd env=>some (env.set i (some d))
 ok {q h L O Z env d v env'} r w e:=by
  cases e;have f:i∉ws:=λz=>by simp[z] at j
  obtain⟨a,b⟩:=r.set f w;exact⟨_,rfl,a,b⟩
def w9:GJ ws where
 m:=L8
 p:=λa env=>match a with
  | []=>some env
  | _=>none
 ok {q h L O Z env a vs env'} r w e:=by
  cases a with
  | nil =>
   cases e
   have:vs=[]:=w
   subst this;exact⟨Z,rfl,r,λ_ _=>⟨rfl,rfl⟩⟩
  | cons _ _=>cases e
def n7(a:Xg ws)(t:GJ ws):GJ ws where
 m:=Gs a.m t.m
 p:=λj env=>match j with
  | d::j=>(a.p d env).bind λf=>t.p j f
  | []=>none
 ok {q h L O Z env j vs env'} r w e:=by
  cases j with
  | nil=>cases e
  | cons d j =>
   obtain⟨x,y,rfl,I,F⟩:=w;dsimp only at e
   cases e1:a.p d env with
   | none=>rw[e1] at e;cases e
   | some f =>
    rw[e1] at e;obtain⟨J,B,E,u⟩:=a.ok r I e1;obtain⟨C,H,G,z⟩:=t.ok E F e;exact⟨C,by show (a.m x Z h).then (t.m y)=_;rw[B];exact H,G,λi l=>⟨(z i l).1.trans (u i l).1,(z i l).2.trans (u i l).2⟩⟩
def w_(t:GJ ws)(n:Nat):Xg ws where
 m:=KZ t.m n
 p:=λd env=>match d with
  | .tup f=>if f.length=n then t.p f env else none
  | _=>none
 ok {q h L O Z env d v env'} r w e:=by
  cases d with
  | tup f =>
   obtain⟨xs,rfl,w⟩:=w;dsimp only at e;by_cases z:f.length=n
   .rw[d_ z] at e;obtain⟨i,a,b⟩:=t.ok r w e;exact⟨i,by show (if xs.length=n then t.m xs Z h else .bad)=_;rw[d_ (by rw[w.length];exact z)];exact a,b⟩
   .rw[g_ z] at e;cases e
  | _=>cases e
def DE(a:Nat)(fm ws:List Nat):List Nat:=((List.range fm.length).filter λj=>ws.contains (fm.getD j 0)).map (a+·)
def xg(a:Nat)(fm:List Nat)(env:aG):aG:=List.replicate a none++fm.map λi=>(env[i]?).getD none
def PR.ne{α:Type}(r:PR α):PR α:=match r with
 | .exc _ _=>.bad
 | r=>r
@[simp] theorem PR.ne_ok(a:α)(s:hB):(PR.ok a s).ne=.ok a s:=rfl
def cv(g:D->aG->Option aG)(t:aG->hB->PR Bool)(e:aG->hB->PR D):List D->aG->hB->PR (List D)
 | [],_,s=>.ok [] s
 | d::i,env,s=>match g d env with
  | none=>.bad
  | some a=>(t a s).bind λb f=>if b=true then (e a f).bind λx l=>(cv g t e i a l).bind λr j=>.ok (x::r) j else cv g t e i a f
def MR{a:Nat}{fm:List Nat}{α:Type}{env:List (Option α)}{i:Nat}{d:α}(e:(List.replicate a none++fm.map λi=>(env[i]?).getD none)[i]?=some (some d)):∃j k,i=a+j/\fm[j]?=some k/\env[k]?=some (some d):=by
 by_cases z:i<a
 .rw[xu (by simpa using z)] at e;simp[z] at e
 .rw[C5 (by simp;lia)] at e;simp only[Ld,tt] at e
  cases f:fm[i - a]? with
  | none=>rw[f] at e;cases e
  | some k =>
   rw[f] at e;simp only[DJ,Option.some.injEq] at e;refine⟨i - a,k,by lia,f,?_⟩
   cases l:env[k]? with
   | none=>rw[l] at e;cases e
   | some o=>rw[l] at e;simp at e;rw[e]
def MU{a:Nat}{fm:List Nat}{α:Type}{Z:List (Option α)}{j k:Nat}{v:α}(e1:fm[j]?=some k)(e2:Z[k]?=some (some v)):(List.replicate a none++fm.map λi=>(Z[i]?).getD none)[a+j]?=some (some v):=by
 rw[C5 (by simp)];simp[e1,e2]
def vM(e:fm[j]?=some k):nv+j∈DE nv fm ws↔k∈ws:=by
 have r:=(tr.mp e).1;have i:fm.getD j 0=k:=by simp[List.getD,e]
 unfold DE;rw[mu];constructor
 .rintro⟨a,f,u⟩
  have:a=j:=by lia
  subst this;rw[y6] at f
  have:=f.2
  rw[i] at this;simpa using this
 .intro l;exact⟨j,y6.mpr ⟨pa.mpr r,by rw[i];simpa using l⟩,rfl⟩
def SR.comp{q:Nat}{h:MH}{L:Nat}{O:List Nat}{Z:oe}{env:aG}(f:Nat)(fm:List Nat)(r:SR q h L O ws Z env):SR q h L O (DE f fm ws) (DS f fm Z) (xg f fm env):=by
 refine⟨by simp[DS,xg],λi d e a=>?_,λi d e a=>?_⟩
 .obtain⟨j,k,rfl,e1,e2⟩:=MR e;obtain⟨v,e3,w⟩:=r.fz k d e2 λz=>a ((vM e1).mpr z);exact⟨v,MU e1 e3,w⟩
 .obtain⟨j,k,rfl,e1,e2⟩:=MR e;obtain⟨n,l,xs,y,u,e3,w⟩:=r.ow k d e2 ((vM e1).mp a);exact⟨n,l,xs,y,u,MU e1 e3,w⟩
def IY(T:Xg u)(t:Xt u)(e:Xe u)(hz:e.fz=true)(hq:q<h1.length)(gd:∀g∈it.gd,h1[g.1]?=some (.lst g.2)/\g.1≠q) :
  ∀(Q:List D) (xs:List PV) (env:aG) (Z:oe) (h:MH) (j:List D) (f:List PV) (s:hB) (r:List D) (U:hB),(∀i∈u,∀d,env[i]?=some (some d)->∀n,Z[i]?=some (some (.loc n))->n<h1.length)->KB q h1 h->Cx q h L B (h1.length::O) u Z env s->Rps q h (h1.length::O) Q xs->h[h1.length]?=some (.lst f)->Rps q h (h1.length::O) j f->j.length+Q.length<=100000 ->
  cv T.p t.p e.p Q env s=.ok r U->∃E R,Dn it h1.length T.m t.m e.m xs Z h=.ok () E/\KB q h1 E/\ci E q U/\E[h1.length]?=some (.lst R)/\Rps q E (h1.length::O) (j++r) R:=by
 intro Q
 induction Q with
 | nil =>
  intro xs env Z h j f s r U on kb c rx ga X hl a
  have:xs=[]:=rx
  subst this;cases a;have ok:it.ok h:=λg J=>(kb.keep _ (aR (gd g J).1) (gd g J).2).trans (gd g J).1;exact⟨h,f,by rw[Dn,d_ ok],kb,c.pen,ga,by simpa using X⟩
 | cons d Q ih =>
  intro xs env Z h j f s r U on kb c rx ga X hl a;obtain⟨x,xr,rfl,r1,r2⟩:=rx;have ok:it.ok h:=λg J=>(kb.keep _ (aR (gd g J).1) (gd g J).2).trans (gd g J).1;rw[cv] at a
  cases eg:T.p d env with
  | none=>rw[eg] at a;cases a
  | some l =>
   rw[eg] at a;dsimp only at a;obtain⟨Z1,f1,an,k1⟩:=T.ok c.sr r1 eg;have M:∀i∈u,∀d,l[i]?=some (some d)->∀n,Z1[i]?=some (some (.loc n))->n<h1.length:=λi H d e n z=>on i H d ((k1 i H).2▸e) n ((k1 i H).1▸z);have c1:Cx q h L B (h1.length::O) u Z1 l s:=⟨c.bd,c.sub,c.bb,c.pb,c.hL,c.pen,an⟩;have kt:=t.ok c1
   cases et:t.p l s with
   | bad=>rw[et] at a;cases a
   | exc _ _=>rw[et] at a;cases a
   | ok b s1 =>
    rw[et] at a kt;obtain⟨b',h2,f2,Y,p2,eb⟩:=kt;subst eb;have c2:=c1.kb Y p2;have F:Mv (h1.length::O) h (h1.length::O) h2:=Y.mv c.pO;have hn:h1.length<h.length:=aR ga;have P:h2[h1.length]?=some (.lst f):=(Y.keep _ hn (by lia)).trans ga;rw[Pb] at a
    cases b with
    | false =>
     rw[g_ (by simp)] at a;obtain⟨E,R,a1,a2⟩:=ih xr l Z1 h2 j f s1 r U M (kb.trans Y) c2 (r2.mv F) P (X.mv F) (by simp at hl;lia) a;refine⟨E,R,?_,a2⟩;rw[Dn,d_ ok,f1];simp only[f2,Out.ne_ok,Out.bind_ok,su,if_false];exact a1
    | true =>
     rw[d_ rfl] at a;have ke:=e.ok c2
     cases ee:e.p l s1 with
     | bad=>rw[ee] at a;cases a
     | exc _ _=>rw[ee] at a;cases a
     | ok y s2 =>
      rw[ee] at a ke;obtain⟨v,I,f3,k3,p3,_,rv,_⟩:=ke;have rv:=rv hz;have G:=c2.kb k3 p3;have S:Mv (h1.length::O) h2 (h1.length::O) I:=k3.mv c.pO;have al:I[h1.length]?=some (.lst f):=(k3.keep _ (aR P) (by lia)).trans P;have C:Mv (h1.length::O) I (h1.length::O) (I.set h1.length (.lst (f++[v]))) :=
       ⟨λn hn no=>o0 (λz=>no (by simp[z])),λo ho=>.inl ho⟩
      have ao:Rps q I (h1.length::O) (j++[y]) (f++[v]):=((X.mv F).mv S).app ⟨v,[],rfl,rv,rfl⟩;rw[Pb] at a
      cases er:cv T.p t.p e.p Q l s2 with
      | bad=>rw[er] at a;cases a
      | exc _ _=>rw[er] at a;cases a
      | ok r' s3 =>
       rw[er] at a;cases a;have ai:KB q h1 I:=(kb.trans Y).trans k3;have c4:Cx q (I.set h1.length (.lst (f++[v]))) L B (h1.length::O) u Z1 l s2:=by
        refine⟨λo ho=>by simpa using G.bd o ho,G.sub,G.bb,G.pb,by simpa using G.hL,?_,?_⟩
        .unfold ci;rw[o0 (by lia)];exact p3
        .refine⟨G.sr.len,λi d e H=>let ⟨v,e1,q1⟩:=G.sr.fz i d e H;⟨v,e1,q1.mv C⟩,λi d e H=>?_⟩;obtain⟨n,kd,ys,es,b1,b2,b3,b4,b5,b6⟩:=G.sr.ow i d e H;have z:=M i H d e n b2;exact⟨n,kd,ys,es,b1,b2,b3,b4,by rw[o0 (by lia)];exact b5,b6.mv C⟩
       obtain⟨E,R,a1,a2,a3,a4,a5⟩:=ih xr l Z1 (I.set h1.length (.lst (f++[v]))) (j++[y]) (f++[v]) s2 r' _ M ⟨by simpa using ai.len,λn hn hp=>by rw[o0 (by lia)];exact ai.keep n hn hp⟩ c4 (((r2.mv F).mv S).mv C) (Cw (aR al)) (ao.mv C) (by simp at hl ⊢;lia) er;refine⟨E,R,?_,a2,a3,a4,by simpa using a5⟩;rw[Dn,d_ ok,f1];simp only[f2,Out.ne_ok,Out.bind_ok,if_true,f3,al];rw[d_ (by have:=gi;have:=X.length;simp at hl;lia)];exact a1
def aO(a:Nat)(fm:List Nat)(i:Xi ws){ws':List Nat}(g:Xg ws')(t:Xt ws')(e:Xe ws')(hw:DE a fm ws=ws':=by exact ys rfl)(hz:e.fz=true:=by exact ys rfl):Xe ws where
 m:=eI a fm i.m g.m t.m e.m
 p:=λenv s=>(i.p env s).bind λl y=>if l.length<=100000 then (match cv g.p t.p e.p l (xg a fm env) y with
  | .ok r G=>.ok (.lst r) G
  | _=>.bad) else .bad
 fz:=true
 fr:=true
 ok {q h L B O Z env s} c:=by
  subst hw;refine (i.ok c).bind λl it j y I H ⟨R,gd,_⟩=>?_;have C:=c.kb I H;by_cases E:l.length<=100000
  .rw[d_ E]
   cases Q:cv g.p t.p e.p l (xg a fm env) y with
   | bad=>trivial
   | exc _ _=>trivial
   | ok r G =>
    have mv:Mv O j (j.length::O) (j++[MO.lst []]):=⟨λn F _=>xu F,λo u=>by
     rcases ml.mp u with z|z
     .exact .inr (by lia)
     .exact .inl z⟩
    have sr:=(C.sr.comp a fm).mv mv (λo u=>m1 _ u) λn F _ _=>xu F;have c2:Cx q (j++[MO.lst []]) L B (j.length::O) (DE a fm ws) (DS a fm Z) (xg a fm env) y:=by
     refine⟨λo u=>?_,λo u=>m1 _ (c.sub o u),c.bb,c.pb,by have:=C.hL;simp;lia,H.app,sr⟩;rcases ml.mp u with z|z
     .subst z;simp
     .have:=C.bd o z;simp;lia
    have hq:q<j.length:=aR H
    obtain⟨M,P,T,a2,a3,S,U⟩:=IY g t e hz (L:=L) (B:=B) (O:=O) hq gd l it.xs (xg a fm env) (DS a fm Z) (j++[MO.lst []]) [] [] y r G (λi Y d ed n J=>by
     obtain⟨n',_,_,_,_,b2,_,_,X,_⟩:=(C.sr.comp a fm).ow i d ed Y;rw[b2] at J;cases J
     exact aR X) (KB.app _ _ _) c2 (R.mv mv) (by simp) rfl (by simpa using E) Q
    have f:Frs q h.length O M (.lst r) (.loc j.length):=λk l e=>by
     obtain⟨rfl,rfl⟩:=fA e;exact⟨_,P,rfl,I.len,S,by simpa using U⟩
    have rr:=f.rp (k:=none) c.bd rfl;exact⟨.loc j.length,M,by show (Dn _ _ _ _ _ _ _ _).bind _=_;rw[T];rfl,a2,a3,.inl rr,λ_=>rr,λ_=>f⟩
  .rw[g_ E];trivial
end
inductive PS where
 | nx (e:aG) (s:hB)
 | rt (d:D) (s:hB)
 | bk (e:aG) (s:hB)
 | ct (e:aG) (s:hB)
 | exc (c:Str) (e:aG) (s:hB)
 | rse (c:Str) (e:aG) (s:hB)
 | bad
structure Stp (q L:Nat) (h:MH) (O:List Nat) (h':MH) (O':List Nat):Prop where
 len:h.length<=h'.length
 mv:Mv O h O' h'
 sub:∀o∈O,o∈O'
 base:∀n:Nat,n<L->n≠q->h'[n]?=h[n]?
def Stp.refl(q L:Nat)(h:MH)(O:List Nat):Stp q L h O h O:=⟨j_ _,⟨λ_ _ _=>rfl,λ_ h=>.inl h⟩,λ_ h=>h,λ_ _ _=>rfl⟩
def Stp.trans(a:Stp q L h O h1 O1)(b:Stp q L h1 O1 h2 O2):Stp q L h O h2 O2:=by
 refine⟨yi a.len b.len,⟨λn f j=>?_,λo i=>?_⟩,λo i=>b.sub o (a.sub o i),λn f l=>(b.base n f l).trans (a.base n f l)⟩
 .have r:n∉O1:=λz=>by
   rcases a.mv.new n z with q|q
   .exact j q
   .lia
  exact (b.mv.keep n (xv f a.len) r).trans (a.mv.keep n f j)
 .rcases b.mv.new o i with z|z
  .exact a.mv.new o z
  .exact .inr (yi a.len z)
def Dis(a:List Nat)(Z:oe)(env:aG):Prop:=∀i j,i∈a->j∈a->i≠j->∀d f n,env[i]?=some (some d)->env[j]?=some (some f)->Z[i]?=some (some (.loc n))->Z[j]?≠some (some (.loc n))
inductive Nxt (q L:Nat) (h:MH) (B O ws:List Nat) (Z':oe) (h':MH) (env:aG) (s:hB):Prop
 | mk (O':List Nat) (a:Stp q L h O h' O') (c:Cx q h' L B O' ws Z' env s) (d:Dis ws Z' env):Nxt q L h B O ws Z' h' env s
inductive K4 (q L:Nat) (h:MH) (B O ws:List Nat) (f:oe->MH->SOut) (o:SOut) (env:aG) (s:hB):Prop
 | mk (Z':oe) (h':MH) (e:o=f Z' h') (n:Nxt q L h B O ws Z' h' env s):K4 q L h B O ws f o env s
inductive Tu (q L:Nat) (h:MH) (B:List Nat) (fr:Bool) (o:SOut) (d:D) (s:hB):Prop
 | mk (v:PV) (h':MH) (e:o=.rt v h') (l:h.length<=h'.length) (b:∀n:Nat,n<L->n≠q->h'[n]?=h[n]?) (p:ci h' q s) (r:Rp q h' B d v) (f:fr=true->Frs q L B h' d v):Tu q L h B fr o d s
def SOk(q L:Nat)(h:MH)(B O a:List Nat)(fr:Bool)(o:SOut)(r:PS):Prop:=match r with
 | .nx env s=>K4 q L h B O a .nx o env s
 | .bk env s=>K4 q L h B O a .bk o env s
 | .ct env s=>K4 q L h B O a .ct o env s
 | .exc c env s=>K4 q L h B O a (.exc ⟨c,[]⟩) o env s
 | .rse c env s=>K4 q L h B O a (.rse ⟨c,[]⟩) o env s
 | .rt d s=>Tu q L h B fr o d s
 | .bad=>True
structure Xd (ws:List Nat) where
 m:n8
 p:aG->hB->PS
 fr:Bool
 ok:∀{q h L B O Z env s},Cx q h L B O ws Z env s->Dis ws Z env->SOk q L h B O ws fr (m Z h) (p env s)
def Nxt.after(a:Stp q L h O h1 O1)(n:Nxt q L h1 B O1 ws Z' h' env s):Nxt q L h B O ws Z' h' env s :=
 let ⟨f,b,c,d⟩:=n;⟨f,a.trans b,c,d⟩
def SOk.after(a:Stp q L h O h1 O1)(k:SOk q L h1 B O1 ws fr o r):SOk q L h B O ws fr o r:=by
 cases r with
 | nx env s=>obtain⟨i,f,e,n⟩:=k;exact⟨i,f,e,n.after a⟩
 | bk env s=>obtain⟨i,f,e,n⟩:=k;exact⟨i,f,e,n.after a⟩
 | ct env s=>obtain⟨i,f,e,n⟩:=k;exact⟨i,f,e,n.after a⟩
 | exc c env s=>obtain⟨i,f,e,n⟩:=k;exact⟨i,f,e,n.after a⟩
 | rse c env s=>obtain⟨i,f,e,n⟩:=k;exact⟨i,f,e,n.after a⟩
 | rt d s=>obtain⟨v,f,e,l,b,C,z,y⟩:=k;exact⟨v,f,e,yi a.len l,λn j u=>(b n j u).trans (a.base n j u),C,z,y⟩
 | bad=>trivial
def SOk.fr(hf:f'=true->f=true)(k:SOk q L h B O ws f o r):SOk q L h B O ws f' o r:=by
 cases r with
 | rt d s=>obtain⟨v,a,e,l,b,p,r,z⟩:=k;exact⟨v,a,e,l,b,p,r,λy=>z (hf y)⟩
 | nx env s=>exact k
 | bk env s=>exact k
 | ct env s=>exact k
 | exc c env s=>exact k
 | rse c env s=>exact k
 | bad=>trivial
def KB.stp(c:Cx q h L B O ws Z env s)(k:KB q h h'):Stp q L h O h' O :=
 ⟨k.len,k.mv c.pO,λ_ h=>h,λn a f=>k.keep n (xv a c.hL) f⟩
def PR.go{α:Type}(r:PR α)(env:aG)(k:α->aG->hB->PS):PS:=match r with
 | .ok a s=>k a env s
 | .exc c s=>.exc c env s
 | .bad=>.bad
@[simp] theorem Pg(a:α)(s:hB)(env:aG)(k:α->aG->hB->PS):(PR.ok a s).go env k=k a env s:=rfl
@[simp] theorem PR.go_exc(c:Str)(s:hB)(env:aG)(k:α->aG->hB->PS):(PR.exc c s:PR α).go env k=.exc c env s:=rfl
@[simp] theorem PR.go_bad(env:aG)(k:α->aG->hB->PS):(PR.bad:PR α).go env k=.bad:=rfl
theorem SOk.ex{α β:Type}{q L:Nat}{h:MH}{B O j:List Nat}{fr:Bool}{Z:oe}{env:aG}{s:hB}{o:Out β}{r:PR α}{R:MH->α->β->Prop}{f:β->n8}{g:α->aG->hB->PS}(c:Cx q h L B O j Z env s)(d:Dis j Z env)(k:Ok q h o r R)
  (n:∀a b i l,KB q h i->Cx q i L B O j Z env l->R i a b->SOk q L i B O j fr (f b Z i) (g a env l)) :
  SOk q L h B O j fr (o.go Z f) (r.go env g):=by
 cases r with
 | ok a l =>
  obtain⟨b,i,rfl,kb,pn,rr⟩:=k;exact (n a b i l kb (c.kb kb pn) rr).after (kb.stp c)
 | exc x l =>
  obtain⟨i,rfl,kb,pn⟩:=k;exact⟨Z,i,rfl,O,kb.stp c,c.kb kb pn,d⟩
 | bad=>trivial
noncomputable section
variable {ws:List Nat}
def PS.then(r:PS)(k:aG->hB->PS):PS:=match r with
 | .nx env s=>k env s
 | r=>r
@[simp] theorem ak:(PS.nx env s).then k=k env s:=rfl
@[simp] theorem md:(PS.rt d s).then k=.rt d s:=rfl
@[simp] theorem then_bk:(PS.bk env s).then k=.bk env s:=rfl
@[simp] theorem then_ct:(PS.ct env s).then k=.ct env s:=rfl
@[simp] theorem Cj:(PS.exc c env s).then k=.exc c env s:=rfl
@[simp] theorem A5:(PS.rse c env s).then k=.rse c env s:=rfl
@[simp] theorem Br:PS.bad.then k=.bad:=rfl
def aA(a b:Xd ws):Xd ws where
 m:=bp a.m b.m
 p:=λenv s=>(a.p env s).then b.p
 fr:=a.fr && b.fr
 ok {q h L B O Z env s} c d:=by
  have k:=a.ok c d;show SOk q L h B O ws _ ((a.m Z h).then b.m) _
  cases e:a.p env s with
  | nx i u =>
   rw[e] at k;obtain⟨I,M,e1,J,st,z,y⟩:=k;rw[e1];exact ((b.ok z y).fr (by simp)).after st
  | rt x u=>rw[e] at k;obtain⟨v,j,e1,H,F,C,G,E⟩:=k;rw[e1];exact SOk.fr (f:=a.fr) (by simp;exact λh _=>h) (show SOk q L h B O ws a.fr (.rt v j) (.rt x u) from⟨v,j,rfl,H,F,C,G,E⟩)
  | bk i u=>rw[e] at k;obtain⟨l,j,e1,r⟩:=k;rw[e1];exact⟨l,j,rfl,r⟩
  | ct i u=>rw[e] at k;obtain⟨l,j,e1,r⟩:=k;rw[e1];exact⟨l,j,rfl,r⟩
  | exc x i u=>rw[e] at k;obtain⟨l,j,e1,r⟩:=k;rw[e1];exact⟨l,j,rfl,r⟩
  | rse x i u=>rw[e] at k;obtain⟨l,j,e1,r⟩:=k;rw[e1];exact⟨l,j,rfl,r⟩
  | bad=>trivial
def i_:Xd ws where
 m:=ox
 p:=.nx
 fr:=true
 ok {q h L B O Z env s} c d:=⟨Z,h,rfl,O,Stp.refl _ _ _ _,c,d⟩
def IZ{m:Mx PV}{Z:oe}{h:MH}:cB m Z h=(m Z h).go Z λv _ a=>.rt v a:=by unfold cB;cases m Z h <;> rfl
def aX(e:Xe ws):Xd ws where
 m:=cB e.m
 p:=λenv s=>(e.p env s).go env λd _ s=>.rt d s
 fr:=e.fr
 ok {q h L B O Z env s} c d:=by
  rw[IZ];refine SOk.ex (f:=λv _ F=>.rt v F) (g:=λd _ s=>.rt d s) c d (e.ok c) λx v C G kb a ⟨w,z,f⟩=>?_;refine⟨v,C,rfl,j_ _,λ_ _ _=>rfl,a.pen,w.base a.sub a.bb,λy=>?_⟩;intro k u l;obtain⟨n,xs,j,H,r,i⟩:=f y k u l
  have:=c.hL
  exact⟨n,xs,j,by lia,r,i.mv ⟨λ_ _ _=>rfl,λo E=>.inl (by
   rcases ml.mp E with z|z
   .subst z;simp
   .exact m1 _ (c.sub o z))⟩⟩
def k5(i:Nat)(E:ws.contains i=true:=by exact ys rfl):Xd ws where
 m:=cB (az i)
 p:=λenv s=>match env[i]? with
  | some (some d)=>.rt d s
  | _=>.bad
 fr:=true
 ok {q h L B O Z env s} c d:=by
  show SOk q L h B O ws _ _ (match env[i]? with | some (some d)=>PS.rt d s | _=>.bad)
  cases e:env[i]? with
  | none=>trivial
  | some o =>
   cases o with
   | none=>trivial
   | some x =>
    obtain⟨n,j,xs,y,e1,e2,a,b,g,r⟩:=c.sr.ow i x e (by simpa using E);subst e1
    have C:Mv O h (n::B) h:=⟨λ_ _ _=>rfl,λo F=>.inl (by
     rcases ml.mp F with z|z
     .subst z;exact a
     .exact c.sub o z)⟩
    have f:Frs q L B h (dl j y) (.loc n):=λu l e=>by
     have:u=j/\l=y:=by cases j <;> cases u <;> cases e <;> exact⟨rfl,rfl⟩
     obtain⟨rfl,rfl⟩:=this;exact⟨n,xs,rfl,b,g,r.mv C⟩
    refine⟨.loc n,h,by simp[cB,az,e2],j_ _,λ_ _ _=>rfl,c.pen,f.rp c.bb rfl,λ_=>f⟩
def va(t:Xt ws)(a b:Xd ws):Xd ws where
 m:=C6 t.m a.m b.m
 p:=λenv s=>(t.p env s).go env λx env s=>if x=true then a.p env s else b.p env s
 fr:=a.fr && b.fr
 ok {q h L B O Z env s} c d:=SOk.ex (f:=λx=>if x=true then a.m else b.m) (g:=λx env s=>if x=true then a.p env s else b.p env s) c d (t.ok c) λx v j l kb i e=>by
  subst e
  cases x with
  | true=>exact (a.ok i d).fr (by simp;exact λh _=>h)
  | false=>exact (b.ok i d).fr (by simp)
def Dis.keep(d:Dis ws Z env)(k:∀i∈ws,Z'[i]?=Z[i]?/\env'[i]?=env[i]?):Dis ws Z' env':=λi j f l ne x y n a b e=>by
 rw[(k i f).1] at e;rw[(k i f).2] at a;rw[(k j l).2] at b;rw[(k j l).1];exact d i j f l ne x y n a b e
def aQ(i:Nat)(e:Xe ws)(l:ws.contains i=false:=by exact ys rfl)(r:e.fz=true:=by exact ys rfl):Xd ws where
 m:=bM i e.m
 p:=λenv s=>(e.p env s).go env λd env s=>.nx (env.set i (some d)) s
 fr:=true
 ok {q h L B O Z env s} c d:=by
  refine SOk.ex (f:=λv Z h=>.nx (Z.set i (some v)) h) (g:=λd env s=>.nx (env.set i (some d)) s) c d (e.ok c) λx v u y kb j ⟨_,z,_⟩=>?_;obtain⟨a,b⟩:=j.sr.set (i:=i) (λz=>by simp[z] at l) (z r);exact⟨_,u,rfl,O,Stp.refl _ _ _ _,⟨j.bd,j.sub,j.bb,j.pb,j.hL,j.pen,a⟩,d.keep b⟩
def D.mine:D->Bool
 | .lst _=>true
 | .dic fz _ _=>!fz
 | _=>false
def dI(i:Nat)(e:Xe ws)(hi:ws.contains i=true:=by exact ys rfl)(hz:e.fr=true:=by exact ys rfl):Xd ws where
 m:=bM i e.m
 p:=λenv s=>(e.p env s).go env λd env s=>if d.mine=true then .nx (env.set i (some d)) s else .bad
 fr:=true
 ok {q h L B O Z env s} c d:=by
  show SOk q L h B O ws _ _ _;have k:=e.ok c;show SOk q L h B O ws _ ((e.m Z h).go Z λv Z h=>.nx (Z.set i (some v)) h) _
  cases S:e.p env s with
  | bad=>trivial
  | exc x s1 =>
   rw[S] at k;obtain⟨J,e1,kb,pn⟩:=k;rw[e1];exact⟨Z,J,rfl,O,kb.stp c,c.kb kb pn,d⟩
  | ok x s1 =>
   rw[S] at k;obtain⟨v,J,e1,kb,pn,_,_,f⟩:=k;rw[e1];by_cases u:x.mine=true
   .obtain⟨G,C,rfl⟩:∃G C,x=dl G C:=by
     cases x with
     | lst C=>exact⟨none,C,rfl⟩
     | dic fz ks C =>
      cases fz with
      | false=>exact⟨some ks,C,rfl⟩
      | true=>cases u
     | _=>cases u
    obtain⟨n,xs,rfl,hn,g,r⟩:=f hz G C rfl;show SOk q L h B O ws _ _ (if (dl G C).mine=true then _ else _);rw[d_ u];have U:=c.kb kb pn;have M:i∈ws:=by simpa using hi
    have mv:Mv O h (n::O) J:=⟨λm u no=>kb.keep m u λz=>no (z▸c.pO),λo E=>by
     rcases ml.mp E with z|z
     .exact .inr (by lia)
     .exact .inl z⟩
    have Q:n∉O:=λz=>by have:=c.bd n z;lia
    refine⟨Z.set i (some (.loc n)),J,rfl,n::O,⟨kb.len,mv,λo E=>m1 _ E,λm u hq=>kb.keep m (xv u c.hL) hq⟩,⟨λo E=>?_,λo E=>m1 _ (c.sub o E),c.bb,c.pb,U.hL,pn,?_⟩,?_⟩
    .rcases ml.mp E with z|z
     .subst z;exact aR g
     .exact U.bd o z
    .have sr:=c.sr.mv mv (λo E=>m1 _ E) λm u F _=>kb.keep m u (by have:=c.pL;lia);refine⟨by simp[sr.len],λj x l I=>?_,λj x l I=>?_⟩
     .have ne:i≠j:=λz=>I (z▸M);rw[o0 ne] at l;rw[o0 ne];exact sr.fz j x l I
     .by_cases z:i=j
      .subst z;have F:i<env.length:=by have:=(tr.mp l).1;simpa using this
       rw[Cw F] at l;cases l;exact⟨n,G,xs,C,rfl,Cw (by rw[sr.len];exact F),by simp,by have:=c.hL;lia,g,r⟩
      .rw[o0 z] at l;rw[o0 z];exact sr.ow j x l I
    .have old:∀j d,j∈ws->i≠j->(env.set i (some (dl G C)))[j]?=some (some d)->(Z.set i (some (.loc n)))[j]?≠some (some (.loc n)):=λj d I ne l z=>by
      rw[o0 ne] at l z;obtain⟨n',_,_,_,_,Y,b3,_⟩:=c.sr.ow j d l I;rw[z] at Y;cases Y;exact Q b3
     intro a b T X ne x y m R P H;by_cases z1:i=a
     .subst z1;have F:i<Z.length:=by have:=(tr.mp H).1;simpa using this
      rw[Cw F] at H;cases H;exact old b y X ne P
     .by_cases z2:i=b
      .subst z2;intro z;have F:i<Z.length:=by have:=(tr.mp z).1;simpa using this
       rw[Cw F] at z;cases z;exact old a x T z1 R H
      .rw[o0 z1] at R H;rw[o0 z2] at P ⊢;exact d a b T X ne x y m R P H
   .show SOk q L h B O ws _ _ (if x.mine=true then _ else _);rw[g_ u];trivial
end
end PU
namespace PU
open MM
open L2 (z9)
noncomputable section
variable {ws:List Nat}
def PS.turn(r:PS)(k:aG->hB->PS):PS:=match r with
 | .nx e s=>k e s
 | .ct e s=>k e s
 | .bk e s=>.nx e s
 | r=>r
@[simp] theorem vE:(PS.nx e s).turn k=k e s:=rfl
@[simp] theorem turn_ct:(PS.ct e s).turn k=k e s:=rfl
@[simp] theorem turn_bk:(PS.bk e s).turn k=.nx e s:=rfl
@[simp] theorem turn_rt:(PS.rt d s).turn k=.rt d s:=rfl
@[simp] theorem Bo:(PS.exc c e s).turn k=.exc c e s:=rfl
@[simp] theorem AX:(PS.rse c e s).turn k=.rse c e s:=rfl
@[simp] theorem MV:PS.bad.turn k=.bad:=rfl
def C4(g:D->aG->Option aG)(b:aG->hB->PS):List D->aG->hB->PS
 | [],env,s=>.nx env s
 | d::f,env,s=>match g d env with
  | none=>.bad
  | some a=>(b a s).turn (C4 g b f)
def I0(g:Xg ws)(b:Xd ws):∀(F:List D) (xs:List PV) (env:aG) (Z:oe) (h:MH) (O:List Nat) (s:hB),Cx q h L B O ws Z env s->Dis ws Z env->Rps q h O F xs->(∀y∈it.gd,h[y.1]?=some (.lst y.2)/\y.1∉O) ->
  SOk q L h B O ws b.fr (z5 it g.m b.m xs Z h) (C4 g.p b.p F env s):=by
 intro F
 induction F with
 | nil =>
  intro xs env Z h O s c d r gd
  have:xs=[]:=r
  subst this;have ok:it.ok h:=λy C=>(gd y C).1;refine⟨Z,h,by rw[z5];dsimp only;rw[d_ ok],O,Stp.refl _ _ _ _,c,d⟩
 | cons x F Q =>
  intro xs env Z h O s c d r gd;obtain⟨v,G,rfl,M,H⟩:=r;have ok:it.ok h:=λy C=>(gd y C).1;rw[C4]
  cases T:g.p x env with
  | none=>trivial
  | some j =>
   obtain⟨P,R,sr,k⟩:=g.ok c.sr M T;have S:Cx q h L B O ws P j s:=⟨c.bd,c.sub,c.bb,c.pb,c.hL,c.pen,sr⟩;have kb:=b.ok S (d.keep k)
   have em:z5 it g.m b.m (v::G) Z h=(match b.m P h with
    | .nx i f=>z5 it g.m b.m G i f
    | .ct i f=>z5 it g.m b.m G i f
    | .bk i f=>.nx i f
    | .rt v f=>.rt v f
    | .exc e i f=>.exc e i f
    | .rse e i f=>.rse e i f
    | .bad=>.bad):=by rw[z5];dsimp only;(rw[d_ ok,R]) <;> rfl
   rw[em];have E:∀{f:MH} {z:List Nat},Stp q L h O f z->∀y∈it.gd,f[y.1]?=some (.lst y.2)/\y.1∉z:=λst y C=>by
    obtain⟨a,b⟩:=st.mv.get (gd y C).1 (gd y C).2;exact⟨b,a⟩
   dsimp only
   cases u:b.p j s with
   | bad=>trivial
   | nx e2 l =>
    rw[u] at kb;obtain⟨i,f,e1,z,st,J,I⟩:=kb;rw[e1];exact (Q G e2 i f z l J I (H.mv st.mv) (E st)).after st
   | ct e2 l =>
    rw[u] at kb;obtain⟨i,f,e1,z,st,J,I⟩:=kb;rw[e1];exact (Q G e2 i f z l J I (H.mv st.mv) (E st)).after st
   | bk e2 l=>rw[u] at kb;obtain⟨i,f,e1,r⟩:=kb;rw[e1];exact⟨i,f,rfl,r⟩
   | exc x e2 l=>rw[u] at kb;obtain⟨i,f,e1,r⟩:=kb;rw[e1];exact⟨i,f,rfl,r⟩
   | rse x e2 l=>rw[u] at kb;obtain⟨i,f,e1,r⟩:=kb;rw[e1];exact⟨i,f,rfl,r⟩
   | rt x l=>rw[u] at kb;obtain⟨v,f,e1,M,H,U,Y,X⟩:=kb;rw[e1];exact⟨v,f,rfl,M,H,U,Y,X⟩
def dj(i:Xi ws)(g:Xg ws)(b:Xd ws)(z:i.fz=true:=by exact ys rfl):Xd ws where
 m:=lh i.m g.m b.m
 p:=λenv s=>(i.p env s).go env λa env s=>C4 g.p b.p a env s
 fr:=b.fr
 ok {q h L B O Z env s} c d:=SOk.ex (f:=λj=>z5 j g.m b.m j.xs) (g:=λa env s=>C4 g.p b.p a env s) c d (i.ok c) λa j u E kb C r =>
  I0 g b a j.xs env Z u O E C d r.1 λy l=>⟨(r.2.1 y l).1,r.2.2 z y l⟩
def dU(t:aG->hB->PR Bool)(b:aG->hB->PS):Nat->aG->hB->PS
 | 0,_,_=>.bad
 | n+1,env,s=>(t env s).go env λx env s=>if x=true then (b env s).turn (dU t b n) else .nx env s
def qq(t:Xt ws)(b:Xd ws):∀(n:Nat) (env:aG) (Z:oe) (h:MH) (O:List Nat) (s:hB),Cx q h L B O ws Z env s->Dis ws Z env->SOk q L h B O ws b.fr (ck t.m b.m n Z h) (dU t.p b.p n env s)
 | 0,env,Z,h,O,s,c,d=>trivial
 | n+1,env,Z,h,O,s,c,d=>by
  refine SOk.ex (f:=λx=>if x=true then (λZ h=>match b.m Z h with
   | .nx i a=>ck t.m b.m n i a
   | .ct i a=>ck t.m b.m n i a
   | .bk i a=>.nx i a
   | .rt v a=>.rt v a
   | .exc e i a=>.exc e i a
   | .rse e i a=>.rse e i a
   | .bad=>.bad) else ox) (g:=λx env s=>if x=true then (b.p env s).turn (dU t.p b.p n) else .nx env s) c d (t.ok c) λx v H G kb C e=>?_
  subst e
  cases x with
  | false=>exact⟨Z,H,rfl,O,Stp.refl _ _ _ _,C,d⟩
  | true =>
   have k:=b.ok C d;rw[d_ rfl,d_ rfl]
   cases l:b.p env G with
   | bad=>trivial
   | nx e2 j =>
    rw[l] at k;obtain⟨i,a,e1,u,st,z,y⟩:=k;rw[e1];exact (qq t b n e2 i a u j z y).after st
   | ct e2 j =>
    rw[l] at k;obtain⟨i,a,e1,u,st,z,y⟩:=k;rw[e1];exact (qq t b n e2 i a u j z y).after st
   | bk e2 j=>rw[l] at k;obtain⟨i,a,e1,r⟩:=k;rw[e1];exact⟨i,a,rfl,r⟩
   | exc x e2 j=>rw[l] at k;obtain⟨i,a,e1,r⟩:=k;rw[e1];exact⟨i,a,rfl,r⟩
   | rse x e2 j=>rw[l] at k;obtain⟨i,a,e1,r⟩:=k;rw[e1];exact⟨i,a,rfl,r⟩
   | rt x j=>rw[l] at k;obtain⟨v,a,e1,M,I,E,J,F⟩:=k;rw[e1];exact⟨v,a,rfl,M,I,E,J,F⟩
def MX(N:Nat)(t:Xt ws)(b:Xd ws)(f:∀{Z h n},ck t.m b.m n Z h≠.bad->Iy t.m b.m Z h=ck t.m b.m n Z h):Xd ws where
 m:=Iy t.m b.m
 p:=dU t.p b.p N
 fr:=b.fr
 ok {q h L B O Z env s} c d:=by
  have k:=qq t b N env Z h O s c d;by_cases z:ck t.m b.m N Z h=.bad
  .rw[z] at k
   cases e:dU t.p b.p N env s with
   | bad=>trivial
   | nx e2 a=>rw[e] at k;obtain⟨_,_,e1,_⟩:=k;cases e1
   | ct e2 a=>rw[e] at k;obtain⟨_,_,e1,_⟩:=k;cases e1
   | bk e2 a=>rw[e] at k;obtain⟨_,_,e1,_⟩:=k;cases e1
   | exc x e2 a=>rw[e] at k;obtain⟨_,_,e1,_⟩:=k;cases e1
   | rse x e2 a=>rw[e] at k;obtain⟨_,_,e1,_⟩:=k;cases e1
   | rt x a=>rw[e] at k;obtain⟨_,_,e1,_⟩:=k;cases e1
  .rw[f z];exact k
structure Ek where
 m:Nat->List PV->MH->Out PV
 p:List D->List D->Option (D × List D)
 ok:∀{q:Nat} {h:MH} {O:List Nat} {n:Nat} {xs:List PV} {ds as:List D} {vs:List PV} {d:D} {ds':List D},h[n]?=some (.lst xs)->Rps q h O ds xs->Rps q h O as vs->p ds as=some (d,ds')->∃v xs',m n vs h=.ok v (h.set n (.lst xs'))/\Rps q h O ds' xs'/\Rp q h O d v
def uG{q h L B O Z env s n xs' ds' i d0 kd}(c:Cx q h L B O ws Z env s)(d:Dis ws Z env)(G:i∈ws)(e:env[i]?=some (some d0))(E:Z[i]?=some (some (.loc n)))(r:Rps q h O ds' xs') :
  Nxt q L h B O ws Z (h.set n (mo kd xs')) (env.set i (some (dl kd ds'))) s:=by
 obtain⟨n',k0,xs,X,e0,e2,a,b,g,r0⟩:=c.sr.ow i _ e G;rw[E] at e2;cases e2;have mv:Mv O h O (h.set n (mo kd xs')):=⟨λm U T=>o0 (λ(z:n=m)=>T (z▸a)),λo H=>.inl H⟩;have hp:=c.pL;have il:i<env.length:=(tr.mp e).1;refine⟨O,⟨by simp,mv,λ_ h=>h,λm U _=>o0 (by lia)⟩,⟨λo H=>by simpa using c.bd o H,c.sub,c.bb,c.pb,by simpa using c.hL,?_,⟨by simp[c.sr.len],λj x f l=>?_,λj x f l=>?_⟩⟩,?_⟩
 .unfold ci;rw[o0 (by lia)];exact c.pen
 .have ne:i≠j:=λz=>l (z▸G);rw[o0 ne] at f;obtain⟨v,e1,w⟩:=c.sr.fz j x f l;exact⟨v,e1,w.mv mv⟩
 .by_cases z:i=j
  .subst z;rw[Cw il] at f;cases f;exact⟨n,kd,xs',ds',rfl,E,a,b,Cw (aR g),r.mv mv⟩
  .rw[o0 z] at f;obtain⟨m,J,ys,u,e1,e3,Y,P,S,Q⟩:=c.sr.ow j x f l
   have:n≠m:=λy=>d i j G l z _ _ n e f E (y▸e3)
   exact⟨m,J,ys,u,e1,e3,Y,P,by rw[o0 this];exact S,Q.mv mv⟩
 .intro j k l hk ne x y m f R e1;have up:∀j x,(env.set i (some (dl kd ds')))[j]?=some (some x)->∃I,env[j]?=some (some I):=λj x f=>by
   by_cases z:i=j
   .subst z;exact⟨_,e⟩
   .rw[o0 z] at f;exact⟨x,f⟩
  obtain⟨I,F⟩:=up j x f;obtain⟨M,C⟩:=up k y R;exact d j k l hk ne I M m F C e1
def mZ{q h L B O Z env s n xs' ds' i ds}(c:Cx q h L B O ws Z env s)(d:Dis ws Z env)(a:i∈ws)(e:env[i]?=some (some (D.lst ds)))(f:Z[i]?=some (some (.loc n)))(r:Rps q h O ds' xs') :
  Nxt q L h B O ws Z (h.set n (.lst xs')) (env.set i (some (.lst ds'))) s:=uG (kd:=none) c d a e f r
def GK(o:Ek)(i:Nat)(a:Xs ws)(E:i∈ws)(G:a.fz=true){q h L B O Z env s}(c:Cx q h L B O ws Z env s)(d:Dis ws Z env)
  (C:a.p env s=.ok as s1) (H:env[i]?=some (some (.lst ds))) (eo:o.p ds as=some (r,ds')):∃v j n f,KB q h j/\Cx q j L B O ws Z env s1/\Z[i]?=some (some (.loc n))/\C7 o.m (az i) a.m Z h=.ok v (j.set n (.lst f))/\Rps q j O ds' f/\Rp q j O r v:=by
 obtain⟨n,P,xs,J,y,e2,Q,S,g,F⟩:=c.sr.ow i _ H E;obtain⟨rfl,rfl⟩:=fA y;replace g:h[n]?=some (.lst xs):=g;have ka:=a.ok c;rw[C] at ka;obtain⟨R,j,e3,kb,pn,_,l⟩:=ka;have z:=c.kb kb pn;have u:j[n]?=some (.lst xs):=(kb.keep n (aR g) (by have:=c.pL;lia)).trans g;obtain⟨v,f,e4,M,I⟩:=o.ok u (F.mv (kb.mv c.pO)) (l G) eo;refine⟨v,j,n,f,kb,z,e2,?_,M,I⟩;have em:az i Z h=.ok (.loc n) h:=by simp[az,e2]
 show (az i Z h).bind _=_;rw[em];simp only[Out.bind_ok,g,e3,e4,Out.ne_ok]
def Dp(o:Ek)(i:Nat)(a:aG->hB->PR (List D))(env:aG)(s:hB)(k:D->aG->hB->PS):PS:=match a env s with
 | .ok j l=>(match env[i]? with
  | some (some (.lst u))=>(match o.p u j with
   | some (r,f)=>k r (env.set i (some (.lst f))) l
   | none=>.bad)
  | _=>.bad)
 | _=>.bad
def uX(e1:a env s=.ok as s1)(e2:env[i]?=some (some (.lst ds)))(e3:o.p ds as=some (r,ds')):Dp o i a env s k=k r (env.set i (some (.lst ds'))) s1:=by
 simp only[Dp,e1,e2,e3]
def wX:Dp o i a env s k=.bad\/∃j u l r f,a env s=.ok j u/\env[i]?=some (some (.lst l))/\o.p l j=some (r,f)/\Dp o i a env s k=k r (env.set i (some (.lst f))) u:=by
 cases e1:a env s with
 | bad=>left;simp only[Dp,e1]
 | exc _ _=>left;simp only[Dp,e1]
 | ok j u =>
  cases e2:env[i]? with
  | none=>left;simp only[Dp,e1,e2]
  | some x =>
   cases x with
   | none=>left;simp only[Dp,e1,e2]
   | some d =>
    cases d with
    | lst l =>
     cases e3:o.p l j with
     | none=>left;simp only[Dp,e1,e2,e3]
     | some y=>exact .inr ⟨j,u,l,y.1,y.2,rfl,rfl,e3,uX e1 e2 e3⟩
    | _=>left;simp only[Dp,e1,e2]
def Fd(o:Ek)(i:Nat)(a:Xs ws)(y:ws.contains i=true:=by exact ys rfl)(C:a.fz=true:=by exact ys rfl):Xd ws where
 m:=hU (C7 o.m (az i) a.m)
 p:=λenv s=>Dp o i a.p env s λ_=>.nx
 fr:=true
 ok {q h L B O Z env s} c d:=by
  rcases wX (o:=o) (i:=i) (a:=a.p) (env:=env) (s:=s) (k:=λ_=>.nx) with z|⟨H,I,J,r,F,e1,e2,e3,z⟩
  .rw[z];trivial
  .rw[z];have f:i∈ws:=by simpa using y
   obtain⟨v,E,n,j,kb,u,l,em,G,M⟩:=GK o i a f C c d e1 e2 e3;refine⟨Z,E.set n (.lst j),?_,(mZ u d f e2 l G).after (kb.stp c)⟩;unfold hU y_;rw[em];rfl
def ug(j:Nat)(o:Ek)(i:Nat)(a:Xs ws)(I:ws.contains i=true:=by exact ys rfl)(M:ws.contains j=false:=by exact ys rfl)(J:a.fz=true:=by exact ys rfl):Xd ws where
 m:=bM j (C7 o.m (az i) a.m)
 p:=λenv s=>Dp o i a.p env s λr env s=>.nx (env.set j (some r)) s
 fr:=true
 ok {q h L B O Z env s} c d:=by
  rcases wX (o:=o) (i:=i) (a:=a.p) (env:=env) (s:=s) (k:=λr env s=>.nx (env.set j (some r)) s) with z|⟨X,Y,ds,r,R,e1,e2,e3,z⟩
  .rw[z];trivial
  .rw[z];have l:i∈ws:=by simpa using I
   obtain⟨v,P,n,y,kb,G,F,em,H,Q⟩:=GK o i a l J c d e1 e2 e3;obtain⟨U,st,T,S⟩:=(mZ G d l e2 F H).after (kb.stp c);obtain⟨E,u,f,C⟩:=mZ G d l e2 F H;obtain⟨A,b⟩:=f.sr.set (i:=j) (λz=>by simp[z] at M) (Q.mv u.mv);refine⟨Z.set j (some v),P.set n (.lst y),?_,E,(kb.stp c).trans u,⟨f.bd,f.sub,f.bb,f.pb,f.hL,f.pen,A⟩,C.keep b⟩;unfold bM y_;rw[em]
def ff(i:Nat)(e f:aG->hB->PR D)(env:aG)(s:hB):PS:=match e env s with
 | .ok v r=>(match f env r with
  | .ok (.int j) l=>(match env[i]? with
   | some (some (.lst a))=>(match z9 a.length j with
    | some n=>.nx (env.set i (some (.lst (a.set n v)))) l
    | none=>.bad)
   | _=>.bad)
  | _=>.bad)
 | _=>.bad
def iw(e1:e env s=.ok v s1)(e2:ix env s1=.ok (.int j) s2)(e3:env[i]?=some (some (.lst ds)))(e4:z9 ds.length j=some n):ff i e ix env s=.nx (env.set i (some (.lst (ds.set n v)))) s2:=by
 simp only[ff,e1,e2,e3,e4]
def A2:ff i e ix env s=.bad\/∃v f j l a n,e env s=.ok v f/\ix env f=.ok (.int j) l/\env[i]?=some (some (.lst a))/\z9 a.length j=some n/\ff i e ix env s=.nx (env.set i (some (.lst (a.set n v)))) l:=by
 cases e1:e env s with
 | bad=>left;simp only[ff,e1]
 | exc _ _=>left;simp only[ff,e1]
 | ok v f =>
  cases e2:ix env f with
  | bad=>left;simp only[ff,e1,e2]
  | exc _ _=>left;simp only[ff,e1,e2]
  | ok k l =>
   cases k with
   | int j =>
    cases e3:env[i]? with
    | none=>left;simp only[ff,e1,e2,e3]
    | some x =>
     cases x with
     | none=>left;simp only[ff,e1,e2,e3]
     | some d =>
      cases d with
      | lst a =>
       cases e4:z9 a.length j with
       | none=>left;simp only[ff,e1,e2,e3,e4]
       | some n=>exact .inr ⟨v,f,j,l,a,n,rfl,e2,rfl,e4,iw e1 e2 e3 e4⟩
      | _=>left;simp only[ff,e1,e2,e3]
   | _=>left;simp only[ff,e1,e2]
def Vw.int(w:Vw q h L O (.int b) v):v=.int b:=by
 rcases w with r|⟨n,a,xs,f,e,_⟩
 .exact r
 .cases a <;> cases e
def jJ(i:Nat)(e C:Xe ws)(U:ws.contains i=true:=by exact ys rfl)(X:e.fz=true:=by exact ys rfl):Xd ws where
 m:=pr e.m (Gu (az i) C.m)
 p:=ff i e.p C.p
 fr:=true
 ok {q h L B O Z env s} c d:=by
  rcases A2 (i:=i) (e:=e.p) (ix:=C.p) (env:=env) (s:=s) with z|⟨v,s1,j,s2,Y,n,e1,e2,e3,e4,z⟩
  .rw[z];trivial
  .rw[z];have l:i∈ws:=by simpa using U
   have I:=e.ok c;rw[e1] at I;obtain⟨x,G,R,u,E,_,S,_⟩:=I;have J:=c.kb u E;have ki:=C.ok J;rw[e2] at ki;obtain⟨y,r,f2,a,F,w,_,_⟩:=ki;have M:=J.kb a F;obtain⟨f,kd,xs,ai,T,H,b1,b2,g,P⟩:=M.sr.ow i _ e3 l;obtain⟨rfl,rfl⟩:=fA T;replace g:r[f]?=some (.lst xs):=g;have hy:=w.int;subst hy;have em:az i Z G=.ok (.loc f) G:=by simp[az,H]
   have nx:=mZ M d l e3 H (xs':=xs.set n x) (ds':=Y.set n v) (P.set n ((S X).mv (a.mv c.pO)));refine⟨Z,r.set f (.lst (xs.set n x)),?_,nx.after ((u.trans a).stp c)⟩;have e5:nu (.loc f) (.int j) x r=some (r.set f (.lst (xs.set n x))):=by
    simp only[nu,g];rw[P.length,e4];rfl
   have Q:Gu (az i) C.m x Z G=.nx Z (r.set f (.lst (xs.set n x))):=by
    simp only[Gu,y_,em,f2,e5]
   unfold pr y_;rw[R];dsimp only;rw[Q]
def PS.fin(r:PS):PR D:=match r with
 | .nx _ s=>.ok .non s
 | .rt d s=>.ok d s
 | .exc c _ s=>.exc c s
 | .rse c _ s=>.exc c s
 | _=>.bad
@[simp] theorem fin_nx:(PS.nx e s).fin=.ok .non s:=rfl
@[simp] theorem bi:(PS.rt d s).fin=.ok d s:=rfl
@[simp] theorem fin_exc:(PS.exc c e s).fin=.exc c s:=rfl
@[simp] theorem fin_rse:(PS.rse c e s).fin=.exc c s:=rfl
@[simp] theorem Pz:PS.bad.fin=.bad:=rfl
def mh(n:Nat)(a:List D):aG:=a.map some++List.replicate (n - a.length) none
def bK(n B:Nat)(b:Xd ws)(P:ws.all (λi=>decide (B<=i))=true:=by exact ys rfl):Fn where
 m:=fe n B b.m
 p:=λu s=>if u.length=B then (b.p (mh n u) s).fin else .bad
 fr:=b.fr
 ok {q h O vs u s} bd I pn r:=by
  by_cases H:u.length=B
  .rw[d_ H];have hv:vs.length=B:=by rw[r.length];exact H
   have low:∀i d,(mh n u)[i]?=some (some d)->i<B/\u[i]?=some d:=λi d e=>by
    by_cases z:i<u.length
    .refine⟨by lia,?_⟩;unfold mh at e;rw[xu (by simpa using z)] at e;simp at e;simpa using e
    .unfold mh at e;rw[C5 (by simpa using z)] at e;by_cases y:i - (u.map some).length<n - u.length
     .simp[He,y] at e
     .simp at y e;exact absurd e (by simp[He])
   have J:∀i d,(mh n u)[i]?=some (some d)->i∉ws:=λi d e C=>by
    have:=(low i d e).1
    rw[Qf] at P
    have:=P i C
    simp at this;lia
   have c:Cx q h h.length O O ws (cE n vs) (mh n u) s:=by
    refine⟨bd,λ_ h=>h,bd,I,j_ _,pn,⟨by simp[cE,mh,r.length],λi d e _=>?_,λi d e C=>absurd C (J i d e)⟩⟩;obtain⟨v,L,Q⟩:=r.get (low i d e).2;refine⟨v,?_,Q⟩;unfold cE;rw[xu (by simpa using (tr.mp L).1)];simp[L]
   have k:=b.ok c λi j C _ _ d _ _ e=>absurd C (J i d e)
   have em:fe n B b.m vs h=(match b.m (cE n vs) h with
    | .nx _ a=>.ok .non a
    | .rt v a=>.ok v a
    | .exc x _ a=>.exc x a
    | .rse x _ a=>.exc x a
    | _=>.bad):=by unfold fe;(rw[d_ hv]) <;> (cases b.m (cE n vs) h <;> rfl)
   rw[em];have kb:∀{a G},Stp q h.length h O a G->KB q h a:=λst=>⟨st.len,λm R I=>st.base m R I⟩
   cases e:b.p (mh n u) s with
   | nx e1 E=>rw[e] at k;obtain⟨M,a,f,G,st,F,_⟩:=k;rw[f];exact⟨.non,a,rfl,kb st,F.pen,rfl,λ_ k u e=>by cases k <;> cases e⟩
   | exc x e1 E=>rw[e] at k;obtain⟨M,a,f,G,st,F,_⟩:=k;rw[f];exact⟨a,rfl,kb st,F.pen⟩
   | rse x e1 E=>rw[e] at k;obtain⟨M,a,f,G,st,F,_⟩:=k;rw[f];exact⟨a,rfl,kb st,F.pen⟩
   | rt x E=>rw[e] at k;obtain⟨v,a,f,l,b,p,rr,S⟩:=k;rw[f];exact⟨v,a,rfl,⟨l,b⟩,p,rr,S⟩
   | bk e1 E=>trivial
   | ct e1 E=>trivial
   | bad=>trivial
  .rw[g_ H];trivial
end
end PU
namespace PU
open MM SetT SortT
open L2 (z9 nk gv)
noncomputable section
section
variable {q:Nat} {h:MH} {L:Nat} {O:List Nat} {v:PV}
def Vw.non(w:Vw q h L O .non v):v=.non:=by
 rcases w with r|⟨n,a,xs,f,e,_⟩
 .exact r
 .cases a <;> cases e
def Vw.str(w:Vw q h L O (.str x) v):v=.str x:=by
 rcases w with r|⟨n,a,xs,f,e,_⟩
 .exact r
 .cases a <;> cases e
inductive Tv (h:MH) (P:List PV->Prop) (v:PV):Prop
 | mk (n:Nat) (xs:List PV) (e:v=.loc n) (g:h[n]?=some (.lst xs)) (r:P xs):Tv h P v
def Vw.lst(w:Vw q h L O (.lst ds) v):Tv h (Rps q h O ds) v:=by
 rcases w with ⟨n,xs,e,_,g,r⟩|⟨n,f,xs,a,e,e1,_,_,g,r⟩
 .exact⟨n,xs,e,g,r⟩
 .obtain⟨rfl,rfl⟩:=fA e;exact⟨n,xs,e1,g,r⟩
def Vw.tup(w:Vw q h L O (.tup ds) v):Rr (Rps q h O ds) v:=by
 rcases w with r|⟨n,f,xs,a,e,_⟩
 .exact r
 .cases f <;> cases e
def El(r:Rp q h O d v)(hf:fr=true->∀k a,d≠dl k a):Gv q h O fr (.ok v h) d :=
 ⟨v,[],by simp,by simpa using r,λz k a e=>absurd e (hf z k a)⟩
def Dz:Gv q h O fr (.ok (.int i) h) (.int i):=El rfl λ_ k _ e=>by cases k <;> cases e
def I_:Gv q h O fr (.ok (.bl i) h) (.bl i):=El rfl λ_ k _ e=>by cases k <;> cases e
def fc(w:Vws q h L O [d] vs):∃x,vs=[x]/\Vw q h L O d x:=by
 obtain⟨x,r,e,a,b⟩:=w
 have:r=[]:=b
 subst this;exact⟨x,e,a⟩
def MY(w:Vws q h L O [d,d'] vs):∃x y,vs=[x,y]/\Vw q h L O d x/\Vw q h L O d' y:=by
 obtain⟨x,r,e,a,b⟩:=w;obtain⟨y,rfl,c⟩:=fc b;exact⟨x,y,e,a,c⟩
end
def Ja(m:PV->PV->MH->Out PV)(f:Int->Int->D)(g:Int->Int->PV)(r:∀i j h,m (.int i) (.int j) h=.ok (g i j) h)(l:∀i j q h O fr,Gv q h O fr (.ok (g i j) h) (f i j)):BD where
 m:=m
 p:=λa b=>match a,b with
  | .int i,.int j=>some (f i j)
  | _,_=>none
 fr:=true
 ok {q h L O a x b y d} bd wa wb e:=by
  cases a with
  | int i =>
   cases b with
   | int j=>cases e;rw[wa.int,wb.int,r];exact l i j q h O true
   | _=>cases e
  | _=>cases e
def dS:BD:=Ja C2 (λi j=>.int (i - j)) (λi j=>.int (i - j)) (λ_ _ _=>rfl) λ_ _ _ _ _ _=>Dz
def PB:BD:=Ja DM (λi j=>.bl (decide (i<j))) (λi j=>.bl (decide (i<j))) (λ_ _ _=>rfl) λ_ _ _ _ _ _=>I_
def Jb:BD:=Ja DN (λi j=>.bl (decide (j<i))) (λi j=>.bl (decide (j<i))) (λ_ _ _=>rfl) λ_ _ _ _ _ _=>I_
def bS:BD where
 m:=l7
 p:=λa b=>match a,b with
  | .int i,.int j=>some (.int (i+j))
  | .lst x,.lst y=>if x.length+y.length<=100000 then some (.lst (x++y)) else none
  | .tup (a::x),.tup y=>if x.length+1+y.length<=100000 then some (.tup (a::x++y)) else none
  | _,_=>none
 fr:=true
 ok {q h L O a x b y d} bd wa wb e:=by
  cases a with
  | int i =>
   cases b with
   | int j=>cases e;rw[wa.int,wb.int];exact Dz
   | _=>cases e
  | lst x =>
   cases b with
   | lst y =>
    dsimp only at e;by_cases z:x.length+y.length<=100000
    .rw[d_ z] at e;cases e;obtain⟨n,xs,rfl,g,r⟩:=wa.lst;obtain⟨u,ys,rfl,l,f⟩:=wb.lst;show Gv q h O true (match h[n]?,h[u]? with | some (.lst xs),some (.lst ys)=>ql (xs++ys) h | _,_=>.bad) _;rw[g,l];exact jU bd (r.app f) (by simpa using z)
    .rw[g_ z] at e;cases e
   | _=>cases e
  | tup x =>
   cases x with
   | nil=>cases b <;> cases e
   | cons a x =>
    cases b with
    | tup y =>
     dsimp only at e;by_cases z:x.length+1+y.length<=100000
     .rw[d_ z] at e;cases e;obtain⟨xs,rfl,r⟩:=wa.tup;obtain⟨ys,rfl,f⟩:=wb.tup;have ne:xs≠[]:=λz=>by have:=r.length;simp[z] at this
      show Gv q h O true (if xs≠[] then z_ (xs++ys) h else .bad) _;rw[d_ ne];exact vp (r.app f) (by simp;lia)
     .rw[g_ z] at e;cases e
    | _=>cases e
  | _=>cases e
def Rps.rep(r:Rps q h O ds xs):∀n,Rps q h O (List.replicate n ds).flatten (List.replicate n xs).flatten
 | 0=>rfl
 | n+1=>by
  rw[DF,DF,Ep,Ep];exact r.app (Rps.rep r n)
def cH:BD where
 m:=lp
 p:=λa b=>match a,b with
  | .int i,.int j=>if IntMulOk i j then some (.int (i * j)) else none
  | .lst x,.int j=>if (0<=j/\j<=1000)/\((List.replicate j.toNat x).flatten).length<=100000 then some (.lst (List.replicate j.toNat x).flatten) else none
  | _,_=>none
 fr:=true
 ok {q h L O a x b y d} bd wa wb e:=by
  cases a with
  | int i =>
   cases b with
   | int j =>
    dsimp only at e;by_cases z:IntMulOk i j
    .rw[d_ z] at e;cases e;rw[wa.int,wb.int];show Gv q h O true (if IntMulOk i j then .ok (.int (i * j)) h else .bad) _;rw[d_ z];exact Dz
    .rw[g_ z] at e;cases e
   | _=>cases e
  | lst x =>
   cases b with
   | int j =>
    dsimp only at e;by_cases z:(0<=j/\j<=1000)/\((List.replicate j.toNat x).flatten).length<=100000
    .rw[d_ z] at e;cases e;obtain⟨n,xs,rfl,g,r⟩:=wa.lst;rw[wb.int];show Gv q h O true (match h[n]? with | some (.lst xs)=>if -(2 ^ 63)<=j/\j<2 ^ 63 then ql (List.flatten (List.replicate j.toNat xs)) h else .bad | _=>.bad) _;rw[g];dsimp only;rw[d_ (by lia)];exact jU bd (r.rep _) z.2
    .rw[g_ z] at e;cases e
   | _=>cases e
  | _=>cases e
def C8:BD where
 m:=De
 p:=λa b=>match a,b with
  | .int i,.int j=>if j≠0 then some (.int (i.fdiv j)) else none
  | _,_=>none
 fr:=true
 ok {q h L O a x b y d} bd wa wb e:=by
  cases a with
  | int i =>
   cases b with
   | int j =>
    dsimp only at e;by_cases z:j≠0
    .rw[d_ z] at e;cases e;rw[wa.int,wb.int];show Gv q h O true (if j≠0 then .ok (.int (i.fdiv j)) h else .bad) _;rw[d_ z];exact Dz
    .rw[g_ z] at e;cases e
   | _=>cases e
  | _=>cases e
def og:BD where
 m:=ny
 p:=λa b=>match a,b with
  | .int i,.int j=>if j≠0 then some (.int (i.fmod j)) else none
  | _,_=>none
 fr:=true
 ok {q h L O a x b y d} bd wa wb e:=by
  cases a with
  | int i =>
   cases b with
   | int j =>
    dsimp only at e;by_cases z:j≠0
    .rw[d_ z] at e;cases e;rw[wa.int,wb.int];show Gv q h O true (if j≠0 then .ok (.int (i.fmod j)) h else .bad) _;rw[d_ z];exact Dz
    .rw[g_ z] at e;cases e
   | _=>cases e
  | _=>cases e
def td:BD where
 m:=sv
 p:=λa b=>match a,b with
  | .int i,.int j=>if gv i j then some (.int (i ^ j.toNat)) else none
  | _,_=>none
 fr:=true
 ok {q h L O a x b y d} bd wa wb e:=by
  cases a with
  | int i =>
   cases b with
   | int j =>
    dsimp only at e;by_cases z:gv i j
    .rw[d_ z] at e;cases e;rw[wa.int,wb.int];show Gv q h O true (if gv i j then .ok (.int (i ^ j.toNat)) h else .bad) _;rw[d_ z];exact Dz
    .rw[g_ z] at e;cases e
   | _=>cases e
  | _=>cases e
def h8:BD where
 m:=bu
 p:=λa b=>match a,b with
  | .lst x,.int j=>nk x j
  | .tup x,.int j=>nk x j
  | _,_=>none
 fr:=false
 ok {q h L O a x b y d} bd wa wb e:=by
  have at':∀{f:List D} {xs:List PV} {j:Int},Rps q h O f xs->nk f j=some d->∃v,nk xs j=some v/\Rp q h O d v:=λ{f xs j} r e=>by
   unfold nk at e ⊢;rw[r.length]
   cases e1:z9 f.length j with
   | none=>rw[e1] at e;cases e
   | some k=>rw[e1] at e;exact r.get e
  cases b with
  | int j =>
   rw[wb.int]
   cases a with
   | lst f =>
    obtain⟨n,xs,rfl,g,r⟩:=wa.lst;obtain⟨v,e1,i⟩:=at' r e;show Gv q h O false (match h[n]? with | some (.lst xs)=>(match nk xs j with | some v=>.ok v h | none=>.bad) | _=>.bad) _;rw[g];dsimp only;rw[e1];exact El i λz=>by cases z
   | tup f =>
    obtain⟨xs,rfl,r⟩:=wa.tup;obtain⟨v,e1,i⟩:=at' r e;show Gv q h O false (match nk xs j with | some v=>.ok v h | none=>.bad) _;rw[e1];exact El i λz=>by cases z
   | _=>cases e
  | _=>cases a <;> cases e
mutual
def py:D->Option PyData
 | .non=>some .none
 | .bl b=>some (.bool b)
 | .int i=>some (.int i)
 | .str x=>some (.str x)
 | .tup a=>(AS a).map .tuple
 | .lst a=>(AS a).map .list
 | _=>none
def AS:List D->Option (List PyData)
 | []=>some []
 | d::a=>match py d,AS a with
  | some x,some xs=>some (x::xs)
  | _,_=>none
end
mutual
def dep:D->Nat
 | .tup a=>1+q7 a
 | .lst a=>1+q7 a
 | _=>0
def q7:List D->Nat
 | []=>0
 | d::a=>max (dep d) (q7 a)
end
def wv(d:D):(∀(v:PV) (e:PyData) (n:Nat),Rp q h O d v->py d=some e->dep d<=n->rd n h v=some e):=by
 refine D.rec (motive_1:=λd=>∀(v:PV) (e:PyData) (n:Nat),Rp q h O d v->py d=some e->dep d<=n->rd n h v=some e)
  (motive_2:=λf=>∀(j:List PV) (i:List PyData) (n:Nat),Rps q h O f j->AS f=some i->q7 f<=n->cq (rd n h) j=some i)
  (λv _ n r e _=>?_) (λb v _ n r e _=>?_) (λb v _ n r e _=>?_) (λb v _ n r e _=>?_) (λf u v e n r l hd=>?_) (λf u v e n r l hd=>?_) (λ_ _ _ _ _ _ _ _ e _=>?_) (λ_ _ _ _ _ e _=>?_) (λ_ _ _ _ e _=>?_)
  (λj i n r e _=>?_) (λd f C z j i n r e hd=>?_) d
 .rw[show v=PV.non from r];cases e;cases n <;> rfl
 .rw[show v=PV.bl b from r];cases e;cases n <;> rfl
 .rw[show v=PV.int b from r];cases e;cases n <;> rfl
 .rw[show v=PV.str b from r];cases e;cases n <;> rfl
 .obtain⟨xs,ex,r⟩:=r;subst ex;rw[py,Bv] at l;obtain⟨i,e1,rfl⟩:=l;rw[dep] at hd
  cases n with
  | zero=>lia
  | succ n=>simp only[rd];rw[u _ _ n r e1 (by lia)];rfl
 .obtain⟨m,xs,ex,_,g,r⟩:=r;subst ex;rw[py,Bv] at l;obtain⟨i,e1,rfl⟩:=l;rw[dep] at hd
  cases n with
  | zero=>lia
  | succ n=>simp only[rd,g];rw[u _ _ n r e1 (by lia)];rfl
 .simp[py] at e
 .simp[py] at e
 .simp[py] at e
 .rw[show j=[] from r];rw[AS] at e;cases e;rfl
 .obtain⟨x,t,ex,a,b⟩:=r;subst ex;rw[q7] at hd;rw[AS] at e
  cases e1:py d with
  | none=>rw[e1] at e;cases e
  | some y =>
   cases e2:AS f with
   | none=>rw[e1,e2] at e;cases e
   | some ys =>
    rw[e1,e2] at e;cases e;have E:=C _ _ n a e1 (by lia);have B:=z _ _ n b e2 (by lia);simp only[cq,E,B]
def GL(r:Rp q h O d v)(a:py d=some e)(hd:dep d<=n):rd n h v=some e:=wv d v e n r a hd
def sD(r:Rps q h O ds vs)(a:AS ds=some es)(hd:q7 ds<=n):cq (rd n h) vs=some es:=by
 have:=wv (.tup ds) (.tup vs) (.tuple es) (n+1) (show Rp q h O (.tup ds) (.tup vs) from⟨vs,rfl,r⟩) (by rw[py,a];rfl) (by rw[dep];lia)
 simp only[rd] at this
 cases z:cq (rd n h) vs with
 | none=>rw[z] at this;cases this
 | some y=>rw[z] at this;cases this;rfl
def o5(w:Vw q h L O d v)(a:py d=some e)(hd:dep d<=60):rd 60 h v=some e:=by
 rcases w with r|⟨n,f,xs,l,rfl,rfl,_,_,g,r⟩
 .exact GL r a hd
 .cases f with
  | some _=>simp[dl,py] at a
  | none =>
   replace g:h[n]?=some (.lst xs):=g;unfold dl at a hd;rw[py,Bv] at a;obtain⟨j,e1,rfl⟩:=a;rw[dep] at hd;have i:=sD (n:=59) r e1 (by lia);show (match h[n]? with | some (.lst xs)=>(cq (rd 59 h) xs).map PyData.list | _=>none)=_;rw[g];dsimp only;rw[i];rfl
def AZ(f:Bool)(a b:D):Option D:=match py a,py b with
 | some x,some y=>if (dep a<=60/\dep b<=60)/\SeqAt.shaped x=true/\SeqAt.shaped y=true then some (.bl (if f then !PyData.eqv x y else PyData.eqv x y)) else none
 | _,_=>none
def wu(e:AZ neg a b=some d):∃x y,py a=some x/\py b=some y/\(dep a<=60/\dep b<=60)/\(SeqAt.shaped x=true/\SeqAt.shaped y=true)/\d=.bl (if neg then !PyData.eqv x y else PyData.eqv x y):=by
 unfold AZ at e
 cases e1:py a with
 | none=>rw[e1] at e;cases e
 | some x =>
  cases e2:py b with
  | none=>rw[e1,e2] at e;cases e
  | some y =>
   rw[e1,e2] at e;dsimp only at e;by_cases z:(dep a<=60/\dep b<=60)/\SeqAt.shaped x=true/\SeqAt.shaped y=true
   .rw[d_ z] at e;cases e;exact⟨x,y,rfl,rfl,z.1,z.2,rfl⟩
   .rw[g_ z] at e;cases e
def CV:BD where
 m:=CA
 p:=AZ false
 fr:=true
 ok {q h L O a x b y d} bd wa wb e:=by
  obtain⟨u,w,e1,e2,hd,f,rfl⟩:=wu e;unfold CA;rw[o5 wa e1 hd.1,o5 wb e2 hd.2];dsimp only;rw[d_ f];exact I_
def vr:BD where
 m:=CC
 p:=AZ true
 fr:=true
 ok {q h L O a x b y d} bd wa wb e:=by
  obtain⟨u,w,e1,e2,hd,f,rfl⟩:=wu e;unfold CC;rw[o5 wa e1 hd.1,o5 wb e2 hd.2];dsimp only;rw[d_ f];exact I_
def Vw.seqOf(w:Vw q h L O d v)(e:d.items=some ds):∃xs,MM.dg h v=some xs/\Rps q h O ds xs:=by
 cases d with
 | lst a=>cases e;obtain⟨n,xs,rfl,g,r⟩:=w.lst;exact⟨xs,by simp[MM.dg,g],r⟩
 | tup a=>cases e;obtain⟨xs,rfl,r⟩:=w.tup;exact⟨xs,rfl,r⟩
 | _=>cases e
def GN(f:Bool)(a b:D):Option D:=match b.items with
 | some i=>(match py a,AS i with
  | some x,some ys=>if (dep a<=60/\q7 i<=60)/\x.canLay0=true/\PyData.canLayAll0 ys=true then some (.bl (if f then !ys.any (λe=>PyData.eqv e x) else ys.any (λe=>PyData.eqv e x))) else none
  | _,_=>none)
 | none=>none
def MZ(f:Bool):BD where
 m:=E1 f
 p:=GN f
 fr:=true
 ok {q h L O a x b y d} bd wa wb e:=by
  unfold GN at e
  cases i:b.items with
  | none=>rw[i] at e;cases e
  | some j =>
   rw[i] at e;dsimp only at e
   cases e1:py a with
   | none=>rw[e1] at e;cases e
   | some u =>
    cases e2:AS j with
    | none=>rw[e1,e2] at e;cases e
    | some l =>
     rw[e1,e2] at e;dsimp only at e;by_cases z:(dep a<=60/\q7 j<=60)/\u.canLay0=true/\PyData.canLayAll0 l=true
     .rw[d_ z] at e;cases e;obtain⟨xs,B,r⟩:=wb.seqOf i;unfold E1;rw[B,o5 wa e1 z.1.1];dsimp only;rw[sD r e2 z.1.2];dsimp only;rw[d_ z.2];exact I_
     .rw[g_ z] at e;cases e
end
noncomputable section
def tS:Py where
 m:=DP
 p:=λa=>match a with
  | .int i=>some (.int (-i))
  | _=>none
 fr:=true
 ok {q h L O a x d} bd w e:=by
  cases a with
  | int i=>cases e;rw[w.int];exact Dz
  | _=>cases e
def Em:D->Option String
 | .non=>some "NoneType"
 | .bl _=>some "bool"
 | .int _=>some "int"
 | .str _=>some "str"
 | .tup _=>some "tuple"
 | .lst _=>some "list"
 | .dic _ _ _=>some "dict"
 | _=>none
def M0(w:Vw q h L O d v)(e:Em d=some t):GA h v=some t:=by
 cases d with
 | non=>cases e;rw[w.non];rfl
 | bl b=>cases e;rw[w.bl];rfl
 | int b=>cases e;rw[w.int];rfl
 | str b=>cases e;rw[w.str];rfl
 | tup b=>cases e;obtain⟨xs,rfl,_⟩:=w.tup;rfl
 | lst b=>cases e;obtain⟨n,xs,rfl,g,_⟩:=w.lst;simp[GA,g]
 | dic fz i j =>
  cases e;rcases w with ⟨n,xs,rfl,_,g,_⟩|⟨n,a,xs,f,e,rfl,_,_,g,_⟩
  .simp[GA,g]
  .cases a with
   | none=>cases e
   | some _=>simp[GA,g,mo]
 | _=>cases e
def dr(f:List String):Py where
 m:=u5 f
 p:=λa=>(Em a).map λt=>.bl (f.any (eT t))
 fr:=true
 ok {q h L O a x d} bd w e:=by
  rw[Bv] at e;obtain⟨t,e1,rfl⟩:=e;unfold u5;rw[M0 w e1];exact I_
def pN:Dx where
 k:=λxs h=>(CM xs h).ne
 p:=λf=>match f with
  | [.int i]=>some (.int (if i<0 then -i else i))
  | _=>none
 fr:=true
 ok {q h L O f xs d} bd w e:=by
  match f,e with
  | [.int i],e=>cases e;obtain⟨x,rfl,a⟩:=fc w;rw[a.int];exact Dz
def jz:Dx where
 k:=λxs h=>(DQ xs h).ne
 p:=λf=>match f with
  | [.int i]=>some (.int i)
  | [.bl b]=>some (.int (if b then 1 else 0))
  | _=>none
 fr:=true
 ok {q h L O f xs d} bd w e:=by
  match f,e with
  | [.int i],e=>cases e;obtain⟨x,rfl,a⟩:=fc w;rw[a.int];exact Dz
  | [.bl i],e=>cases e;obtain⟨x,rfl,a⟩:=fc w;rw[a.bl];exact Dz
def cr:Dx where
 k:=λxs h=>(vl xs h).ne
 p:=λi=>match i with
  | [.lst f]=>some (.int f.length)
  | [.tup f]=>some (.int f.length)
  | [.str x]=>if x.length<=sizeLine then some (.int x.length) else none
  | _=>none
 fr:=true
 ok {q h L O i xs d} bd w e:=by
  match i,e with
  | [.lst f],e =>
   cases e;obtain⟨x,rfl,a⟩:=fc w;obtain⟨n,ys,rfl,g,r⟩:=a.lst;simp only[vl,g];rw[r.length];exact Dz
  | [.tup f],e =>
   cases e;obtain⟨x,rfl,a⟩:=fc w;obtain⟨ys,rfl,r⟩:=a.tup;simp only[vl];rw[r.length];exact Dz
  | [.str x],e =>
   dsimp only at e;by_cases z:x.length<=sizeLine
   .rw[d_ z] at e;cases e;obtain⟨x,rfl,a⟩:=fc w;rw[a.str];simp only[vl];rw[d_ z];exact Dz
   .rw[g_ z] at e;cases e
def jc:Dx where
 k:=λxs h=>(C3 xs h).ne
 p:=λi=>match i with
  | [d]=>d.items.bind λf=>if f.length<=100000 then some (.lst f) else none
  | _=>none
 fr:=true
 ok {q h L O i xs d} bd w e:=by
  match i,e with
  | [a],e =>
   obtain⟨x,rfl,l⟩:=fc w;rw[Ou] at e;obtain⟨f,e1,e2⟩:=e;obtain⟨xs,e3,r⟩:=l.seqOf e1;by_cases z:f.length<=100000
   .rw[d_ z] at e2;cases e2;obtain⟨v,g,e4,u,j⟩:=jU bd r z;exact⟨v,g,by simp only[C3,e3];rw[e4];rfl,u,j⟩
   .rw[g_ z] at e2;cases e2
def fF:Dx where
 k:=λxs h=>(CN xs h).ne
 p:=λf=>match f with
  | [d]=>d.items.map .tup
  | _=>none
 fr:=true
 ok {q h L O f xs d} bd w e:=by
  match f,e with
  | [a],e =>
   obtain⟨x,rfl,i⟩:=fc w;rw[Bv] at e;obtain⟨j,e1,rfl⟩:=e;obtain⟨xs,e3,r⟩:=i.seqOf e1;simp only[CN,e3];exact El ⟨xs,rfl,r⟩ λ_ k _ e=>by cases k <;> cases e
def kC:List D->Option (List Int)
 | []=>some []
 | .int b::r=>(kC r).map (b::·)
 | _=>none
def sB:∀{f:List D} {xs:List PV} {bs:List Int},Rps q h O f xs->kC f=some bs->xs=bs.map .int
 | [],_,_,r,e=>by rw[show _=[] from r];cases e;rfl
 | d::f,_,bs,⟨x,t,ex,a,b⟩,e=>by
  subst ex
  cases d with
  | int c =>
   rw[show x=PV.int c from a];rw[kC,Bv] at e;obtain⟨i,e1,rfl⟩:=e;rw[sB b e1];rfl
  | _=>cases e
def qJ:∀(bs:List Int),kM (bs.map .int)=some bs
 | []=>rfl
 | b::bs=>by rw[m3,kM,qJ bs];rfl
def iG:∀(bs:List Int),Rps q h O (bs.map .int) (bs.map .int)
 | []=>rfl
 | b::bs=>⟨_,_,rfl,rfl,iG bs⟩
def Vw.lstOf(w:Vw q h L O (.lst ds) v):∃xs,MM.hZ h v=some xs/\Rps q h O ds xs:=by
 obtain⟨n,xs,rfl,g,r⟩:=w.lst;exact⟨xs,by simp[MM.hZ,g],r⟩
def Uf(bd:Bd h O)(r:∀h O,Rps q h O ds xs):Gv q h O true (.ok (.loc h.length) (h++[.lst xs])) (.lst ds):=by
 have g:(h++[MO.lst xs])[h.length]?=some (.lst xs):=by simp
 exact⟨_,_,rfl,⟨_,_,rfl,λz=>by have:=bd _ z;ext,g,r _ _⟩,λ_ k a e=>by obtain⟨rfl,rfl⟩:=fA e;exact⟨_,_,rfl,j_ _,g,r _ _⟩⟩
def d6(lo:Int)(n:Nat):List D:=(List.range n).map λ(i:Nat)=>D.int (lo+(i:Int))
def Fe:Rps q h O (d6 lo n) (bZ lo n):=by
 have:=iG (q:=q) (h:=h) (O:=O) ((List.range n).map λ(i:Nat)=>lo+(i:Int))
 rw[oF,oF] at this;exact this
def wh:MQ where
 k:=λl i=>match l with
  | [.int j]=>if -(2 ^ 62)<=j/\j<2 ^ 62 then .ok ⟨bZ 0 j.toNat,[]⟩ i else .bad
  | _=>.bad
 p:=λf=>match f with
  | [.int j]=>if -100000<=j/\j<=100000 then some (d6 0 j.toNat) else none
  | _=>none
 ok {q h L O f xs d} hq hO bd w e:=by
  match f,e with
  | [.int j],e =>
   obtain⟨x,rfl,r⟩:=fc w;rw[r.int];dsimp only at e;by_cases z:-100000<=j/\j<=100000
   .rw[d_ z] at e;cases e;dsimp only;rw[d_ ⟨by ext,by ext⟩];exact⟨_,rfl,Fe,(λ_ a=>nomatch a),λ_ _ a=>nomatch a⟩
   .rw[g_ z] at e;cases e
def Vw.sqAny(u:q<L)(l:q∈O)(w:Vw q h L O d v)(e:d.items=some ds):∃t xs gd,MM.cu v h=some (t,xs,gd)/\Rps q h O ds xs/\(∀g∈gd,h[g.1]?=some (.lst g.2)/\g.1≠q)/\(Rp q h O d v->∀g∈gd,g.1∉O):=by
 obtain⟨xs,gd,e1,r,f,i⟩:=w.seq u l e
 cases d with
 | lst j =>
  cases e;obtain⟨n,ys,rfl,g,a⟩:=w.lst;simp only[yp,g] at e1;cases e1;exact⟨false,xs,[(n,xs)],by simp[MM.cu,g],a,f,i⟩
 | tup j =>
  cases e;obtain⟨ys,rfl,a⟩:=w.tup;simp only[yp] at e1;cases e1;exact⟨true,_,[],rfl,a,f,i⟩
 | _=>cases e
def rW(a:List D):List D:=a.zipIdx.map λp=>.tup [.int (p.2:Int),p.1]
def gU(xs ys:List D):List D:=(xs.zip ys).map λp=>.tup [p.1,p.2]
def sJ:∀{f:List D} {xs:List PV} (n:Nat),Rps q h O f xs->Rps q h O ((f.zipIdx n).map λp=>.tup [.int (p.2:Int),p.1]) ((xs.zipIdx n).map λp=>.tup [.int (p.2:Int),p.1])
 | [],_,_,r=>by rw[show _=[] from r];rfl
 | d::f,_,n,⟨x,t,e,a,b⟩=>by
  subst e;exact⟨_,_,rfl,⟨_,rfl,⟨_,_,rfl,rfl,⟨_,_,rfl,a,rfl⟩⟩⟩,sJ (n+1) b⟩
def pK:∀{j f:List D} {xs ys:List PV},Rps q h O j xs->Rps q h O f ys->Rps q h O (gU j f) (fI xs ys)
 | [],_,_,_,r,_=>by rw[show _=[] from r];simp[gU,fI];rfl
 | _::_,[],_,_,r,l=>by rw[show _=[] from l];simp[gU,fI];rfl
 | d::j,e::f,_,_,⟨x,t,e1,a,b⟩,⟨B,z,i,u,y⟩=>by
  subst e1 i;exact⟨_,_,rfl,⟨_,rfl,⟨_,_,rfl,a,⟨_,_,rfl,u,rfl⟩⟩⟩,pK b y⟩
def iE:MQ where
 k:=λy i=>match y with
  | [x]=>(match cu x i with
   | some (_,xs,gd)=>.ok ⟨ju xs,gd⟩ i
   | none=>.bad)
  | _=>.bad
 p:=λf=>match f with
  | [d]=>d.items.map rW
  | _=>none
 ok {q h L O f xs d} hq hO bd w e:=by
  match f,e with
  | [a],e =>
   obtain⟨x,rfl,u⟩:=fc w;rw[Bv] at e;obtain⟨C,e1,rfl⟩:=e;obtain⟨t,ys,gd,e2,r,j,l⟩:=u.sqAny hq hO e1;refine⟨⟨ju ys,gd⟩,by simp only[e2],sJ 0 r,j,λz=>l ?_⟩;obtain⟨E,B,e3,a,_⟩:=z;cases e3;exact a
def iZ:MQ where
 k:=λP E=>match P with
  | [x,y]=>(match cu x E,cu y E with
   | some (_,xs,f),some (_,ys,u)=>.ok ⟨fI xs ys,f++u⟩ E
   | _,_=>.bad)
  | _=>.bad
 p:=λC=>match C with
  | [d,e]=>d.items.bind λxs=>e.items.map λys=>gU xs ys
  | _=>none
 ok {q h L O C xs d} hq hO bd w e:=by
  match C,e with
  | [a,b],e =>
   obtain⟨x,y,rfl,J,I⟩:=MY w;rw[Ou] at e;obtain⟨U,e1,e⟩:=e;rw[Bv] at e;obtain⟨T,e2,rfl⟩:=e;obtain⟨t,ys,gd,Q,r,f,u⟩:=J.sqAny hq hO e1;obtain⟨X,i,B,G,H,j,l⟩:=I.sqAny hq hO e2;refine⟨⟨fI ys i,gd++B⟩,by simp only[Q,G],pK r H,λg F=>?_,λz g F=>?_⟩
   .rcases CZ.mp F with z|z
    .exact f g z
    .exact j g z
   .obtain⟨Z,H,e3,R,S,Y,e4,M,_⟩:=z;cases e3;cases e4;rcases CZ.mp F with z|z
    .exact u R g z
    .exact l M g z
def jI(xs:List D)(lo a:Option Int):List D:=(xs.drop (HT.mw xs.length 0 lo)).take (HT.mw xs.length xs.length a - HT.mw xs.length 0 lo)
def wP(lo a:Option Int)(r:Rps q h O ds xs):Rps q h O (jI ds lo a) (gp xs lo a):=by
 unfold jI gp;rw[r.length];exact (r.drop _).take _
structure Xo (ws:List Nat) where
 m:Mx (Option Int)
 p:aG->hB->PR (Option Int)
 ok:∀{q h L B O Z env s},Cx q h L B O ws Z env s->Ok q h (m Z h) (p env s) (λ_ a b=>a=b)
section
variable {ws:List Nat}
def Jc:Xo ws where
 m:=Tg
 p:=λ_ s=>.ok none s
 ok {q h L B O Z env s} c:=⟨none,h,rfl,KB.refl _ _,c.pen,rfl⟩
def Jd(e:Xe ws):Xo ws where
 m:=Th e.m
 p:=λenv s=>(e.p env s).bind λd s=>match d with
  | .int i=>.ok (some i) s
  | _=>.bad
 ok {q h L B O Z env s} c:=by
  refine (e.ok c).bind λx v a l j f ⟨w,_,_⟩=>?_
  cases x with
  | int i=>rw[w.int];exact⟨some i,a,rfl,KB.refl _ _,f,rfl⟩
  | _=>trivial
def Je(d:D)(lo f:Option Int):Option D:=match d with
 | .lst a=>some (.lst (jI a lo f))
 | .tup a=>if HT.mw a.length 0 lo=0/\HT.mw a.length a.length f=a.length then none else some (.tup (jI a lo f))
 | _=>none
def M4(bd:Bd h O)(w:Vw q h L O a x)(e:Je a lo hi=some d):Gv q h O true (II x lo hi h) d:=by
 cases a with
 | lst f =>
  cases e;obtain⟨n,xs,rfl,g,r⟩:=w.lst;simp only[II,g];have r:=wP lo hi r;have m:Mv O h O (h++[MO.lst (gp xs lo hi)]):=⟨λn i _=>xu i,λo j=>.inl j⟩
  have u:Mv O h (h.length::O) (h++[MO.lst (gp xs lo hi)]):=⟨λn i _=>xu i,λo j=>by
   rcases ml.mp j with z|z
   .exact .inr (by ext)
   .exact .inl z⟩
  have g:(h++[MO.lst (gp xs lo hi)])[h.length]?=some (.lst (gp xs lo hi)):=by simp
  exact⟨_,_,rfl,⟨_,_,rfl,λz=>by have:=bd _ z;ext,g,r.mv m⟩,λ_ k l e=>by obtain⟨rfl,rfl⟩:=fA e;exact⟨_,_,rfl,j_ _,g,r.mv u⟩⟩
 | tup f =>
  unfold Je at e;dsimp only at e;by_cases z:HT.mw f.length 0 lo=0/\HT.mw f.length f.length hi=f.length
  .rw[d_ z] at e;cases e
  .rw[g_ z] at e;cases e;obtain⟨xs,rfl,r⟩:=w.tup;simp only[II];rw[r.length,g_ z];exact El ⟨_,rfl,wP lo hi r⟩ λ_ k _ e=>by cases k <;> cases e
 | _=>cases e
def Jf(a:Xe ws)(lo i:Xo ws):Xe ws where
 m:=Ti a.m lo.m i.m
 p:=λenv s=>(a.p env s).bind λx s=>(lo.p env s).bind λl s=>(i.p env s).bind λu s=>.of (Je x l u) s
 fz:=true
 fr:=true
 ok {q h L B O Z env s} c:=by
  refine (a.ok c).bind λx v T S z J ⟨w,_,_⟩=>?_;have E:=c.kb z J;refine (lo.ok E).bind λl Q U X f G e=>?_;subst e;have F:=E.kb f G;refine (i.ok F).bind λu P R M j C e=>?_;subst e;have I:=F.kb j C
  cases e:Je x l u with
  | none=>trivial
  | some d =>
   obtain⟨y,g,e1,r,H⟩:=M4 I.bd ((w.kb f c.pO c.pL).kb j c.pO c.pL) e;exact Dy (yi (yi z.len f.len) j.len) C ⟨y,g,by rw[e1];rfl,r,H⟩
end
def A4:Ek where
 m:=mD
 p:=λf i=>match i with
  | [a]=>if f.length<100000 then some (.non,f++[a]) else none
  | _=>none
 ok {q h O n xs f i vs d ds'} g r ra e:=by
  match i,e with
  | [a],e =>
   obtain⟨x,t,rfl,a,b⟩:=ra
   have:t=[]:=b
   subst this;dsimp only at e;by_cases z:f.length<100000
   .rw[d_ z] at e;cases e;refine⟨.non,xs++[x],?_,r.app ⟨x,[],rfl,a,rfl⟩,rfl⟩;simp only[mD,g];rw[d_ (by have:=gi;rw[r.length];ext)]
   .rw[g_ z] at e;cases e
def A_:Ek where
 m:=mq
 p:=λf j=>match j with
  | [.int i,a]=>if (0<=i/\i<=100000)/\f.length<100000 then some (.non,f.take (min i.toNat f.length)++a::f.drop (min i.toNat f.length)) else none
  | _=>none
 ok {q h O n xs f j vs d ds'} g r ra e:=by
  match j,e with
  | [.int i,a],e =>
   obtain⟨x,t,rfl,u,y,l,rfl,w,b⟩:=ra
   have:l=[]:=b
   subst this;rw[show x=PV.int i from u];dsimp only at e;by_cases z:(0<=i/\i<=100000)/\f.length<100000
   .rw[d_ z] at e;cases e;refine⟨.non,lr xs i y,?_,?_,rfl⟩
    .simp only[mq,g];rw[d_ ⟨by ext,by have:=gi;rw[r.length];ext⟩]
    .unfold lr;rw[g_ (by ext),r.length];exact (r.take _).app ⟨y,_,rfl,w,r.drop _⟩
   .rw[g_ z] at e;cases e
end
section
variable {ws:List Nat} {env:aG} {s:hB}
@[simp] theorem ae{d:D}{r:aG}:(ab 0:Xe ws).p (some d::r) s=.ok d s:=rfl
@[simp] theorem af{i:Nat}{o:Option D}{r:aG}:(ab (i+1):Xe ws).p (o::r) s=(ab i:Xe ws).p r s:=by simp[ab]
theorem PC(e:env[i]?=some (some d)):(ab i:Xe ws).p env s=.ok d s:=by
 show (match env[i]? with | some (some d)=>PR.ok d s | _=>.bad)=_;rw[e]
@[simp] theorem aL:(xC k:Xe ws).p env s=.ok k.d s:=rfl
@[simp] theorem Rt:Cn.non.d=.non:=rfl
@[simp] theorem M5:(Cn.bl b).d=.bl b:=rfl
@[simp] theorem aD:(Cn.int b).d=.int b:=rfl
@[simp] theorem uq:(Cn.str b).d=.str b:=rfl
@[simp] theorem au:(ac o a b).p env s=(a.p env s).bind λx s1=>(b.p env s1).bind λy s2=>.of (o.p x y) s2:=rfl
@[simp] theorem jl:(BV o a).p env s=(a.p env s).bind λx s1=>.of (o.p x) s1:=rfl
@[simp] theorem ah:(a_:Xs ws).p env s=.ok [] s:=rfl
@[simp] theorem ag:(aa a r).p env s=(a.p env s).bind λx s1=>(r.p env s1).bind λy s2=>.ok (x::y) s2:=rfl
@[simp] theorem bq:(n_ o a).p env s=(a.p env s).bind λx s1=>.of (o.p x) s1:=rfl
@[simp] theorem aB:(aj f a h).p env s=(a.p env s).bind f.p:=rfl
@[simp] theorem wU:(mn f a h).p env s=((a.p env s).bind f.p).bind λd s=>if DT d=true then .ok d s else .bad:=rfl
@[simp] theorem eE:(fJ a h).p env s=(a.p env s).bind λx s1=>if x.length<=100000 then .ok (.lst x) s1 else .bad:=rfl
@[simp] theorem bH:(aU a h).p env s=(a.p env s).bind λx s1=>if x.length<=100000 then .ok (.tup x) s1 else .bad:=rfl
@[simp] theorem Jg:(Fc:Xe ws).p env s=.ok (.dic false [] []) s:=rfl
@[simp] theorem bO:(xB a).p env s=(a.p env s).bl:=rfl
@[simp] theorem fy:(dH a).p env s=(a.p env s).bind λb s=>.ok (!b) s:=rfl
@[simp] theorem Jh:(qj a b).p env s=(a.p env s).bind λx s=>if x=true then b.p env s else .ok false s:=rfl
@[simp] theorem g8:(CO a b).p env s=(a.p env s).bind λx s=>if x=true then .ok true s else b.p env s:=rfl
@[simp] theorem PD:(f_:Xt ws).p env s=.ok true s:=rfl
@[simp] theorem mj:(jk a b).p env s=(a.p env s).bl.bind λx s=>if x=true then (b.p env s).bl.bind λy s=>.ok (.bl y) s else .ok (.bl false) s:=rfl
@[simp] theorem Ff:(rS a).p env s=(a.p env s).bl.bind λx s=>.ok (.bl (!x)) s:=rfl
@[simp] theorem Ji:(qg t a b z h).p env s=(t.p env s).bind λx s=>if x=true then a.p env s else b.p env s:=rfl
@[simp] theorem bB:(be o a).p env s=(a.p env s).bind λx s1=>.of (o.p x) s1:=rfl
@[simp] theorem bI:(aV a).p env s=(a.p env s).bind λx s1=>.of x.items s1:=rfl
@[simp] theorem Tw{i:Nat}{h:ws.contains i=false}{d:D}:(ia i h).p d env=some (env.set i (some d)):=rfl
@[simp] theorem Tx:(w9:GJ ws).p [] env=some env:=rfl
@[simp] theorem Tz:(n7 a t).p (d::ds) env=(a.p d env).bind λenv1=>t.p ds env1:=rfl
@[simp] theorem TB:(w_ t n).p (.tup ds) env=if ds.length=n then t.p ds env else none:=rfl
@[simp] theorem j5{nv:Nat}{fm:List Nat}{i:Xi ws}{ws':List Nat}{g:Xg ws'}{t:Xt ws'}{e:Xe ws'}{hw:DE nv fm ws=ws'}{hz:e.fz=true}:(aO nv fm i g t e hw hz).p env s=(i.p env s).bind λds s1=>if ds.length<=100000 then (match cv g.p t.p e.p ds (xg nv fm env) s1 with
  | .ok r s2=>.ok (.lst r) s2
  | _=>.bad) else .bad:=rfl
@[simp] theorem GO:(Jc:Xo ws).p env s=.ok none s:=rfl
@[simp] theorem GP:(Jd e).p env s=(e.p env s).bind λd s=>match d with
  | .int i=>.ok (some i) s
  | _=>.bad:=rfl
@[simp] theorem GQ:(Jf a lo hi).p env s=(a.p env s).bind λx s=>(lo.p env s).bind λl s=>(hi.p env s).bind λu s=>.of (Je x l u) s:=rfl
@[simp] theorem av:(aA a b).p env s=(a.p env s).then b.p:=rfl
@[simp] theorem ce:(i_:Xd ws).p env s=.nx env s:=rfl
@[simp] theorem bA:(aX e).p env s=(e.p env s).go env λd _ s=>.rt d s:=rfl
theorem l0{i:Nat}{h:ws.contains i=true}{d:D}(e:env[i]?=some (some d)):(k5 i h).p env s=.rt d s:=by
 show (match env[i]? with | some (some d)=>PS.rt d s | _=>.bad)=_;rw[e]
@[simp] theorem ca:(va t a b).p env s=(t.p env s).go env λx env s=>if x=true then a.p env s else b.p env s:=rfl
@[simp] theorem aN:(aQ i e hi hz).p env s=(e.p env s).go env λd env s=>.nx (env.set i (some d)) s:=rfl
@[simp] theorem fD:(D.lst ds).mine=true:=rfl
@[simp] theorem Jj:(D.dic false ks ds).mine=true:=rfl
@[simp] theorem dQ{hi hz}:(dI i e hi hz:Xd ws).p env s=(e.p env s).go env λd env s=>if d.mine=true then .nx (env.set i (some d)) s else .bad:=rfl
@[simp] theorem cF:(dj i g b hz).p env s=(i.p env s).go env λds env s=>C4 g.p b.p ds env s:=rfl
@[simp] theorem M6:(Fd o i a hi hz).p env s=Dp o i a.p env s λ_=>.nx:=rfl
@[simp] theorem lU:(jJ i e ix hi hz).p env s=ff i e.p ix.p env s:=rfl
theorem bh{hw}(a:ds.length=np):(bK n np b hw).p ds s=(b.p (mh n ds) s).fin:=by
 show (if ds.length=np then _ else _)=_;rw[d_ a]
variable {i j:Int} {b:Bool} {x y:List D}
@[simp] theorem cN:bS.p (.int i) (.int j)=some (.int (i+j)):=rfl
theorem wg(h:x.length+y.length<=100000):bS.p (.lst x) (.lst y)=some (.lst (x++y)):=by
 show (if x.length+y.length<=100000 then _ else _)=_;rw[d_ h]
@[simp] theorem dR:dS.p (.int i) (.int j)=some (.int (i - j)):=rfl
@[simp] theorem Jk:PB.p (.int i) (.int j)=some (.bl (decide (i<j))):=rfl
@[simp] theorem o3:Jb.p (.int i) (.int j)=some (.bl (decide (j<i))):=rfl
@[simp] theorem bF:h8.p (.lst x) (.int j)=nk x j:=rfl
@[simp] theorem bz:h8.p (.tup x) (.int j)=nk x j:=rfl
theorem vL(h:j≠0):og.p (.int i) (.int j)=some (.int (i.fmod j)):=by
 show (if j≠0 then _ else _)=_;rw[d_ h]
@[simp] theorem iT:(dr Ts).p d=(Em d).map λt=>.bl (Ts.any (eT t)):=rfl
@[simp] theorem Ru:Em .non=some "NoneType":=rfl
@[simp] theorem TC:Em (.bl b)=some "bool":=rfl
@[simp] theorem Jl:Em (.int i)=some "int":=rfl
@[simp] theorem Rv:Em (.str z)=some "str":=rfl
@[simp] theorem sX:Em (.tup x)=some "tuple":=rfl
@[simp] theorem uE:Em (.lst x)=some "list":=rfl
@[simp] theorem Rx:Em (.dic fz ks es)=some "dict":=rfl
@[simp] theorem j3:jz.p [.bl b]=some (.int (if b then 1 else 0)):=rfl
@[simp] theorem Ry:jz.p [.int i]=some (.int i):=rfl
@[simp] theorem dJ:cr.p [.lst x]=some (.int x.length):=rfl
@[simp] theorem o9:cr.p [.tup x]=some (.int x.length):=rfl
theorem pM(h:x.length<=100000):jc.p [.lst x]=some (.lst x):=by
 show (if x.length<=100000 then _ else _)=_;rw[d_ h]
@[simp] theorem gh:fF.p [.lst x]=some (.tup x):=rfl
@[simp] theorem M7:fF.p [.tup x]=some (.tup x):=rfl
theorem cI(h:-100000<=i/\i<=100000):wh.p [.int i]=some (d6 0 i.toNat):=by
 show (if _ then _ else _)=_;rw[d_ h]
@[simp] theorem Rz:iE.p [.lst x]=some (rW x):=rfl
@[simp] theorem oW:iZ.p [.lst x,.lst y]=some (gU x y):=rfl
@[simp] theorem TD:iZ.p [.tup x,.tup y]=some (gU x y):=rfl
@[simp] theorem M8:Je (.lst x) lo hi=some (.lst (jI x lo hi)):=rfl
theorem qW(h:x.length<100000):A4.p x [a]=some (.non,x++[a]):=by
 show (if _ then _ else _)=_;rw[d_ h]
def yO{a:D}{i:Nat}(h:i<=x.length)(f:x.length<100000):A_.p x [.int i,a]=some (.non,x.take i++a::x.drop i):=by
 show (if _ then _ else _)=_;rw[d_ ⟨by ext,f⟩,v_,Qo h]
end
section
variable {i j:Int} {b c:Bool}
def jy(a:x.canLay0=true)(f:x.depth<=64):SeqAt.shaped x=true:=by simp[SeqAt.shaped,a,f]
@[simp] theorem bE:AZ neg (.int i) (.int j)=some (.bl (if neg then !decide (i=j) else decide (i=j))):=by
 simp[AZ,py,dep,SeqAt.shaped,PyData.canLay0,PyData.depth,PyData.eqv,Lh]
@[simp] theorem RB:AZ neg (.bl b) (.bl c)=some (.bl (if neg then !(b == c) else b == c)):=by
 simp[AZ,py,dep,SeqAt.shaped,PyData.canLay0,PyData.depth,PyData.eqv]
@[simp] theorem eM:CV.p a d=AZ false a d:=rfl
@[simp] theorem cg:vr.p a d=AZ true a d:=rfl
@[simp] theorem GR:(MZ neg).p a d=GN neg a d:=rfl
theorem kx:∀(k:List Int),AS (k.map .int)=some (k.map .int)/\q7 (k.map .int)=0
 | []=>⟨rfl,rfl⟩
 | i::k=>by
  obtain⟨a,b⟩:=kx k;simp[AS,py,a,q7,dep,b]
def qQ:∀(xs:List Int),(xs.map PyData.int).any (λe=>PyData.eqv e (.int x))=decide (x∈xs)
 | []=>by simp
 | y::ys=>by
  rw[m3,OL,qQ ys]
  have:PyData.eqv (.int y) (.int x)=decide (x=y):=by
   simp[PyData.eqv,Lh,eq_comm]
  rw[this];by_cases z:x=y <;> simp[z]
def jF:∀(k f:List Int),PyData.eqvAll (k.map .int) (f.map .int)=decide (k=f)
 | [],[]=>by simp[PyData.eqvAll]
 | [],_::_=>by simp[PyData.eqvAll]
 | _::_,[]=>by simp[PyData.eqvAll]
 | a::k,b::f=>by
  simp only[m3,PyData.eqvAll,PyData.eqv,jF k f,Lh];by_cases z:a=b <;> simp[z]
def Jm{neg:Bool}{x:Int}{d:D}{xs:List Int}(e:d.items=some (xs.map .int)):GN neg (.int x) d=some (.bl (if neg then !decide (x∈xs) else decide (x∈xs))):=by
 obtain⟨a,b⟩:=kx xs;simp only[GN,e,py,a];rw[d_ ⟨⟨by simp[dep],by lia⟩,rfl,(kH xs).1⟩,qQ]
def uk{neg:Bool}{xs ys:List Int}:AZ neg (.lst (xs.map .int)) (.lst (ys.map .int))=some (.bl (if neg then !decide (xs=ys) else decide (xs=ys))):=by
 obtain⟨a,b⟩:=kx xs;obtain⟨c,d⟩:=kx ys;obtain⟨f,r⟩:=kH xs;obtain⟨l,u⟩:=kH ys;simp only[AZ,py,a,c,DJ];rw[d_ ⟨⟨by simp[dep,b],by simp[dep,d]⟩,jy (by simpa [PyData.canLay0] using f) (by simp only[PyData.depth];lia),jy (by simpa [PyData.canLay0] using l) (by simp only[PyData.depth];lia)⟩];simp only[PyData.eqv,jF]
end
@[simp] theorem PF:C4 g b [] env s=.nx env s:=rfl
theorem d3(e:g d env=some env1):C4 g b (d::ds) env s=(b env1 s).turn (C4 g b ds):=by
 rw[C4,e]
def dA(I:Nat->aG->hB->Prop):∀(l:List D) (j:Nat) (env:aG) (s:hB),I j env s ->
  (∀m env s d,I (j+m) env s->l[m]?=some d->∃f a i,g d env=some f/\b f s=.nx a i/\I (j+m+1) a i)->∃a i,C4 g b l env s=.nx a i/\I (j+l.length) a i
 | [],j,env,s,y,_=>⟨env,s,rfl,y⟩
 | d::l,j,env,s,y,st=>by
  obtain⟨f,r,E,e1,e2,F⟩:=st 0 env s d y rfl;obtain⟨u,C,e3,B⟩:=dA I l (j+1) r E F λm a i x q z=>by
   have:=st (m+1) a i x (by rw[show j+(m+1)=j+1+m by lia];exact q) (by simpa using z)
   rw[show j+(m+1)+1=j+1+m+1 by lia] at this;exact this
  refine⟨u,C,?_,by rw[pk,show j+(l.length+1)=j+1+l.length by lia];exact B⟩;rw[d3 e1,e2];exact e3
def aT{α:Type}(l:List α):(l.filter λ_=>true)=l:=List.filter_eq_self.mpr (by simp)
def j4(h:0<=i):∃n:Nat,i=(n:Int):=⟨i.toNat,by lia⟩
noncomputable section
def kK:D->Option Bool
 | .non=>some false
 | .bl b=>some b
 | .int i=>some (i != 0)
 | .tup xs=>some (!xs.isEmpty)
 | .lst xs=>some (!xs.isEmpty)
 | _=>none
def Rps.empty(r:Rps p h O a vs):vs.isEmpty=a.isEmpty:=by
 cases a with
 | nil=>rw[show vs=[] from r];rfl
 | cons d a=>obtain⟨x,t,e,_⟩:=r;rw[e];rfl
def ut(w:Vw q h L O d v)(e:kK d=some b):nZ h v=some b:=by
 cases d with
 | non=>cases e;rw[w.non];rfl
 | bl c=>cases e;rw[w.bl];rfl
 | int c=>cases e;rw[w.int];rfl
 | tup c=>cases e;obtain⟨xs,rfl,r⟩:=w.tup;rw[nZ,r.empty]
 | lst c=>cases e;obtain⟨n,xs,rfl,g,r⟩:=w.lst;simp only[nZ,g];rw[r.empty]
 | _=>cases e
section
variable {ws:List Nat}
def Jn(a:Xe ws):Xt ws where
 m:=Tj a.m
 p:=λenv s=>(a.p env s).bind λd s=>.of (kK d) s
 ok {q h L B O Z env s} c:=by
  refine (a.ok c).bind λx v f l j i ⟨w,_,_⟩=>?_
  cases e:kK x with
  | none=>trivial
  | some b=>rw[ut w e];exact⟨b,f,rfl,KB.refl _ _,i,rfl⟩
structure OpR where
 m:Nat->List PV->MH->Out PV
 p:List D->List D->Option D
 ok:∀{q:Nat} {h:MH} {L:Nat} {O:List Nat} {n:Nat} {xs:List PV} {ds as:List D} {vs:List PV} {d:D},h[n]?=some (.lst xs)->Rps q h O ds xs->Vws q h L O as vs->p ds as=some d->∃v,m n vs h=.ok v h/\Rp q h O d v/\∀k es,d≠dl k es
end
section
variable {ws:List Nat} {env:aG} {s:hB}
@[simp] theorem rH:(Jn a).p env s=(a.p env s).bind λd s=>.of (kK d) s:=rfl
end
end
noncomputable section
section
variable {ws:List Nat}
def t5(i j:Nat)(a:Xs ws)(H:ws.contains i=false:=by exact ys rfl)(J:ws.contains j=false:=by exact ys rfl)(I:a.fz=true:=by exact ys rfl):Xd ws where
 m:=Iv i j a.m
 p:=λenv s=>(a.p env s).go env λu env s=>match u with
  | [x,y]=>.nx ((env.set i (some x)).set j (some y)) s
  | _=>.bad
 fr:=true
 ok {q h L B O Z env s} c d:=by
  refine SOk.ex (f:=λC Z h=>match C with | [v,w]=>.nx ((Z.set i (some v)).set j (some w)) h | _=>.bad) (g:=λu env s=>match u with | [x,y]=>.nx ((env.set i (some x)).set j (some y)) s | _=>.bad) c d (a.ok c) λxs C M T kb l ⟨_,z⟩=>?_;have z:=z I
  match xs,z with
  | [],_=>trivial
  | [_],_=>trivial
  | [x,y],z =>
   obtain⟨v,t,rfl,E,G⟩:=z;obtain⟨w,S,rfl,r,rfl⟩:=G;obtain⟨R,F⟩:=l.sr.set (i:=i) (λz=>by simp[z] at H) E;obtain⟨P,Q⟩:=R.set (i:=j) (λz=>by simp[z] at J) r;exact⟨_,M,rfl,O,Stp.refl _ _ _ _,⟨l.bd,l.sub,l.bb,l.pb,l.hL,l.pen,P⟩,(d.keep F).keep Q⟩
  | _::_::_::_,_=>trivial
variable {env:aG} {s:hB}
@[simp] theorem y0:(t5 i j a hi hj hz).p env s=(a.p env s).go env λds env s=>match ds with
  | [x,y]=>.nx ((env.set i (some x)).set j (some y)) s
  | _=>.bad:=rfl
end
end
noncomputable section
def jV:List D->Option (List (Int × D))
 | []=>some []
 | .tup [.int k,v]::r=>(jV r).map ((k,v)::·)
 | _=>none
def K5(x:D):Option (List (Int × D)):=match x with
 | .tup ps=>(match jV ps with
  | some a=>if (a.map (·.1)).Nodup then some a else none
  | none=>none)
 | _=>none
def Rkv(q:Nat)(h:MH)(O:List Nat):List (Int × D)->List (Int × PV)->Prop
 | [],r=>r=[]
 | a::t,r=>∃b u,r=b::u/\a.1=b.1/\Rp q h O a.2 b.2/\Rkv q h O t u
def zq:∀{i:List D} {xs:List PV} {f:List (Int × D)},Rps q h O i xs->jV i=some f->∃j,iN xs=some j/\Rkv q h O f j:=by
 intro i
 induction i with
 | nil=>intro xs f r e;rw[show xs=[] from r];cases e;exact⟨[],rfl,rfl⟩
 | cons d i F =>
  intro xs f r e;obtain⟨x,t,rfl,H,E⟩:=r;unfold jV at e
  split at e
  .rename_i z;cases z
  .rename_i l J I z
   injection z with z1 z2
   subst z1 z2;rw[Bv] at e;obtain⟨u,e1,rfl⟩:=e;obtain⟨j,e2,e3⟩:=F E e1;obtain⟨L,rfl,a,G,rfl,y,b,B,rfl,C,rfl⟩:=H;rw[show a=PV.int l from y];exact⟨(l,b)::j,by unfold iN;rw[e2];rfl,_,_,rfl,rfl,C,e3⟩
  .cases e
def Rkv.keys:∀{f:List (Int × D)} {i:List (Int × PV)},Rkv q h O f i->i.map (·.1)=f.map (·.1)
 | [],_,r=>by rw[show _=[] from r];rfl
 | a::t,_,⟨b,u,e,e1,_,r⟩=>by rw[e,m3,m3,e1,Rkv.keys r]
def Jo(r:Rp q h O x v)(e:K5 x=some kvs):∃a,MK v=some a/\Rkv q h O kvs a:=by
 unfold K5 at e
 split at e
 .rename_i ps
  split at e
  .rename_i f i
   split at e
   .rename_i nd
    cases e;obtain⟨xs,rfl,r⟩:=r;obtain⟨a,e1,e2⟩:=zq r i;refine⟨a,?_,e2⟩;simp only[MK,e1];rw[d_ (by rw[e2.keys];exact nd)]
   .cases e
  .cases e
 .cases e
section
variable {ws:List Nat}
def Fg(i j:Int):Xe ws where
 m:=mC (.tup [.int i,.int j])
 p:=λ_ s=>.ok (.tup [.int i,.int j]) s
 fz:=true
 fr:=true
 ok {q h L B O Z env s} c:=by
  have r:Rp q h O (.tup [.int i,.int j]) (.tup [.int i,.int j]):=⟨_,rfl,_,_,rfl,rfl,_,_,rfl,rfl,rfl⟩;exact⟨_,h,rfl,KB.refl _ _,c.pen,.inl r,λ_=>r,λ_ k a e=>by cases k <;> cases e⟩
end
end
noncomputable section
variable {ws:List Nat}
end
end PU
namespace MM
open PySem.Spec PyProof.Rows L2
def M9:n8:=λ_ _=>.bad
def Jp{X:Cx}{st:Stmt}:MS X st M9:=λf s Z H D I ⟨U,a,h,i,j,q⟩=>q.elim
end MM
namespace PU
open MM
def Fh{ws:List Nat}:Xd ws where
 m:=M9
 p:=λ_ _=>.bad
 fr:=true
 ok _ _:=trivial
end PU
namespace MM
open PySem.Spec PyProof.Rows L2
abbrev M_(scope sc:Scope)(vars frees:List Str):Prop:=(∀y∈scope.names,y.2=.cell->scope.names.lookup y.1=some .cell)/\(∀y∈scope.names,y.2=.local->scope.names.lookup y.1=some .local)/\(∀x∈vars,scope.names.lookup x=some .local\/scope.names.lookup x=some .cell)/\(∀x∈frees,scope.names.lookup x=some .free)/\(∀y∈scope.names,y.2=.free->y.1∈frees)/\(∀x∈frees,sc.names.lookup x=some .cell)
def K6(a f:Scope):Scope:={ a with names:=a.names.map λ(n,k)=>if (k == .free && f.kind == .function && f.names.lookup n == some .cell) then (n,.cell) else (n,k)}
def ss{a f:Scope}{env:Env}(h:env.scope=f):relabel a env=K6 a f:=by subst h;rfl
def j0{X:Cx}{N:List Str}{a l:Scope}{f frees:List Str}{fm:List Nat}(j:X.env.scope=l)(r:a.kind=.function)(u:fm.map (λi=>N[i]?)=frees.map some)(h:M_ a l f frees):BA X N a f frees fm :=
 IG j r h.1 h.2.1 h.2.2.1 h.2.2.2.1 h.2.2.2.2.1 u h.2.2.2.2.2
def RC{Q:List Value->Prop}(h:∀f,Q [f]):∀a,a.length=1->Q a
 | [_],_=>h _
def TF{Q:List Value->Prop}(h:∀f i,Q [f,i]):∀a,a.length=2->Q a
 | [_,_],_=>h _ _
def TH{Q:List Value->Prop}(h:∀i j f,Q [i,j,f]):∀a,a.length=3->Q a
 | [_,_,_],_=>h _ _ _
def TJ{Q:List Value->Prop}(h:∀i j f l,Q [i,j,f,l]):∀a,a.length=4->Q a
 | [_,_,_,_],_=>h _ _ _ _
abbrev Zn(K:hR)(x:Str):Prop:=PySem.W.nsIn K mainGlobals x=some none
abbrev Nn(X:Cx)(x:Str):Prop:=X.mg x=none
abbrev Sc(X:Cx)(s:Stmt):Prop:=X.env.scope=aq s
abbrev Gd(X:Cx)(N G:List Str)(k:Nat):Prop:=Good X N N G k
structure Ba (P:Program) (w:World) (K:hR) (mg:Str->Option Value) (base:Heap):Prop where
 kin:K.In base
 ns:base.Ns mainGlobals mg
structure EE (X:Cx) (P:Program) (w:World) (K:hR) (mg:Str->Option Value) (base:Heap):Prop where
 e1:X.prog=P
 e2:X.w=w
 e3:X.K=K
 e4:X.mg=mg
 e5:X.base=base
 b:Ba P w K mg base
section
variable {P:Program} {w:World} {K:hR} {mg:Str->Option Value} {base:Heap} {X:Cx}
def EE.n(e:EE X P w K mg base){x:Str}(z:Zn K x):Nn X x:=by
 show X.mg x=none;rw[e.e4];exact PySem.W.mg_none_of e.b.kin e.b.ns z
def FnAt.c{x:Str}{ps:List Str}{F:List PV->MH->Out PV}{i j:Nat}(a:FnAt P w K mg base x ps F i)(e:EE X P w K mg base)(h:i<=j:=by decide):Cal X x ps F j :=
 (a.mono h).cal e.e1 e.e2 e.e3 e.e4 e.e5
def RD{x:Str}{st:Stmt}{N G ps:List Str}{m:n8}{k:Nat}(b:Ba P w K mg base)(D:c_ K x st)(l:∀X:Cx,EE X P w K mg base->Sc X st->Gd X N G k->iy X->C1 X (aI st) m)
  (B:jS x st ps:=by first | exact λ_ _ _ _ _ _=>RC λ_=>rfl | exact λ_ _ _ _ _ _=>TF λ_ _=>rfl | exact λ_ _ _ _ _ _=>TH λ_ _ _=>rfl | exact λ_ _ _ _ _ _=>TJ λ_ _ _ _=>rfl | exact λ_ _ _ _ _ _=>ar5 λ_ _ _ _ _=>rfl)
  (S:u_ N ps (aq st):=by exact⟨rfl,rfl,rfl,by decide +kernel,rfl,by decide +kernel,by decide +kernel⟩)
  (i:∀y∈N,(aq st).names.lookup y=some .local\/(aq st).names.lookup y=some .cell:=by decide +kernel) (a:∀y∈G,(aq st).names.lookup y=some .globalImplicit:=by decide +kernel)
  (dbg:∀x∈N++G,(x == ("__debug__":Str))=false/\(x == ("__classdict__":Str))=false/\x≠"__name__":=by decide +kernel) :
  FnAt P w K mg base x ps (fe N.length ps.length m) (k+1) :=
 yR b.kin b.ns D S B i a dbg λX e1 e2 e3 e4 e5 f g j=>l X ⟨e1,e2,e3,e4,e5,b⟩ f g j
end
structure YE (Y X:Cx):Prop where
 e1:Y.prog=X.prog
 e2:Y.w=X.w
 e3:Y.K=X.K
 e4:Y.mg=X.mg
 e5:Y.base=X.base
section
variable {X Y:Cx} {N W G:List Str} {k:Nat} {x:Str} {p pos:Pos} {e:Expr} {es:List Expr} {m:Mx (List PV)} {f:List PV->MH->Out PV}
def YE.n(y:YE Y X)(h:X.mg x=none):Y.mg x=none:=y.e4.symm▸h
def YE.c(y:YE Y X){ps:List Str}{F:List PV->MH->Out PV}{i:Nat}(c:Cal X x ps F i):Cal Y x ps F i:=c.at y.e1 y.e2 y.e3 y.e4 y.e5
def kV(g:Good X N W G k)(i:Nat)(a:N[i]?=some x:=by rfl):ME X (.Name x pos) (az i):=Ac g i a
def GS(g:Good X N W G k)(i:Nat)(j:N[i]?=some x:=by rfl)(a:W[i]?=some x:=by rfl):MG X (.Name x pos) (CG i):=wQ g i j a
def Dg{a b:Expr}{j i:Mx PV}(r:ME X a j)(u:ME X b i)(l:ir b:=by exact λ_ _=>rfl):ME X (.Subscript a b pos) (aC bu j i):=xP r u l
def Ug{i:CmpOp}{f:PV->PV->MH->Out PV}{a b:Expr}{l j:Mx PV}(r:Cm X (compareOp i) f)(u:ME X a l)(z:ME X b j)(y:behindInMarks i b=false:=by first | exact Dc _ | rfl):ME X (.Compare a [i] [b] pos) (aC f l j):=Au r u z y
def K7{i:CmpOp}{f:PV->PV->MH->Out PV}{a b:Expr}{l j:Mx PV}(r:Cm X (compareOp i) f)(u:ME X a l)(z:ME X b j)(y:behindInMarks i b=false:=by first | exact Dc _ | rfl):MT X (.Compare a [i] [b] pos) (mB (aC f l j)):=AJ r u z y
def Dq(g:Good X N W G k)(j:Nat){ps:List Str}{F:List PV->MH->Out PV}(C:Cal X x ps F k)(i:MA X (e::es) m)(l:G[j]?=some x:=by rfl)
  (r:starEach (e::es) X.env=(false,eval e X.env)::starEach es X.env:=by rfl) (a:(backTo pos (starEach es X.env)).any (·.1)=false:=by rfl):ME X (.Call (.Name x p) (e::es) [] pos) (cz F m):=qm g l C i r a
def GU{id:String}(g:Good X N W G k)(j:Nat)(r:dw X (.builtin id) f)(l:X.mg x=none)(hv:bootBuiltins x=some (.builtin id))(i:MA X (e::es) m)(u:G[j]?=some x:=by rfl)
  (y:starEach (e::es) X.env=(false,eval e X.env)::starEach es X.env:=by rfl) (a:(backTo pos (starEach es X.env)).any (·.1)=false:=by rfl):ME X (.Call (.Name x p) (e::es) [] pos) (z6 f m):=sY g j u r l hv i y a
def RE{T:String}(g:Good X N W G k)(j:Nat)(r:dw X (.type T) f)(l:X.mg x=none)(hv:bootBuiltins x=some (.type T))(i:MA X (e::es) m)(u:G[j]?=some x:=by rfl)
  (y:starEach (e::es) X.env=(false,eval e X.env)::starEach es X.env:=by rfl) (a:(backTo pos (starEach es X.env)).any (·.1)=false:=by rfl):ME X (.Call (.Name x p) (e::es) [] pos) (z6 f m):=qK g j u r l hv i y a
def PH{y a:Expr}(g:Good X N W G k)(j:Nat)(r:X.mg "range"=none)(i:MA X [a] m)(u:G[j]?=some "range":=by rfl)(l:starEach [a] X.env=[(false,eval a X.env)]:=by rfl):MI X y (.Call (.Name "range" p) [a] [] pos) (eR m):=qE (g.gl _ (bo u)) r i l
section
variable {tg iter elt:Expr} {ifs:List Expr} {scope sc:Scope} {mi:Mx MIt} {gt:Mg} {mt:Mx Bool} {me:Mx PV}
def Uh(g:Good X N W G k)(r:X.env.scope=sc)(a frees j:List Str)(fm:List Nat)(F:MI X tg iter mi)(H:∀Y:Cx,YE Y X->Good Y (a++frees) a j k->MG Y tg gt/\EY Y ifs mt/\ME Y elt me)
  (I:scope.kind=.function:=by rfl) (C:fm.map (λi=>N[i]?)=frees.map some:=by rfl) (h:M_ scope sc a frees:=by decide +kernel)
  (nd:(a++frees).Nodup:=by decide +kernel) (l:∀x∈j,scope.names.lookup x=some .globalImplicit:=by decide +kernel) (dbg:∀x∈(a++frees)++j,(x == ("__debug__":Str))=false/\(x == ("__classdict__":Str))=false/\x≠"__name__":=by decide +kernel)
  (J:∀x,foldedSetIterable iter X.env x=pure x:=by exact λ_=>rfl):ME X (.ListComp elt [⟨tg,iter,ifs,0⟩] scope pos) (eI a.length fm mi gt mt me) :=
 vZ g (j0 r I C h) nd l dbg F (λY u E y B z _ g=>H Y ⟨u,E,y,B,z⟩ g) J
def TK{j py:Pos}{y:Str}(g:Good X N W G k)(l:X.env.scope=sc)(i:Nat)(a frees r:List Str)(fm:List Nat)(L:MI X tg iter mi)(M:∀Y:Cx,YE Y X->Good Y (a++frees) a r k->MG Y tg gt/\EY Y ifs mt/\ME Y elt me)
  (B:∀env:Env,env.scope=sc->swapsWith (.ListComp elt [⟨tg,iter,ifs,0⟩] scope pos) (some (.Name y py)) j.line env=pure true:=by (intro env h;cases env;cases h;rfl))
  (u:N[i]?=some y:=by rfl) (Q:W[i]?=some y:=by rfl)
  (O:scope.kind=.function:=by rfl) (I:fm.map (λi=>N[i]?)=frees.map some:=by rfl) (h:M_ scope sc a frees:=by decide +kernel)
  (nd:(a++frees).Nodup:=by decide +kernel) (z:∀x∈r,scope.names.lookup x=some .globalImplicit:=by decide +kernel) (dbg:∀x∈(a++frees)++r,(x == ("__debug__":Str))=false/\(x == ("__classdict__":Str))=false/\x≠"__name__":=by decide +kernel)
  (P:∀x,foldedSetIterable iter X.env x=pure x:=by exact λ_=>rfl):MS X (.Assign [.Name y py] (.ListComp elt [⟨tg,iter,ifs,0⟩] scope pos) j) (bM i (eI a.length fm mi gt mt me)) :=
 qt g i u Q (B X.env l) (j0 l O I h) nd z dbg L (λY C J E H F _ g=>M Y ⟨C,J,E,H,F⟩ g) P
def Ui{j py:Pos}{y:Str}(g:Good X N W G k)(l:X.env.scope=sc)(i:Nat)(a frees r:List Str)(fm:List Nat)(M:MI X tg iter mi)(O:∀Y:Cx,YE Y X->Y.env.scope=K6 scope sc->Good Y (a++frees) a r k->MG Y tg gt/\EY Y ifs mt/\ME Y elt me)
  (B:∀env:Env,env.scope=sc->swapsWith (.ListComp elt [⟨tg,iter,ifs,0⟩] scope pos) (some (.Name y py)) j.line env=pure true:=by (intro env h;cases env;cases h;rfl))
  (u:N[i]?=some y:=by rfl) (R:W[i]?=some y:=by rfl)
  (P:scope.kind=.function:=by rfl) (I:fm.map (λi=>N[i]?)=frees.map some:=by rfl) (h:M_ scope sc a frees:=by decide +kernel)
  (nd:(a++frees).Nodup:=by decide +kernel) (z:∀x∈r,scope.names.lookup x=some .globalImplicit:=by decide +kernel) (dbg:∀x∈(a++frees)++r,(x == ("__debug__":Str))=false/\(x == ("__classdict__":Str))=false/\x≠"__name__":=by decide +kernel)
  (Q:∀x,foldedSetIterable iter X.env x=pure x:=by exact λ_=>rfl):MS X (.Assign [.Name y py] (.ListComp elt [⟨tg,iter,ifs,0⟩] scope pos) j) (bM i (eI a.length fm mi gt mt me)) :=
 qt g i u R (B X.env l) (j0 l P I h) nd z dbg M (λY C J E H F L g=>O Y ⟨C,J,E,H,F⟩ (L.trans (ss l)) g) Q
end
end
abbrev tu:=@PyProof.Rows.Boot.«abs»
abbrev Ai:=@PyProof.Rows.Boot.«min»
abbrev uz:=@PyProof.Rows.Boot.«int»
abbrev lI:=@PyProof.Rows.Boot.«len»
abbrev mQ:=@PyProof.Rows.Boot.«list»
abbrev tY:=@PyProof.Rows.Boot.«tuple»
abbrev As:=@PyProof.Rows.Boot.«sorted»
abbrev Fi:=@PyProof.Rows.Boot.«bool»
abbrev wF:=@PyProof.Rows.Boot.«dict»
abbrev zk:=@PySem.F.slot_list_append
abbrev zH:=@PySem.F.type_list_append
abbrev uW:=@PySem.F.slot_list_clear
abbrev sE:=@PySem.F.type_list_clear
abbrev Jq:=@PySem.F.slot_list_pop
abbrev Jr:=@PySem.F.type_list_pop
abbrev AA:=@PySem.F.slot_list_insert
abbrev zn:=@PySem.F.type_list_insert
abbrev yH:=@PySem.F.slot_list_remove
abbrev Ap:=@PySem.F.type_list_remove
end MM
namespace PU
open MM
open L2 (z9 nk gv)
noncomputable section
section
variable {ws:List Nat}
end
end
noncomputable section
end
noncomputable section
end
section
variable {ws:List Nat}
end
end PU
namespace PU
open MM L2
def PJ{ws ws':List Nat}(i:Nat)(b:Xd ws')(S:ws.contains i=true:=by exact ys rfl)(Y:ws.filter (· != i)=ws':=by exact ys rfl):Xd ws where
 m:=b.m
 p:=λenv s=>match env[i]? with
  | some (some _)=>(match b.p env s with | .rt d s=>.rt d s | _=>.bad)
  | _=>.bad
 fr:=b.fr
 ok {q h L B O Z env s} c d:=by
  show SOk q L h B O ws b.fr (b.m Z h) (match env[i]? with | some (some _)=>(match b.p env s with | .rt d s=>PS.rt d s | _=>.bad) | _=>.bad)
  cases e:env[i]? with
  | none=>trivial
  | some o =>
   cases o with
   | none=>trivial
   | some x =>
    have u:i∈ws:=by simpa using S
    obtain⟨n,P,xs,ds,e1,e2,a,bb,g,r⟩:=c.sr.ow i x e u;have F:∀j,j∈ws'↔j∈ws/\j≠i:=λj=>by rw[<-Y];simp
    have mo:∀o,o∈O.filter (· != n)↔o∈O/\o≠n:=λo=>by simp
    have mv:Mv O h (O.filter (· != n)) h:=⟨λ_ _ _=>rfl,λo l=>.inl ((mo o).mp l).1⟩;have c':Cx q h L B (O.filter (· != n)) ws' Z env s:=by
     refine⟨λo l=>c.bd o ((mo o).mp l).1,λo l=>(mo o).mpr ⟨c.sub o l,λz=>by have:=c.bb o l;lia⟩,c.bb,c.pb,c.hL,c.pen,c.sr.len,λj y f E=>?_,λj y f E=>?_⟩
     .by_cases z:j=i
      .subst z;rw[e] at f;cases f;subst e1;refine⟨_,e2,?_⟩;cases P <;> exact⟨n,xs,rfl,λz=>((mo n).mp z).2 rfl,g,r.mv mv⟩
      .obtain⟨v,e3,q⟩:=c.sr.fz j y f λz'=>E ((F j).mpr ⟨z',z⟩);exact⟨v,e3,q.mv mv⟩
     .obtain⟨C,H⟩:=(F j).mp E;obtain⟨M,J,G,I,e3,e4,U,X,Q,R⟩:=c.sr.ow j y f C;refine⟨M,J,G,I,e3,e4,(mo M).mpr ⟨U,λz=>?_⟩,X,Q,R.mv mv⟩;subst z;exact d i j u C (Ne.symm H) x y _ e f e2 e4
    have T:Dis ws' Z env:=λj k E hk=>d j k ((F j).mp E).1 ((F k).mp hk).1;have k:=b.ok c' T
    cases ep:b.p env s with
    | rt d s=>rw[ep] at k;exact k
    | _=>trivial
def Na{f a:List Nat}{i:Nat}{b:Xd a}{j:f.contains i=true}{l:f.filter (· != i)=a}{env:aG}{s s':hB}{x d:D}(e:env[i]?=some (some x))(h:b.p env s=.rt d s'):(PJ i b j l).p env s=.rt d s':=by
 show (match env[i]? with | some (some _)=>(match b.p env s with | .rt d s=>PS.rt d s | _=>.bad) | _=>.bad)=_;rw[e,h]
noncomputable section
inductive VwD (h:MH) (fz:Bool) (ks:List Int) (P:List PV->Prop) (v:PV):Prop
 | mk (n:Nat) (xs:List PV) (e:v=.loc n) (g:h[n]?=some (.dic fz ks xs)) (r:P xs):VwD h fz ks P v
def Vw.dic{q:Nat}{h:MH}{L:Nat}{O:List Nat}{v:PV}{fz:Bool}{a:List Int}{f:List D}(w:Vw q h L O (.dic fz a f) v):VwD h fz a (Rps q h O f) v:=by
 rcases w with ⟨n,xs,e,_,g,r⟩|⟨n,i,xs,j,e,e1,_,_,g,r⟩
 .exact⟨n,xs,e,g,r⟩
 .cases i with
  | none=>cases e
  | some _=>cases e;exact⟨n,xs,e1,g,r⟩
def VwD.of{h:MH}{fz:Bool}{a:List Int}{P:List PV->Prop}{v:PV}(w:VwD h fz a P v):∃xs,cf h v=some (fz,a,xs)/\P xs:=by
 obtain⟨n,xs,rfl,g,r⟩:=w;exact⟨xs,by simp only[cf,g],r⟩
def tf{q:Nat}{h:MH}{O:List Nat}{f:List D}{xs:List PV}{ks:List Int}(r:Rps q h O f xs)(i:Int):match p7 ks f i with
  | some d=>∃v,p7 ks xs i=some v/\Rp q h O d v
  | none=>p7 ks xs i=none:=by
 induction ks generalizing f xs with
 | nil=>cases f <;> cases xs <;> rfl
 | cons k ks j =>
  cases f with
  | nil=>rw[show xs=[] from r];rfl
  | cons d f =>
   obtain⟨x,t,rfl,a,b⟩:=r;unfold p7;by_cases e:k=i
   .simp only[d_ e];exact⟨_,rfl,a⟩
   .simp only[g_ e];exact j b
def Fj{q:Nat}{h:MH}{O:List Nat}{f:List D}{xs:List PV}{ks:List Int}{d:D}{v:PV}(r:Rps q h O f xs)(w:Rp q h O d v)(i:Int):(jn ks f i d).1=(jn ks xs i v).1/\Rps q h O (jn ks f i d).2 (jn ks xs i v).2:=by
 induction ks generalizing f xs with
 | nil=>exact⟨by simp[jn],by simpa [jn] using ⟨v,[],rfl,w,rfl⟩⟩
 | cons k ks u =>
  cases f with
  | nil=>rw[show xs=[] from r];exact⟨rfl,v,[],rfl,w,rfl⟩
  | cons y f =>
   obtain⟨x,t,rfl,a,b⟩:=r;unfold jn;by_cases e:k=i
   .simp only[d_ e];exact⟨trivial,v,t,rfl,w,b⟩
   .simp only[g_ e];obtain⟨l,j⟩:=u b;exact⟨by rw[l],x,_,rfl,a,j⟩
def nB(j:Bool):BD where
 m:=rN j
 p:=λa b=>match a,b with
  | .int i,.dic _ f l=>some (.bl (if j then !(p7 f l i).isSome else (p7 f l i).isSome))
  | _,_=>none
 fr:=true
 ok {q h L O a x b y d} bd wa wb e:=by
  cases a with
  | int i =>
   cases b with
   | dic fz f l =>
    cases e;rw[wa.int];obtain⟨xs,e1,r⟩:=wb.dic.of;have z:(p7 f l i).isSome=(p7 f xs i).isSome:=by
     have:=tf (ks:=f) r i
     cases e2:p7 f l i with
     | none=>rw[e2] at this;rw[this];rfl
     | some d=>rw[e2] at this;obtain⟨v,e3,_⟩:=this;rw[e3];rfl
    simp only[rN,e1];rw[z];exact I_
   | _=>cases e
  | _=>cases e
def nI:BD where
 m:=mL
 p:=λa b=>match a,b with
  | .dic _ f j,.int i=>p7 f j i
  | _,_=>none
 fr:=false
 ok {q h L O a x b y d} bd wa wb e:=by
  cases a with
  | dic fz f j =>
   cases b with
   | int i =>
    rw[wb.int];obtain⟨xs,e1,r⟩:=wa.dic.of;have z:=tf (ks:=f) r i;rw[show p7 f j i=some d from e] at z;obtain⟨v,e3,l⟩:=z;simp only[mL,e1,e3];exact El l λz=>by cases z
   | _=>cases e
  | _=>cases e
def oY:Dx where
 k:=λxs h=>(BC xs h).ne
 p:=λi=>match i with
  | [.dic _ a u]=>if a.length<=100000 then some (.lst (a.map .int)) else none
  | _=>none
 fr:=true
 ok {q h L O i xs d} bd w e:=by
  match i,e with
  | [.dic fz a u],e =>
   dsimp only at e;obtain⟨x,rfl,l⟩:=fc w;obtain⟨xs,e1,r⟩:=l.dic.of;by_cases f:a.length<=100000
   .rw[d_ f] at e;cases e;have e2:BC [x] h=ql (a.map .int) h:=by simp only[BC,e1]
    rw[e2];obtain⟨v,g,e3,j,y⟩:=jU (q:=q) bd (iG (q:=q) (h:=h) (O:=O) a) (by simpa using f);exact⟨v,g,by rw[e3];rfl,j,y⟩
   .rw[g_ f] at e;cases e
def qx{q:Nat}{h:MH}{O:List Nat}:∀{f:List (Int × D)} {i:List (Int × PV)},Rkv q h O f i->i.map (·.1)=f.map (·.1)/\Rps q h O (f.map (·.2)) (i.map (·.2))
 | [],i,r=>by rw[show i=[] from r];exact⟨rfl,rfl⟩
 | kv::f,i,r=>by
  obtain⟨y,u,rfl,e,a,b⟩:=r;obtain⟨l,j⟩:=qx b;exact⟨by simp[l,<-e],_,_,rfl,a,j⟩
def oG:Dx where
 k:=λxs h=>(CJ xs h).ne
 p:=λj=>match j with
  | [x]=>(K5 x).map λf=>.dic false (f.map (·.1)) (f.map (·.2))
  | _=>none
 fr:=true
 ok {q h L O j xs d} bd w e:=by
  match j,e with
  | [x],e =>
   dsimp only at e;rw[Bv] at e;obtain⟨f,e1,rfl⟩:=e;obtain⟨v,rfl,F⟩:=fc w;have B:Rp q h O x v:=by
    rcases F with r|⟨n,y,xs,I,e,_⟩
    .exact r
    .rw[e] at e1;cases y <;> cases e1
   obtain⟨a,e2,C⟩:=Jo B e1;obtain⟨E,u⟩:=qx C;have g:(h++[MO.dic false (a.map (·.1)) (a.map (·.2))])[h.length]?=some (.dic false (f.map (·.1)) (a.map (·.2))):=by rw[E];simp
   have m:Mv O h O (h++[MO.dic false (a.map (·.1)) (a.map (·.2))]):=⟨λn i _=>xu i,λo l=>.inl l⟩
   have H:Mv O h (h.length::O) (h++[MO.dic false (a.map (·.1)) (a.map (·.2))]):=⟨λn i _=>xu i,λo l=>by
    rcases ml.mp l with z|z
    .exact .inr (by lia)
    .exact .inl z⟩
   refine⟨.loc h.length,[.dic false (a.map (·.1)) (a.map (·.2))],?_,⟨_,_,rfl,λz=>by have:=bd _ z;lia,g,u.mv m⟩,λ_ k G e=>?_⟩
   .have e3:CJ [v] h=.ok (.loc h.length) (h++[.dic false (a.map (·.1)) (a.map (·.2))]):=by simp only[CJ,e2]
    rw[e3];rfl
   .cases k with
    | none=>cases e
    | some _=>cases e;exact⟨_,_,rfl,j_ _,g,u.mv H⟩
variable {ws:List Nat}
def Fk(a:Xe ws)(j:Xs ws):Xe ws where
 m:=Rq a.m j.m
 p:=λenv s=>(a.p env s).bind λx I=>match x with
  | .dic _ f l=>(j.p env I).bind λy E=>match y with
   | [.int i,d]=>.ok ((p7 f l i).getD d) E
   | _=>.bad
  | _=>.bad
 fz:=j.fz
 fr:=false
 ok {q h L B O Z env s} c:=by
  refine (a.ok c).bind λx v h1 I P p1 ⟨w,_,_⟩=>?_
  cases x with
  | dic fz f l =>
   have U:=c.kb P p1;obtain⟨n,xs,rfl,g,r⟩:=w.dic;have nq:n≠q:=by
    rcases w with ⟨n',C,e,Y,_⟩|⟨n',kd,C,ai,_,e,_,hn,_⟩
    .cases e;exact λz=>Y (z▸c.pO)
    .cases e;have:=c.pL;lia
   have e1:cf h1 (.loc n)=some (fz,f,xs):=by simp only[cf,g]
   dsimp only;rw[e1];dsimp only;refine (j.ok U).bind λy vs u E G H ⟨R,z2⟩=>?_;have T:u[n]?=some (.dic fz f xs):=(G.keep n (aR g) nq).trans g;have e2:cf u (.loc n)=some (fz,f,xs):=by simp only[cf,T]
   have r2:=r.mv (G.mv c.pO);by_cases J:∃i d,y=[.int i,d]
   .obtain⟨i,d,rfl⟩:=J;obtain⟨v1,v2,rfl,u1,Q⟩:=MY R;rw[u1.int,e2];dsimp only;have z:=tf (ks:=f) r2 i
    cases e3:p7 f l i with
    | none =>
     rw[e3] at z;dsimp only at z;rw[z];refine⟨_,u,rfl,KB.refl _ _,H,Q,λS=>?_,λz=>by cases z⟩;obtain⟨_,_,e5,_,_,_,M,X,_⟩:=z2 S;cases e5;cases M;exact X
    | some d' =>
     rw[e3] at z;obtain⟨v',e4,F⟩:=z;rw[e4];exact⟨_,u,rfl,KB.refl _ _,H,.inl F,λ_=>F,λz=>by cases z⟩
   .have:(match y with | [.int i,d]=>PR.ok ((p7 f l i).getD d) E | _=>.bad)=PR.bad:=by
     split
     .exact absurd ⟨_,_,rfl⟩ J
     .rfl
    rw[this];trivial
  | _=>trivial
@[simp] theorem GV{a:Xe ws}{as:Xs ws}{env:aG}{s:hB}:(Fk a as).p env s=(a.p env s).bind λx s1=>match x with
  | .dic _ ks ds=>(as.p env s1).bind λy s2=>match y with
   | [.int i,d]=>.ok ((p7 ks ds i).getD d) s2
   | _=>.bad
  | _=>.bad:=rfl
def uK(a:Xe ws):Xi ws where
 m:=MN a.m
 p:=λenv s=>(a.p env s).bind λx j=>match x with
  | .dic true f l=>.ok (gU (f.map .int) l) j
  | _=>.bad
 fz:=true
 ok {q h L B O Z env s} c:=by
  refine (a.ok c).bind λx v u j C y ⟨w,z,_⟩=>?_
  cases x with
  | dic fz f l =>
   cases fz with
   | false=>trivial
   | true =>
    obtain⟨xs,e1,r⟩:=w.dic.of;rw[e1];exact⟨_,u,rfl,KB.refl _ _,y,pK (iG f) r,(λ_ i=>nomatch i),λ_ _ i=>nomatch i⟩
  | _=>trivial
@[simp] theorem Js{a:Xe ws}{env:aG}{s:hB}:(uK a).p env s=(a.p env s).bind λx s1=>match x with
  | .dic true ks ds=>.ok (gU (ks.map .int) ds) s1
  | _=>.bad:=rfl
def kY(i:Nat)(r e:aG->hB->PR D)(env:aG)(s:hB):PS:=match e env s with
 | .ok v u=>(match r env u with
  | .ok (.int j) l=>(match env[i]? with
   | some (some (.dic false a f))=>if a.length<100000 then .nx (env.set i (some (.dic false (jn a f j v).1 (jn a f j v).2))) l else .bad
   | _=>.bad)
  | _=>.bad)
 | _=>.bad
def t6{i:Nat}{a e:aG->hB->PR D}{env:aG}{s s1 s2:hB}{v:D}{j:Int}{ks:List Int}{ds:List D}(e1:e env s=.ok v s1)(e2:a env s1=.ok (.int j) s2)(e3:env[i]?=some (some (.dic false ks ds)))(e4:ks.length<100000) :
  kY i a e env s=.nx (env.set i (some (.dic false (jn ks ds j v).1 (jn ks ds j v).2))) s2:=by
 simp only[kY,e1,e2,e3];rw[d_ e4]
def yL{i:Nat}{ix e:aG->hB->PR D}{env:aG}{s:hB}:kY i ix e env s=.bad\/∃v r j l a f,e env s=.ok v r/\ix env r=.ok (.int j) l/\env[i]?=some (some (.dic false a f))/\a.length<100000/\kY i ix e env s=.nx (env.set i (some (.dic false (jn a f j v).1 (jn a f j v).2))) l:=by
 unfold kY;split
 .rename_i v r e1
  split
  .rename_i j l e2
   split
   .rename_i a f e3
    by_cases h:a.length<100000
    .rw[d_ h];exact .inr ⟨v,r,j,l,a,f,e1,e2,e3,h,rfl⟩
    .rw[g_ h];exact .inl rfl
   .exact .inl rfl
  .exact .inl rfl
 .exact .inl rfl
def kO(i:Nat)(u e:Xe ws)(hi:ws.contains i=true:=by exact ys rfl)(hz:e.fz=true:=by exact ys rfl):Xd ws where
 m:=r9 (az i) u.m e.m
 p:=kY i u.p e.p
 fr:=true
 ok {q h L B O Z env s} c d:=by
  rcases yL (i:=i) (e:=e.p) (ix:=u.p) (env:=env) (s:=s) with z|⟨v,s1,j,s2,f,R,e1,e2,e3,e4,z⟩
  .rw[z];trivial
  .rw[z];have l:i∈ws:=by simpa using hi
   have I:=e.ok c;rw[e1] at I;obtain⟨x,Q,U,r,E,_,X,_⟩:=I;have J:=c.kb r E;have ki:=u.ok J;rw[e2] at ki;obtain⟨y,S,f2,a,F,w,_,_⟩:=ki;have P:=J.kb a F;obtain⟨C,T,xs,al,M,H,b1,b2,g,r0⟩:=P.sr.ow i _ e3 l
   cases T with
   | none=>cases M
   | some ai =>
    cases M;replace g:S[C]?=some (.dic false f xs):=g;have hy:=w.int;subst hy;have em:az i Z Q=.ok (.loc C) Q:=by simp[az,H]
    obtain⟨p1,Y⟩:=Fj (ks:=f) r0 ((X hz).mv (a.mv c.pO)) j;have nx:=uG (kd:=some (jn f R j v).1) P d l e3 H Y;refine⟨Z,S.set C (.dic false (jn f R j v).1 (jn f xs j x).2),?_,nx.after ((r.trans a).stp c)⟩;have G:f.length<sizeLine:=by have:=gi;lia
    unfold r9 y_;rw[U];simp only[em,f2,cf,g];rw[d_ G,p1]
def wA{i:Nat}{a e:Xe ws}{hi hz}{env:aG}{s:hB}:(kO i a e hi hz).p env s=kY i a.p e.p env s:=rfl
def Fl{ws ws':List Nat}(i:Nat)(b:Xd ws')(hi:ws.contains i=true:=by exact ys rfl)(hw:ws.filter (· != i)=ws':=by exact ys rfl):Xd ws where
 m:=IT i b.m
 p:=λenv s=>match env[i]? with
  | some (some (.dic false f E))=>(match b.p (env.set i (some (.dic true f E))) s with | .rt d s=>.rt d s | _=>.bad)
  | _=>.bad
 fr:=b.fr
 ok {q h L B O Z env s} c d:=by
  show SOk q L h B O ws b.fr (IT i b.m Z h) (match env[i]? with | some (some (.dic false f E))=>(match b.p (env.set i (some (.dic true f E))) s with | .rt d s=>PS.rt d s | _=>.bad) | _=>.bad);split
  .rename_i f E e
   have H:i∈ws:=by simpa using hi
   obtain⟨n,kd,xs,ai,e1,e2,a,bb,g,r⟩:=c.sr.ow i _ e H
   cases kd with
   | none=>cases e1
   | some _ =>
    cases e1;replace g:h[n]?=some (.dic false f xs):=g;have I:∀j,j∈ws'↔j∈ws/\j≠i:=λj=>by rw[<-hw];simp
    have mo:∀o,o∈O.filter (· != n)↔o∈O/\o≠n:=λo=>by simp
    have mv:Mv O h (O.filter (· != n)) (h.set n (.dic true f xs)):=⟨λm _ X=>o0 λ(z:n=m)=>X (z▸a),λo F=>.inl ((mo o).mp F).1⟩;have il:i<env.length:=(tr.mp e).1;have hp:=c.pL;have c':Cx q (h.set n (.dic true f xs)) L B (O.filter (· != n)) ws' Z (env.set i (some (.dic true f E))) s:=by
     refine⟨λo F=>by simpa using c.bd o ((mo o).mp F).1,λo F=>(mo o).mpr ⟨c.sub o F,λz=>by have:=c.bb o F;lia⟩,c.bb,c.pb,by simpa using c.hL,?_,by simp[c.sr.len],λj y C G=>?_,λj y C G=>?_⟩
     .unfold ci;rw[o0 (by lia)];exact c.pen
     .by_cases z:i=j
      .subst z;rw[Cw il] at C;cases C;exact⟨_,e2,n,xs,rfl,λz=>((mo n).mp z).2 rfl,Cw (aR g),r.mv mv⟩
      .rw[o0 z] at C;obtain⟨v,e3,q⟩:=c.sr.fz j y C λz'=>G ((I j).mpr ⟨z',λq=>z q.symm⟩);exact⟨v,e3,q.mv mv⟩
     .obtain⟨u,l⟩:=(I j).mp G;rw[o0 (Ne.symm l)] at C;obtain⟨J,M,Q,P,e3,e4,a',b',g',r'⟩:=c.sr.ow j y C u;have ne:J≠n:=λz=>by
       subst z;exact d i j H u (Ne.symm l) _ y _ e C e2 e4
      exact⟨J,M,Q,P,e3,e4,(mo J).mpr ⟨a',ne⟩,b',by rw[o0 (Ne.symm ne)];exact g',r'.mv mv⟩
    have d':Dis ws' Z (env.set i (some (.dic true f E))):=λj k G hk ne x y m T U=>by
     obtain⟨u,l⟩:=(I j).mp G;obtain⟨R,S⟩:=(I k).mp hk;rw[o0 (Ne.symm l)] at T;rw[o0 (Ne.symm S)] at U;exact d j k u R ne x y m T U
    have k:=b.ok c' d';have em:IT i b.m Z h=b.m Z (h.set n (.dic true f xs)):=by unfold IT;rw[e2];simp only[g]
    rw[em]
    cases ep:b.p (env.set i (some (.dic true f E))) s with
    | rt x s1 =>
     rw[ep] at k;obtain⟨v,h',f1,f2,f3,f4,f5,f6⟩:=k;exact⟨v,h',f1,by simpa using f2,λm hm Y=>by rw[f3 m hm Y,o0 (by lia)],f4,f5,f6⟩
    | _=>trivial
  .trivial
def Jt{ws a:List Nat}{i:Nat}{b:Xd a}{j:ws.contains i=true}{l:ws.filter (· != i)=a}{env:aG}{s f:hB}{ks:List Int}{ds:List D}{d:D}(e:env[i]?=some (some (.dic false ks ds)))(h:b.p (env.set i (some (.dic true ks ds))) s=.rt d f):(Fl i b j l).p env s=.rt d f:=by
 show (match env[i]? with | some (some (.dic false ks ds))=>(match b.p (env.set i (some (.dic true ks ds))) s with | .rt d s=>PS.rt d s | _=>.bad) | _=>.bad)=_;rw[e];dsimp only;rw[h]
def CK:Ek where
 m:=rZ
 p:=λf l=>match l with
  | [.int i]=>if 0<=i/\i<2 ^ 62 then (f[i.toNat]?).map λd=>(d,f.eraseIdx i.toNat) else none
  | _=>none
 ok {q h O n xs f l vs d ds'} g r w e:=by
  match l,e with
  | [.int i],e =>
   obtain⟨x,t,rfl,u,z⟩:=w
   have:t=[]:=z
   subst this;rw[show x=PV.int i from u];dsimp only at e;by_cases j:0<=i/\i<2 ^ 62
   .rw[d_ j,Bv] at e;obtain⟨y,e1,e2⟩:=e;cases e2;obtain⟨v,e3,B⟩:=r.get e1;refine⟨v,xs.eraseIdx i.toNat,?_,?_,B⟩
    .simp only[rZ,g];rw[d_ j,e3]
    .have C:∀{f:List D} {xs:List PV} (k:Nat),Rps q h O f xs->Rps q h O (f.eraseIdx k) (xs.eraseIdx k):=by
      intro f
      induction f with
      | nil=>intro xs k r;rw[show xs=[] from r];rfl
      | cons d f E =>
       intro xs k r;obtain⟨x,t,rfl,a,b⟩:=r
       cases k with
       | zero=>exact b
       | succ k=>exact⟨x,_,rfl,a,E k b⟩
     exact C _ r
   .rw[g_ j] at e;cases e
end
end PU
namespace MM
open PySem.Spec PyProof.Rows L2
section
variable {X:Cx} {a b:Expr} {pos:Pos} {k:Nat}
def bY:Expr->Bool
 | .Starred _ _=>false
 | _=>true
def bJ(h:bY e=true):starEach (e::es) env=(false,eval e env)::starEach es env:=by
 cases e <;> first | rfl | cases h
def Ju(i:ME X e m)(f:MA X es ms)(j:bY e=true:=by rfl):MA X (e::es) (aw m ms):=aF i f (bJ j)
structure lw (X:Cx) (e:Expr) (m:Mx PV):Prop where
 h:ME X e m
structure CL (X:Cx) (es:List Expr) (ms:Mx (List PV)):Prop where
 h:MA X es ms
structure B1 (X:Cx) (st:Stmt) (m:n8):Prop where
 h:MS X st m
structure nw (X:Cx) (st:List Stmt) (m:n8):Prop where
 h:C1 X st m
section
variable {e:Expr} {es:List Expr} {m ma mb:Mx PV} {ms:Mx (List PV)} {st:Stmt} {rest:List Stmt} {u v:n8} {f:PV->PV->MH->Out PV} {N W G:List Str} {x:Str}
def lj:CL X [] h_:=⟨ba⟩
def d9(j:lw X e m)(i:CL X es ms)(l:bY e=true:=by rfl):CL X (e::es) (aw m ms):=⟨Ju j.h i.h l⟩
def z7(h:ME X e m):lw X e m:=⟨h⟩
def PK(h:CL X es ms):lw X (.List es pos) (iP ms):=⟨Ir h.h⟩
def TL(h:CL X es ms):lw X (.Tuple es j pos) (tP ms):=⟨Is h.h⟩
def Uj(j:lw X a ma)(l:lw X b mb)(i:ir b:=by exact λ_ _=>rfl):lw X (.Subscript a b pos) (aC bu ma mb):=⟨xP j.h l.h i⟩
def Dh(h:MS X st u):B1 X st u:=⟨h⟩
def DU(g:Good X N W G k)(i:Nat){j:Pos}(z:lw X e m)(l:N[i]?=some x:=by rfl)(y:W[i]?=some x:=by rfl)(r:swapsWith e (some (.Name x j)) pos.line X.env=pure false:=by rfl) :
  B1 X (.Assign [.Name x j] e pos) (bM i m):=⟨oD g i l y z.h r⟩
def Fo(i:lw X e m):B1 X (.Return (some e) pos) (cB m):=⟨Iu i.h⟩
def DA(h:B1 X st u):nw X [st] u:=⟨EQ h.h⟩
def Cs(i:B1 X st u)(j:nw X rest v):nw X (st::rest) (bp u v):=⟨A3 i.h j.h⟩
def Uk(i:Nat)(h:nw X rest v):nw X rest (IT i v):=⟨ML i h.h⟩
end
end
end MM
namespace MM
open PySem.SeqAt PySem.MeetsSeq PySem.MeetsSeq2 PySem.MeetsSeq3 PySem.SeqRoads2
def rB(l:Addr)(items:Array Value)(n:Nat)(x:Value)(e:Value->Bool)(j:Nat)(I:j<items.size)(G:e items[j]=true)(k:Nat)(z:items.size<=sizeLine) :
  ∀i:Nat,j - i=k->i<=j->(∀m (H:m<items.size),i<=m->m<j->e items[m]=false)->Meets (Builtin.«list.remove.loop» ⟨[.ref l,x,rawInt i],[]⟩)
   (λA R s=>s.heap.get? l=some { cls:=.type "list",dict:=none,data:=.seq items n,slots:=#[]}/\(∀y,y∈items->EqAt A.in1 s y x (e y))/\R (.ok (.ret .none)) { s with heap:=s.heap.update l (Obj.mapSeq λxs=>xs.eraseIdxIfInBounds j)}):=by
 induction k with
 | zero =>
  intro i Q E f prog w A R s h;obtain⟨L,g,d,M,os⟩:=s;obtain⟨r,B,h⟩:=h;have u:i=j:=by lia
  subst u
  wp_walk using AutoSeq1.wpAny_loadPart' r
  have F:items[((i:Nat):Int).toNat]?=some items[i]:=by simp[I]
  rw[F];refine b_ (B _ (Array.getElem_mem I) prog w _ _ ?_);rw[G];have C:(items.eraseIdxIfInBounds i).size<=sizeLine+1:=yi (size_erased items _) (Nat.le_succ_of_le z)
  wp_walk using (wpAny_updateSeq r rfl (hz:=z) (_hz':=C)),AutoSeq1.wpAny_loadPart' r
  simpa using h
 | succ k P =>
  intro i Q E f prog w A R s h;obtain⟨L,g,d,M,os⟩:=s;obtain⟨r,B,h⟩:=h;have a:i<items.size:=by lia
  wp_walk using AutoSeq1.wpAny_loadPart' r
  have F:items[((i:Nat):Int).toNat]?=some items[i]:=by simp[a]
  have J:((i:Int)+1)=((i+1:Nat):Int):=by push_cast;rfl
  rw[F];refine b_ (B _ (Array.getElem_mem a) prog w _ _ ?_);rw[f i a (j_ _) (by lia)]
  wp_walk
  rw[J]
  exact⟨plainId_quiet plain_remove_loop _,codeAny_builtin entry_remove_loop (by
   rw[Around.under_plainId plain_remove_loop _]
   exact P (i+1) (by lia) (by lia) (λm H S O=>f m H (by lia) O) prog w A R _ ⟨r,B,h⟩)⟩
def re(l:Addr)(items:Array Value)(n:Nat)(x:Value)(e:Value->Bool)(j:Nat)(B:j<items.size)
  (i:e items[j]=true) (f:∀m (u:m<items.size),m<j->e items[m]=false) (a:items.size<=sizeLine) :
  Meets (Builtin.«list.remove» ⟨[.ref l,x],[]⟩)
   (λA R s=>s.heap.get? l=some { cls:=.type "list",dict:=none,data:=.seq items n,slots:=#[]}/\(∀y,y∈items->EqAt A.in1 s y x (e y))/\R (.ok (.ret .none)) { s with heap:=s.heap.update l (Obj.mapSeq λxs=>xs.eraseIdxIfInBounds j)}):=by
 intro prog w A R s h;obtain⟨E,g,d,F,os⟩:=s;obtain⟨r,z,h⟩:=h
 wp_walk using AutoSeq1.wpAny_loadPart' r
 exact⟨plainId_quiet plain_remove_loop _,codeAny_builtin entry_remove_loop (by
  rw[Around.under_plainId plain_remove_loop _]
  exact rB l items n x e j B i _ a 0 rfl (Cz _) (λm u _ C=>f m u C) prog w A R _ ⟨r,z,h⟩)⟩
end MM
namespace MM
open PySem.Spec PyProof.Rows L2
def kw(n:Nat)(f:List PV)(h:MH):Out PV:=match f with
 | [x]=>(match h[n]? with
  | some (.lst ys)=>(match rd 60 h x,cq (rd 60 h) ys with
   | some d,some a=>if d.canLay0=true/\PyData.canLayAll0 a=true then (match a.findIdx? (λe=>PyData.eqv e d) with
    | some j=>.ok .non (h.set n (.lst (ys.eraseIdx j)))
    | none=>.bad) else .bad
   | _,_=>.bad)
  | _=>.bad)
 | _=>.bad
def uF{u:Heap}{dx:PyData}:∀{j:List Value} {l:List PyData} {z:List Addr},ReadsAll u j l z->j.length=l.length/\∀(i:Nat) (a:i<j.length) (y:i<l.length),fq u dx j[i]=PyData.eqv l[i] dx
 | _,_,_,.nil=>⟨rfl,λi a _=>by simp at a⟩
 | _,_,_,.cons r t=>by
  obtain⟨e,f⟩:=uF (dx:=dx) t;refine⟨by simp[e],λi a y=>?_⟩
  cases i with
  | zero=>exact rT r
  | succ i=>exact f i (by simpa using a) (by simpa using y)
section
variable {X:Cx} {k:Nat}
def xx(hr:Room k X.A):Ei X "list.remove" (E0 X kw):=by
 intro Mq s Z H x vs v us Q I rx rv ⟨U,h,n,a,ps,e,en,E,rp,q⟩;subst e;obtain⟨o,eo,ro⟩:=E.obj en;unfold kw at q
 cases rp with
 | nil=>exact q.elim
 | @cons y y' _ _ R t1 =>
  cases t1 with
  | cons _ _=>exact q.elim
  | nil =>
   dsimp only at q;rw[eo] at q
   cases o with
   | lst xs =>
    dsimp only at q
    cases ex:rd 60 h y with
    | none=>rw[ex] at q;exact q.elim
    | some f =>
     rw[ex] at q
     cases S:cq (rd 60 h) xs with
     | none=>rw[S] at q;exact q.elim
     | some Y =>
      rw[S] at q;dsimp only at q;by_cases C:f.canLay0=true/\PyData.canLayAll0 Y=true
      .rw[d_ C] at q
       cases G:Y.findIdx? (λe=>PyData.eqv e f) with
       | none=>rw[G] at q;exact q.elim
       | some j =>
        rw[G] at q;obtain⟨hj,M,T⟩:=PZ.mp G;obtain⟨ys,ey,ry⟩:=ro;cases rx
        cases rv with
        | @cons _ u _ _ F J =>
         cases J;obtain⟨_,rX⟩:=d7 I E 60 y y' u f R F ex;obtain⟨z,i,nn,r,B,e⟩:=I.lstM ey;obtain⟨as,RA⟩:=eY (λv v' u d R r2 e=>d7 I E 60 v v' u d R r2 e) ry r S;obtain⟨el,ef⟩:=uF (dx:=f) RA;obtain⟨L,l'⟩:=E.put en (o:=.lst (xs.eraseIdx j)) (ho:=.lst (ys.eraseIdx j)) ⟨_,rfl,ry.erase _⟩;refine call_meets PySem.F.slot_list_remove ⟨_,e,rfl⟩ PySem.F.entry_list_remove (PySem.F.args_list_remove_2 _ _)
          (re a i.toArray nn u (MM.fq s.heap f) j (by simp;lia) (by
           have:=ef j (by lia) hj
           simpa [this] using M) (λm hm P=>by
           have O:m<i.length:=by simpa using hm
           have:=ef m O (by lia)
           have h2:=T m P;simp only[List.getElem_toArray];rw[this]
           simpa using h2) (by rw[u0,<-B];exact z)) ⟨e,λw hw=>?_,?_⟩
         .obtain⟨d,al,hd,l⟩:=lV RA w (by simpa using hw);rw[rT l];refine SeqAt.eqAt_reads d f _ s w u _ _ l rX (kX C.2 d hd) C.1 ?_;have ai:=(nQ 60 y f ex).1
          have:=hr.un
          show X.A.units+1+_<_;lia
         .refine⟨.non,_,I.lset (its':=i.eraseIdx j) ey e ?_ (r.eraseIdx j) ?_,rfl,q U _ .non l' L .non⟩
          .apply Qg.mp;simp[Array.toList_eraseIdxIfInBounds]
          .exact yi (List.length_eraseIdx_le ..) z
      .rw[g_ C] at q;exact q.elim
   | _=>exact q.elim
end
end MM
namespace PU
open MM
noncomputable section
def qM{p:Nat}{h:MH}{O:List Nat}:∀{i:List D} {f:List PV} (j:Nat),Rps p h O i f->Rps p h O (i.eraseIdx j) (f.eraseIdx j)
 | [],f,j,r=>by
  have r:f=[]:=r;subst r;exact rfl
 | d::i,f,0,⟨x,t,e,a,b⟩=>by subst e;exact b
 | d::i,f,j+1,⟨x,t,e,a,b⟩=>by subst e;exact⟨x,_,rfl,a,qM j b⟩
def B6:Ek where
 m:=kw
 p:=λa i=>match i with
  | [x]=>(match py x,AS a with
   | some u,some f=>if (dep x<=60/\q7 a<=60)/\u.canLay0=true/\PyData.canLayAll0 f=true then (f.findIdx? (λe=>PyData.eqv e u)).map λj=>(.non,a.eraseIdx j) else none
   | _,_=>none)
  | _=>none
 ok {q h O n xs a i vs d ds'} g r ra e:=by
  match i,e with
  | [x],e =>
   obtain⟨v,t,rfl,y,b⟩:=ra
   have:t=[]:=b
   subst this;dsimp only at e
   cases e1:py x with
   | none=>rw[e1] at e;cases e
   | some u =>
    cases e2:AS a with
    | none=>rw[e1,e2] at e;cases e
    | some f =>
     rw[e1,e2] at e;dsimp only at e;by_cases z:(dep x<=60/\q7 a<=60)/\u.canLay0=true/\PyData.canLayAll0 f=true
     .rw[d_ z,Bv] at e;obtain⟨j,l,e⟩:=e;cases e;refine⟨.non,xs.eraseIdx j,?_,qM j r,rfl⟩;unfold kw;dsimp only;rw[g];dsimp only;rw[GL y e1 z.1.1,sD r e2 z.1.2];dsimp only;rw[d_ z.2,l]
     .rw[g_ z] at e;cases e
end
end PU
namespace SetT
open PySem.SetTable PyProof.Rows
def gc(a:List Int)(k:Int):List Int:=if k∈a then a else a++[k]
def dq(l:List Int):List Int:=l.foldl gc []
def zF{l:List Int}{i:Nat}{k:Int}(h:l[i]?=some k):dq (l.take (i+1))=gc (dq (l.take i)) k:=by
 rw[Qu,h];unfold dq;rw[Qa];rfl
def B8(l:List Int):∀a:List Int,(l.foldl gc a).length<=a.length+l.length:=by
 induction l with
 | nil=>intro a;exact j_ _
 | cons k l f =>
  intro a
  have:=f (gc a k)
  have e:(gc a k).length<=a.length+1:=by unfold gc;split <;> simp
  rw[Qm,pk];lia
def Fp(l:List Int):(dq l).length<=l.length:=by have:=B8 l [];simpa [dq] using this
def Lw(ns:List Int):Prop:=∀n∈ns,0<=n/\n<12
abbrev tn(p:Int × Tok):Nat:=p.1.toNat
def DV:List Nat->List (List Nat)
 | []=>[[]]
 | a::r=>DV r++(DV r).map (a::·)
def AQ{l r:List Nat}(h:l.Sublist r):l∈DV r:=by
 induction h with
 | slnil=>simp[DV]
 | cons a _ f=>exact Gj _ f
 | cons_cons a _ f=>exact z4 _ (mu.mpr ⟨_,f,rfl⟩)
def n5:∀(m a:Nat) (l:List Nat),l.Pairwise (·<·)->(∀x∈l,a<=x/\x<a+m)->l.Sublist (List.range' a m)
 | _,_,[],_,_=>List.nil_sublist _
 | 0,a,x::l,_,h=>by have:=h x (by simp);lia
 | m+1,a,x::l,i,h=>by
  rw[Qh];have j:=h x (by simp);by_cases e:x=a
  .subst e
   exact (n5 m (x+1) l (DG.mp i).2 λy f=>by
    have:=(DG.mp i).1 y f
    have:=h y (by simp[f])
    lia).cons_cons x
  .exact (n5 m (a+1) (x::l) i λy f=>by
    have:=h y f
    rcases ml.mp f with rfl|f
    .lia
    .have:=(DG.mp i).1 y f;lia).cons a
def TM(f v:Nat)(l p:Bool):Bool:=((DV (List.range' 0 8)).filter (·.length<=4)).all λpl=>(List.range 12).all λk=>match SetTable.freeSlot ⟨7,pl.toArray,#[],f,l,v,p⟩ (hashInt (k:Nat)) with
 | some (j,false)=>decide (j<=7) && !pl.contains j
 | _=>false
set_option maxHeartbeats 8000000 in
theorem Jv(f v:Nat)(l p:Bool):TM f v l p=true:=by kernel_rfl
def Fq{xs:Array Nat}(h:iW xs):xs.toList.Pairwise (·<·) :=
 P1.mpr λi j f l a=>h i j _ _ a (by simp at f;simp[f]) (by simp at l;simp[l])
def wE{xs:Array Nat}{j:Nat}:GC xs j↔j∈xs.toList:=by
 unfold GC;rw[KI];simp
def pZ{k:Int}(h:0<=k/\k<12):∃n:Nat,k=n/\n<12:=⟨k.toNat,by lia,by lia⟩
def Nb{t:SetTable}{k:Int}(r:t.mask=7)(hd:t.dummies=#[])(u:iW t.place)(y:t.place.size<=4)(i:∀x∈t.place.toList,x<=7)(E:0<=k/\k<12) :
  ∃j,t.freeSlot (hashInt k)=some (j,false)/\j<=7/\¬GC t.place j:=by
 obtain⟨n,rfl,B⟩:=pZ E;obtain⟨m,pl,d,f,l,v,p⟩:=t;dsimp only at r hd u y i ⊢;subst r hd;have c:=Jv f v l p;unfold TM at c;have z:=Qf.mp c pl.toList (y6.mpr ⟨AQ (n5 8 0 _ (Fq u) λx C=>by have:=i x C;lia),by simpa using y⟩);have a:=Qf.mp z n (pa.mpr B)
 split at a
 .rename_i j e
  simp only[Gk,decide_eq_true_eq,Qb,List.contains_eq_mem,decide_eq_false_iff_not] at a;exact⟨j,e,a.1,λo=>a.2 (wE.mp o)⟩
 .cases a
def sP{n:Nat}(a:n<12):bits (hashInt n)=n:=by
 have:n=0\/n=1\/n=2\/n=3\/n=4\/n=5\/n=6\/n=7\/n=8\/n=9\/n=10\/n=11:=by lia
 rcases this with rfl|rfl|rfl|rfl|rfl|rfl|rfl|rfl|rfl|rfl|rfl|rfl <;> decide
def Jw{t:SetTable}{n:Nat}(i:t.mask=31)(hd:t.dummies=#[])(f:n<12)(a:¬GC t.place n):t.freeSlot (hashInt n)=some (n,false):=by
 unfold SetTable.freeSlot SetTable.probe SetTable.probeStart turns;rw[sP f,i,Nat.mod_eq_of_lt (by lia),show 10 * (31+15)=459+1 by rfl];unfold SetTable.probe.go;rw[xV t hd n a];rfl
def Jx(ns:List Nat)(E:∀n∈ns,n<12)(hd:ns.Nodup):∃ow:Array (Option Nat),layClean 31 (ns.map λn:Nat=>hashInt n).toArray=some ow/\ow.size=32/\∀j i:Nat,ow[j]?=some (some i)↔ns[i]?=some j:=by
 suffices H:∃ow:Array (Option Nat),(ns.map λn:Nat=>hashInt n).foldl (init:=some (Array.replicate 32 none,0)) (λC h=>do
  let (owner,k) <-C
  let j <-layClean.free 31 owner (turns 31) (bits h % (31+1)) (bits h)
  pure (owner.setIfInBounds j (some k),k+1))=some (ow,ns.length)/\ow.size=32/\∀j i:Nat,ow[j]?=some (some i)↔ns[i]?=some j by
  obtain⟨ow,e,r⟩:=H;refine⟨ow,?_,r⟩;unfold layClean;rw[List.foldl_toArray];exact congrArg (Option.map (·.1)) e
 generalize f:ns.length=z0
 induction z0 generalizing ns with
 | zero =>
  cases En.mp f;refine⟨_,rfl,by simp,λj i=>?_⟩;simp[Array.getElem?_replicate]
 | succ z0 J =>
  obtain F|⟨ns,k,rfl⟩:=List.eq_nil_or_concat ns
  .rw[F] at f;cases f
  rw[List.concat_eq_append] at *;have u:ns.length=z0:=by simpa using f
  subst u;obtain⟨B,_,y⟩:=KO.mp hd;obtain⟨ow,e,z,r⟩:=J ns (λn h=>E n (by simp[h])) B rfl;have L:k<12:=E k (by simp);have a:k∉ns:=λh=>y k h k (by simp) rfl;have M:ow[k]?=some none:=by
   cases q:ow[k]? with
   | none=>simp at q;lia
   | some x =>
    cases x with
    | none=>rfl
    | some i=>exact absurd (Ee ((r k i).mp q)) a
  refine⟨ow.setIfInBounds k (some ns.length),?_,by simpa using z,λj i=>?_⟩
  .rw[Eg,Qa,e]
   show (do
    let j <-layClean.free 31 ow (turns 31) (bits (hashInt k) % (31+1)) (bits (hashInt k))
    pure (ow.setIfInBounds j (some ns.length),ns.length+1))=_
   have:layClean.free 31 ow (turns 31) (bits (hashInt k) % (31+1)) (bits (hashInt k))=some k:=by
    rw[sP L,Nat.mod_eq_of_lt (by lia),show turns 31=45+1 by rfl];unfold layClean.free;obtain⟨m,G⟩:∃m,runEnd 31 k+1 - k=m+1:=⟨runEnd 31 k - k,by unfold runEnd;split <;> lia⟩;rw[G,List.range_succ_eq_map,Lo];simp[M]
   rw[this];simp
  .rw[Array.getElem?_setIfInBounds];by_cases q:k=j
   .subst q;simp only[if_true,z];rw[d_ (by lia)];constructor
    .intro h;cases h;simp
    .intro h;by_cases l:i<ns.length
     .rw[xu l] at h;exact absurd (Ee h) a
     .by_cases I:i=ns.length
      .rw[I]
      .rw[Ed (by simp;lia)] at h;cases h
   .rw[g_ q,r j i];by_cases l:i<ns.length
    .rw[xu l]
    .rw[Ed (by lia),C5 (by lia)];constructor
     .intro h;cases h
     .intro h;rw[List.getElem?_singleton] at h
      split at h
      .cases h;exact absurd rfl q
      .cases h
def Jy(l:List (Int × Tok))(C:Array (Int × Value))(F:C.toList=l.map λp=>(hashInt p.1,Value.int p.1 p.2))(X:Lw (l.map (·.1)))(hd:(l.map (·.1)).Nodup)(fin mv:Nat)(led E:Bool) :
  ∃(B:Array Nat) (L:List (Int × Tok)),laid 31 fin mv led E (C.map (·.1))=some ({ mask:=31,place:=(L.map tn).toArray,dummies:=#[],finger:=fin,led:=led,moves:=mv,plain:=E},B)
   /\ B.toList.Perm (List.range C.size)/\(B.filterMap (C[·]?)).toList=L.map (λp=>(hashInt p.1,Value.int p.1 p.2))/\L.Perm l/\(L.map tn).Pairwise (·<·):=by
 have O:∀p∈l,0<=p.1/\p.1<12:=λp G=>X p.1 (mu.mpr ⟨p,G,rfl⟩);have Y:C.map (·.1)=((l.map tn).map λn:Nat=>hashInt n).toArray:=by
  apply Qg.mp;rw[Array.toList_map,F,oF,oF];exact B_ λp G=>by
   have:=O p G
   show hashInt p.1=hashInt ((p.1.toNat:Nat):Int);rw[Int.toNat_of_nonneg this.1]
 have nd:(l.map tn).Nodup:=by
  rw[SO,Dv] at hd ⊢;exact hd.imp_of_mem λ{a b} P I h q=>h (by have:=O a P;have:=O b I;have q:a.1.toNat=b.1.toNat:=q;lia)
 obtain⟨ow,e1,z,r⟩:=Jx (l.map tn) (λn h=>by obtain⟨p,G,rfl⟩:=mu.mp h;have:=O p G;show p.1.toNat<12;lia) nd;have H:C.size=l.length:=by rw[<-CD,F,oI]
 let f:Nat->Option (Nat × Nat):=λj=>(ow.getD j none).map (j,·)
 have hf:∀j x,f j=some x->x.1=j/\(l.map tn)[x.2]?=some x.1:=λj x h=>by
  have h:(ow.getD j none).map (j,·)=some x:=h;rw[SM] at h
  cases q:ow[j]? with
  | none=>rw[q] at h;cases h
  | some y =>
   cases y with
   | none=>rw[q] at h;cases h
   | some i=>rw[q] at h;cases h;exact⟨rfl,(r j i).mp q⟩
 have M:=(P4 (n:=32)).filterMap f (S:=λa b:Nat × Nat=>a.1<b.1) λa Z J b I b' T=>by rw[(hf a b I).1,(hf Z b' T).1];exact J
 have mem:∀x,x∈(List.range 32).filterMap f↔(l.map tn)[x.2]?=some x.1:=λx=>by
  rw[OA];constructor
  .rintro⟨j,_,h⟩;exact (hf j x h).2
  .intro h;have q:=(r x.1 x.2).mpr h;have J:x.1<ow.size:=by rw[Array.getElem?_eq_some_iff] at q;exact q.1
   refine⟨x.1,pa.mpr (by lia),?_⟩;show (ow.getD x.1 none).map (x.1,·)=_;rw[SM,q];rfl
 generalize hL:(List.range 32).filterMap f=u at M mem;have Q:(u.map (·.2)).Perm (List.range C.size):=by
  refine (La ?_ DH).mpr λi=>?_
  .rw[SO,Dv];exact M.imp_of_mem λ{a b} P I h q=>by
    have U:=(mem a).mp P;rw[q,(mem b).mp I] at U
    have:=Option.some.inj U
    lia
  .rw[mu,pa,H];constructor
   .rintro⟨x,R,rfl⟩
    have:=(tr.mp ((mem x).mp R)).1
    simpa using this
   .intro h;exact⟨((l.map tn)[i]'(by simpa using h),i),(mem _).mpr (p_ _),rfl⟩
 have gl:∀x∈u,∃p,l[x.2]?=some p/\tn p=x.1:=λx R=>by
  have:=(mem x).mp R
  rw[tt,Bv] at this;exact this
 have e3:((u.map (·.2)).filterMap (l[·]?)).map tn=u.map (·.1):=by
  clear Q M mem hL
  induction u with
  | nil=>rfl
  | cons x u ih =>
   obtain⟨p,G,e⟩:=gl x (by simp);rw[m3,Li,G,m3,m3,e,ih λy hy=>gl y (by simp[hy])]
 refine⟨(u.map (·.2)).toArray,(u.map (·.2)).filterMap (l[·]?),?_,Q,?_,?_,?_⟩
 .rw[Y];unfold laid;rw[e1];show some (_,_)=some (_,_);show some (({ mask:=31,place:=(((List.range 32).filterMap f).map (·.1)).toArray,dummies:=#[],finger:=fin,led:=led,moves:=mv,plain:=E}:SetTable),(((List.range 32).filterMap f).map (·.2)).toArray)=_;rw[hL,e3]
 .rw[Array.toList_filterMap,List.map_filterMap];refine congrArg (List.filterMap · _) (funext λi=>?_);rw[<-Ec,F,tt]
 .have:=Q.filterMap (l[·]?)
  rw[H] at this;refine this.trans (List.Perm.of_eq ?_)
  have:=xO l.toArray
  simpa using this
 .rw[e3,Dv];exact M
section
variable {prog:Program} {w:World} {A:Around} {E:Value->Shared->Prop} {s:Shared}
def IS(prog:Program)(w:World)(S:Addr)(ns:List Int)(h:Heap):Prop :=
 ∃o a f t,h.get? S=some o/\o.ExactSet/\o.data=.set a f t/\t.dummies=#[]/\t.plain=true/\t.led=du w/\iW t.place/\t.place.size=a.size/\∃l:List (Int × Tok),a.toList=l.map (λp=>(hashInt p.1,Value.int p.1 p.2))/\(l.map (·.1)).Perm ns/\ns.Nodup/\Lw ns /\
  (t.mask=7/\a.size<=4/\(∀x∈t.place.toList,x<=7)\/t.mask=31/\t.place.toList=l.map tn)
def lK{S:Addr}{ns:List Int}{a f:Heap}(p:IS prog w S ns a)(k:∀o,a.get? S=some o->f.get? S=some o):IS prog w S ns f:=by
 obtain⟨o,l,i,t,j,r⟩:=p;exact⟨o,l,i,t,k o j,r⟩
def qr{ns:List Int}(h:Lw ns)(hd:ns.Nodup):ns.length<=12:=by
 have:=List.Nodup.length_le_of_subset hd (l₂:=(List.range 12).map λn:Nat=>(n:Int)) λx f=>by
  obtain⟨n,rfl,a⟩:=pZ (h x f);exact mu.mpr ⟨n,pa.mpr a,rfl⟩
 simpa using this
def AW{l:List (Int × Tok)}:ElemsOf (intKind prog w) (l.map (λp=>(hashInt p.1,Value.int p.1 p.2))):=λe a=>by
 obtain⟨p,_,rfl⟩:=mu.mp a;exact⟨⟨p.1,intKind_is _ _ _ _,rfl⟩,rfl⟩
def vb{f:Array (Int × Value)}{l:List (Int × Tok)}(e:f.toList=l.map (λp=>(hashInt p.1,Value.int p.1 p.2)))(p:Nat)(k:Int)(a:Tok) :
  (insertAt f p (hashInt k,.int k a)).toList=(l.take p++(k,a)::l.drop p).map (λp=>(hashInt p.1,Value.int p.1 p.2)):=by
 rw[SetTable.toList_insertAt,e,<-OM,<-ON,Eg,m3]
def RF{S:Addr}{ns:List Int}{k:Int}{G:Tok}{Q:Bool->Shared->Prop}(T:IS prog w S ns s.heap)(P:0<=k/\k<12)
  (h:∀b h',Heap.SameBut S s.heap h'->IS prog w S (gc ns k) h'->Q b { s with heap:=h'}) :
  wpAny (model prog w) A (setAddHashed S (.int k G) (hashInt k)) Q E s:=by
 obtain⟨o,C,ep,t,ho,a1,hd,F,an,ai,ap,as,l,hl,L,ay,ao,J⟩:=id T;have b2:C.size=ns.length:=by rw[<-CD,hl,oI,<-L.length_eq,oI]
 have b4:=qr ao ay;have a2:C.size<=t.mask:=by rcases J with ⟨e,_,_⟩|⟨e,_⟩ <;> lia
 have hf:t.fits C.size=true:=by unfold SetTable.fits SetTable.fill;simp[as,F];exact a2
 have a7:ElemsOf (intKind prog w) C.toList:=by rw[hl];exact AW
 have bc:C.size<scanBound:=by unfold scanBound;lia
 unfold setAddHashed setAddHashedIn;refine wpAny_holding (b_ (wpAny_setState_of ho hd hf ?_));dsimp only;rw[byScan_of (knd:=intKind prog w) (show (Value.int k G).scannable=true from rfl) bc a7];simp only[↓reduceIte];unfold setAddByScan;refine b_ ?_;refine b_ (wpAny_rule ?_);refine b_ (wpAny_setScan_of (knd:=intKind prog w) (k:=k) (intKind_is _ _ _ _) ho hd hf a7 ?_)
 cases hq:List.findIdx? (λe=>(intKind prog w).is k e.2) C.toList with
 | some j =>
  dsimp only;obtain⟨hj,a3,_⟩:=PZ.mp hq;have hk:k∈ns:=by
   refine L.mem_iff.mp ?_;obtain⟨p,Y,e⟩:=mu.mp (show C.toList[j]∈l.map (λp=>(hashInt p.1,Value.int p.1 p.2)) from (congrArg (C.toList[j]∈·) hl).mp (CF hj));refine mu.mpr ⟨p,Y,?_⟩;have e2:(C.toList[j]).2=Value.int p.1 p.2:=by rw[<-e]
   rw[e2] at a3;exact (intKind prog w).inj _ _ _ (intKind_is _ _ _ _) a3
  refine i3 (i3 ?_)
  have:=h false s.heap (Heap.SameBut.refl _ _)
  unfold gc at this;rw[d_ hk] at this;exact this T
 | none =>
  dsimp only;have hk:k∉ns:=λhk=>by
   obtain⟨p,Y,e⟩:=mu.mp (L.mem_iff.mpr hk)
   have:=SV.mp hq (hashInt p.1,Value.int p.1 p.2) (by rw[hl];exact mu.mpr ⟨p,Y,rfl⟩)
   rw[e,intKind_is] at this;cases this
  have hj:∃j,t.freeSlot (hashInt k)=some (j,false)/\¬GC t.place j/\(t.mask=7/\j<=7\/t.mask=31/\j=k.toNat):=by
   rcases J with ⟨e,h4,h7⟩|⟨e,Y⟩
   .obtain⟨j,a,b,c⟩:=Nb e F ap (by lia) h7 P;exact⟨j,a,c,.inl ⟨e,b⟩⟩
   .obtain⟨n,rfl,hn⟩:=pZ P;have Z:¬GC t.place n:=λo=>by
     rw[wE,Y] at o;obtain⟨p,a9,e'⟩:=mu.mp o;have m:=L.mem_iff.mp (mu.mpr ⟨p,a9,rfl⟩)
     have:=ao _ m
     have e':p.1.toNat=n:=e';exact hk (by rw[show (n:Int)=p.1 by lia];exact m)
    exact⟨n,Jw e F hn Z,Z,.inr ⟨e,rfl⟩⟩
  obtain⟨j,ar,Z,b7⟩:=hj;have Y:=(ie t.place j ap).1;have R:=k8 C (below t.place j) (hashInt k,Value.int k G) (by lia);have a5:=k8 t.place (below t.place j) j Y;have br:=Bj t.place j ap Z;have O:=vb hl (below t.place j) k G;have b0:(insertAt t.place (below t.place j) j).toList=t.place.toList.take (below t.place j)++j::t.place.toList.drop (below t.place j):=SetTable.toList_insertAt _ _ _;have ax:t.put j=({ t with place:=insertAt t.place (below t.place j) j},below t.place j):=by
   unfold SetTable.put;simp only[F,wG,su,if_false]
  generalize b8:below t.place j=b at *;have B:((l.take b++(k,G)::l.drop b).map (·.1)).Perm (ns++[k]):=by
   have a:(l.take b++(k,G)::l.drop b).Perm (l++[(k,G)]):=by
    have h1:=Qe (a:=(k,G)) (l₁:=l.take b) (l₂:=l.drop b);rw[Ox] at h1;exact h1.trans (SQ _ l).symm
   have b:=a.map (·.1);rw[Eg (l₁:=l)] at b;exact b.trans (L.append_right [k])
  have H:(ns++[k]).Nodup:=by
   rw[KO];refine⟨ay,by simp,λx z y hy=>?_⟩
   have:y=k:=by simpa using hy
   subst this;rintro rfl;exact hk z
  have I:Lw (ns++[k]):=λx z=>by
   rcases CZ.mp z with z|z
   .exact ao x z
   .rw[C9.mp z];exact P
  have b1:=qr I H;rw[Dj,P5] at b1;have al:t.mask=7/\C.size<=4/\(∀x∈(insertAt t.place b j).toList,x<=7)\/t.mask=31/\(insertAt t.place b j).toList=(l.take b++(k,G)::l.drop b).map tn:=by
   rw[b0];rcases J with ⟨e,h4,h7⟩|⟨e,Y⟩
   .refine .inl ⟨e,h4,λx z=>?_⟩;rcases CZ.mp z with z|z
    .exact h7 x (List.mem_of_mem_take z)
    .rcases ml.mp z with rfl|z
     .lia
     .exact h7 x (List.mem_of_mem_drop z)
   .refine .inr ⟨e,?_⟩;rw[Y,Eg,m3,OM,ON,show j=tn (k,G) by show j=k.toNat;lia]
  generalize a8:insertAt C b (hashInt k,Value.int k G)=i at R O;generalize b6:insertAt t.place b j=r at *;generalize b3:l.take b++(k,G)::l.drop b=l1 at B O al;have b5:i.size<=t.mask:=by rcases J with ⟨e,_,_⟩|⟨e,_⟩ <;> lia
  have a6:({ t with place:=r}:SetTable).fits i.size=true:=by
   unfold SetTable.fits SetTable.fill;simp[a5,R,as,F];lia
  have a0:layNew t C (hashInt k) (.int k G)=(i,{ t with place:=r},false,false):=by
   unfold layNew;rw[ar];dsimp only;rw[ax];dsimp only;rw[a8];unfold SetTable.orStandIn;rw[d_ a6,a6];rfl
  rw[a0];dsimp only;refine b_ (i3 (a:=()) ?_);rw[d_ an];refine b_ ?_;rw[hashByValue_scannable 8 (show (Value.int k G).scannable=true from rfl)];refine i3 ?_;rw[d_ (by rfl)];refine b_ (wpAny_storeSet_of ho hd ?_ (by rw[R,sizeLine_eq];lia));have sb:=Heap.SameBut.update s.heap S (Obj.putSet i { t with place:=r});have hg:=qX (es':=i) (t':={ t with place:=r}) ho hd;have bf:gc ns k=ns++[k]:=by unfold gc;rw[g_ hk]
  rw[bf] at h;have M:({ t with place:=r}:SetTable).fill=C.size+1:=by
   unfold SetTable.fill;show r.size+t.dummies.size=_;rw[F,a5,as];rfl
  by_cases f:({ t with place:=r}:SetTable).tooFull=true
  .have U:(C.size+1) * 5>=t.mask * 3:=by
    unfold SetTable.tooFull at f;rw[M] at f;simpa using f
   rw[d_ (by rw[f];rfl)];have b9:t.mask=7:=by rcases J with ⟨e,_,_⟩|⟨e,_⟩ <;> lia
   have h5:i.size=5:=by rcases J with ⟨e,_,_⟩|⟨e,_⟩ <;> lia
   obtain⟨u,l2,e1,p2,X,a4,bL⟩:=Jy l1 i O (λx z=>I x (B.mem_iff.mp z)) (B.nodup_iff.mpr H) t.finger (({ t with place:=r}:SetTable).movedTo 31) t.led t.plain;have z1:(u.filterMap (i[·]?)).size=i.size:=by
    rw[<-CD,X,oI,a4.length_eq,<-CD,O,oI]
   have bm:relayAll { t with place:=r} i (SetTable.grown i.size)=(u.filterMap (i[·]?),{ mask:=31,place:=(l2.map tn).toArray,dummies:=#[],finger:=t.finger,led:=t.led,moves:=({ t with place:=r}:SetTable).movedTo 31,plain:=t.plain},false):=by
    unfold relayAll SetTable.relaid;rw[h5,My,show 32 - 1=31 from rfl];show (match laid 31 t.finger _ t.led t.plain (i.map λe=>e.1) with | some (t',u)=>_ | none=>_)=_;rw[e1];dsimp only;rw[h5] at p2 z1;rw[d_];have c1:coversAll u 5=true:=by unfold coversAll;exact List.isPerm_iff.mpr p2
    have c2:l2.length=5:=by rw[<-z1,<-CD,X,oI]
    rw[c1,Bool.true_and,z1];unfold SetTable.fits SetTable.fill;simp[c2]
   rw[bm];dsimp only;refine b_ (i3 (a:=()) ?_);refine b_ (wpAny_storeSet_of hg rfl ?_ (by rw[z1,R,sizeLine_eq];lia));refine i3 (i3 (h true _ (sb.trans (Heap.SameBut.update _ _ _)) ?_));refine⟨_,_,_,_,qX hg rfl,a1,rfl,rfl,an,ai,E4 bL,?_,l2,X,(a4.map (·.1)).trans B,H,I,.inr ⟨rfl,rfl⟩⟩;rw[<-CD (xs:=Array.filterMap _ _),X];simp
  .have U:(C.size+1) * 5<t.mask * 3:=by
    unfold SetTable.tooFull at f;rw[M] at f;simpa using f
   rw[g_ (by simpa using f)];refine i3 (i3 (h true _ sb ⟨_,_,_,_,hg,a1,rfl,F,an,ai,br,by rw[R];show r.size=_;lia,_,O,B,H,I,?_⟩));rcases al with ⟨e,_,h7⟩|q
   .exact .inl ⟨e,by lia,h7⟩
   .exact .inr q
def Cb{h:Heap}{S:Addr}(i:h.get? S=some (g6 (du w))):IS prog w S [] h :=
 ⟨_,#[],0,.fresh 0 0 (du w),i,⟨rfl,rfl,rfl⟩,rfl,rfl,rfl,rfl,λa b u v _ f=>by simp[SetTable.fresh] at f,rfl,[],rfl,List.Perm.nil,Qs,(λ_ h=>nomatch h),.inl ⟨rfl,by simp,λx h=>by simp[SetTable.fresh] at h⟩⟩
def tW{R:Result->Shared->Prop}{I:Addr}{Z wr:List Addr}{G:Array GenState->Array GenState->Prop}{n:Nat}{P:Nat->Value->Prop}{St:Nat->Shared->Prop}
  (W:WalksS prog w A.in1 I Z wr G n P St) (S:Addr) (u:S∉Z) (ns:List Int) (hn:ns.length=n) (z:∀i v k,P i v->ns[i]?=some k->∃t,v=.int k t) (Q:Lw ns) :
  ∀(c i:Nat) (s:Shared),n - i=c->i<=n->St i s->IS prog w S (dq (ns.take i)) s.heap ->
   (∀a,Moved (S::wr) G s a->IS prog w S (dq ns) a.heap->R (.ok (.ret .none)) a) ->
   codeAny (model prog w) A (.builtin "set.update.loop" ⟨[.ref S,.ref I],[]⟩) R s:=by
 have J:S∉wr:=λh=>u (W.sub _ h);have f:∀b∈wr,b∈S::wr:=λb L=>m1 _ L;intro c
 induction c with
 | zero =>
  intro i s hc hi l M j;have e:i=n:=by lia
  subst e;refine codeAny_builtin F.entry_set_update_loop ?_;rw[Around.under_plainId F.plain_set_update_loop _];show wpAny _ A.in1 (pyNext (.ref I) >>= _) _ _ s;refine b_ (W.done s _ _ l λa B=>?_);show wpAny _ A.in1 (ret Value.none) _ _ a;rw[<-hn,OG] at M;exact i3 (j a (B.mono f) (lK M λo e=>B.heap S o J e))
 | succ c ih =>
  intro i s hc hi l M j;have C:i<n:=by lia
  refine codeAny_builtin F.entry_set_update_loop ?_;rw[Around.under_plainId F.plain_set_update_loop _];show wpAny _ A.in1 (pyNext (.ref I) >>= _) _ _ s;refine b_ (W.item i s _ _ C l λv a hP H B=>?_);obtain⟨k,X⟩:∃k,ns[i]?=some k:=⟨_,p_ (by lia)⟩;obtain⟨t,rfl⟩:=z i v k hP X;have T:=lK M λo e=>B.heap S o J e;show wpAny _ A.in1 (holding [Value.int k t] (setAdd S (.int k t)) >>= _) _ _ a;refine b_ (wpAny_holding ?_);unfold setAdd;refine wpAny_holding ?_;refine b_ ((intKind prog w).pyHash (k:=k) (intKind_is _ _ _ _) ?_);refine RF (s:={ a with toks:=a.toks+1}) T (Q k (Ee X)) λb h' Y r=>?_;rw[<-zF X] at r;refine i3 ⟨plainId_quiet F.plain_set_update_loop _,ih (i+1) _ (by lia) C (W.frame _ a _ _ H (Gn _) λb L o e=>?_) r λU y O=>?_⟩
  .exact (Y.2 b (λq:b=S=>u (by rw[<-q];exact L))).trans e
  .refine j U (Moved.trans W.gtrans ((B.mono f).then_heap (Gn _) λb o L e=>?_) y) O;exact (Y.2 b (λq:b=S=>L (by rw[q];exact CY))).trans e
set_option maxHeartbeats 3200000 in
theorem rc{l:Addr}{items:Array Value}{ns:List Int}{Q:Value->Shared->Prop}(hh:A.handled=none)(hl:s.heap.IsList l items)(hI:IntsAre items.toList ns)(ai:Lw ns)
  (h:∀(f:Heap) (T:Nat),IS prog w s.heap.objs.size (dq ns) f->Ext s.heap f->Q (.ref s.heap.objs.size) { s with heap:=f,toks:=T}) :
  wpAny (model prog w) A (call (.type "set") [.ref l]) Q E s:=by
 obtain⟨c,tl,a1⟩:=PySem.F.called_set.mro;have ao:=PySem.F.called_set.made;have ay:=PySem.F.called_set.sub;refine wpAny_call (codeAny_of_tree ?_);show wpAny _ _ (callAny (.type "set") _) _ _ _;refine i3 ⟨Code.quiet_builtin _ (by decide +kernel),codeAny_builtin PySem.F.entry_type_call ?_⟩;rw[Around.under_plain (weight_type_call_type "set" [.ref l] []) rfl];have h1:=PySem.F.called_set.notType;have h2:=PySem.F.called_set.canCreate;have a7:=PySem.F.typeCall_set_1 (.ref l)
 repeat (any_goals (first | assumption | wp_step))
 refine codeAny_mono (Ct (.ref l) (E:=E) (Q₁:=λobj u=>obj=.ref s.heap.objs.size/\u={ s with heap:=s.heap.push (g6 (du w))}) ⟨rfl,rfl⟩) λr u hr=>?_
 cases r with
 | error e=>exact hr
 | ok fl =>
  cases fl with
  | ret obj =>
   obtain⟨rfl,rfl⟩:=hr;have hS:(s.heap.push (g6 (du w))).get? s.heap.objs.size=some (g6 (du w)):=wy _ rfl;have hT:Shared.TypeIs { s with heap:=s.heap.push (g6 (du w))} (.ref s.heap.objs.size) "set":=⟨_,hS,rfl⟩;have a5:=PySem.F.called_set.init.lookup;have a4:=PySem.F.called_set.init.bind (.ref s.heap.objs.size)
   repeat (any_goals (first | assumption | wp_step))
   refine codeAny_mono (codeAny_call_builtin (R:=wants (λr y=>r=.none/\∃f T,y={ s with heap:=f,toks:=T} /\
     IS prog w s.heap.objs.size (dq ns) f/\Ext s.heap f) E) PySem.F.called_set.init.plain PySem.F.entry_set_init (check_set_init_1 hT ?_)) λO y a=>?_
   .have a8:=hl;obtain⟨ol,P,G,nl,H⟩:=hl;obtain⟨a0,F,ap,j⟩:=ol;simp only at G H;subst G;subst H;have I:(s.heap.push (g6 (du w))).get? l=some { cls:=.type "list",dict:=F,data:=.seq items nl,slots:=j}:=mz _ P;have a2:=PySem.F.sub_list_set;have a3:=PySem.F.sub_list_frozenset;have a6:(Value.type "list" == Value.type "dict")=false:=by decide
    have S:(s.heap.push (g6 (du w))).IsList l items:=⟨_,I,rfl,nl,rfl⟩;unfold Builtin.«set.__init__» noKeywords Builtin.Frozenset.updateFrom;generalize ax:pyIter=PI
    wp_walk
    subst ax;refine wpAny_pyIter_list S ?_;refine b_ (wpAny_runValue ?_);have M:l<s.heap.objs.size:=n9 P;have X:A.in1.in1.in1.handled=none:=by simp[hh]
    have z:(s.heap.push (g6 (du w))).objs.size=s.heap.objs.size+1:=by rw[Dl]
    have L:l≠(s.heap.push (g6 (du w))).objs.size:=by rw[z];exact s_ (KP M)
    have ar:s.heap.objs.size∉[(s.heap.push (g6 (du w))).objs.size,l]:=by
     rw[z];simp only[ml,Ef,or_false,not_or];exact⟨s_ (OF _),Cy M⟩
    have J:ns.length=items.size:=by have:=IntsAre.length hI;rw[CD] at this;exact this.symm
    refine tW ((Walks.list X _ l L items).toS) s.heap.objs.size ar ns J
     (λi v k hv an=>by
      obtain⟨t,e⟩:=IntsAre.int_at hI i v (by rw[Ec];exact hv);rw[o_,an] at e
      exact⟨t,e⟩) ai (items.size - 0) 0 _ (by lia) (Cz _) ⟨⟨_,wy _ rfl,rfl,rfl⟩,(S.push _)⟩ ?_ ?_
    .exact Cb (mz _ hS)
    .intro s' U C;obtain⟨f,g',d',as,Y⟩:=s';have eg:g'=s.gens:=U.gens;have ed:d'=s.drawn:=U.drawn;have eo:Y=s.os:=U.os;subst eg;subst ed;subst eo;show wpAny _ _ _ _ _ _;refine i3 ?_;show wpAny _ _ (ret Value.none) _ _ _;refine i3 ⟨rfl,f,as,rfl,C,λb o e=>?_⟩;have hb:=n9 e;have Z:b≠s.heap.objs.size:=s_ hb;have al:b≠(s.heap.push (g6 (du w))).objs.size:=by rw[z];exact s_ (KP hb)
     exact U.heap b o (by simp only[ml,Ef,or_false,not_or];exact⟨Z,al⟩) (mz _ (mz _ e))
   .cases O with
    | error e=>exact a
    | ok B =>
     cases B with
     | ret r =>
      obtain⟨rfl,f,T,rfl,C,hx⟩:=a
      repeat (any_goals (first | assumption | wp_step))
      exact h _ _ C hx
     | _=>exact a.elim
  | _=>exact hr.elim
def Fs(l:List (Int × Tok)):IntsAre (l.map λp=>Value.int p.1 p.2) (l.map (·.1)):=by
 induction l with
 | nil=>exact .nil
 | cons p l a=>exact .cons p.1 p.2 a
def sk{S:Addr}{ns:List Int}{Q:List Value->Shared->Prop}(hh:A.handled=none)(T:IS prog w S ns s.heap)
  (U:∀i F P f,Ext s.heap i->s.heap.objs.size<i.objs.size->IntsAre P f->f.Perm ns->Q P { s with heap:=i,toks:=F}) :
  wpAny (model prog w) A (collect (.ref S)) Q E s:=by
 obtain⟨o,B,R,t,Z,G,hd,J,C,j,u,L,l,M,a,z,H,I⟩:=id T;have O:B.size=ns.length:=by rw[<-CD,M,oI,<-a.length_eq,oI]
 have X:=qr H z;refine sA hh ⟨G,hd,J,C,j,u,L,by rcases I with ⟨e,_,_⟩|⟨e,_⟩ <;> lia⟩ Z (by rw[sizeLine_eq];lia) λi F e1 e3 e2=>?_;have r:=jm w S R B;generalize (cT w S R B).toList=x at r ⊢;rw[M] at r;have ex:x=(x.map λe=>(match e.2 with | .int k t=>(k,t) | _=>((0:Int),(0:Tok)))).map (λp=>(hashInt p.1,Value.int p.1 p.2)):=by
  rw[oF]
  conv=>lhs;rw[<-OR x]
  refine B_ λy hy=>?_;obtain⟨p,_,rfl⟩:=mu.mp (r.mem_iff.mp hy);rfl
 have pl:(x.map λe=>(match e.2 with | .int k t=>(k,t) | _=>((0:Int),(0:Tok)))).Perm l:=by
  have:=r.map λe:Int × Value=>(match e.2 with | .int k t=>(k,t) | _=>((0:Int),(0:Tok)))
  rw[oF] at this;refine this.trans (List.Perm.of_eq ?_)
  conv=>rhs;rw[<-OR l]
  rfl
 generalize (x.map λe=>(match e.2 with | .int k t=>(k,t) | _=>((0:Int),(0:Tok))))=Y at ex pl;subst ex;rw[oF];exact U i F _ _ e1 e3 (Fs Y) ((pl.map (·.1)).trans a)
end
end SetT
namespace MM
open PySem.Spec PyProof.Rows L2 SetT SortT
section
variable {X:Cx} {N W G:List Str} {k:Nat}
def yY(F:X.calm=true):dY X (.type "set") (λxs H Q=>∃l ns,xs=[.ref l]/\SqL X.K H l (ns.map V.int)/\Lw ns/\∀S,H S=none->Q (.ref S) (m_ H S (.ext (IS X.prog X.w S (dq ns))))):=by
 intro U s Z H xs P Q I r ⟨l,ns,e,B,z,q⟩;subst e;obtain⟨u,rfl,y⟩:=gE r;cases y;obtain⟨C,j,pl,M⟩:=I.list B;have f:=I.hok.fresh (j_ s.heap.objs.size);refine rc (I.ok.hd F) pl.isList (ns:=ns) (by simpa using uo j) z λh' L T x=>?_;obtain⟨o,J,Y,t,E,i⟩:=id T;exact⟨.ref s.heap.objs.size,_,I.laid (o:=.ext (IS X.prog X.w s.heap.objs.size (dq ns))) x (j_ _) ⟨T,⟨o,E⟩,λO R a b=>lK a b⟩,rfl,q _ f⟩
def sH(hh:X.calm=true):dY X (.builtin "sorted") (λxs H Q=>∃S ns,xs=[.ref S]/\H S=some (.ext (IS X.prog X.w S ns))/\ns.length<64/\∀l,H l=none->Q (.ref l) (m_ H l (.lst ((gz ns).map V.int)))):=by
 intro Mq s Z H xs us Q I r ⟨S,ns,e,R,hz,q⟩;subst e;obtain⟨u,rfl,O⟩:=gE r;cases O;obtain⟨T,_,_⟩:IS X.prog X.w S ns s.heap/\_:=(show ObjOk X.prog X.w H s.heap S (.ext (IS X.prog X.w S ns)) from I.hok S _ R);refine Calls.call_function_entry kind_sorted plain_sorted entry_sorted (args_sorted1 _) ?_;unfold Builtin.«sorted»;refine b_ (m:=checkCount "sorted" 1 1 _) (i3 ?_);refine b_ (sk (by simpa using I.ok.hd hh) T λi J j P F f C E=>?_);have U:j.length=ns.length:=by rw[IntsAre.length C,E.length_eq]
 refine b_ (wpAny_newList ?_ (by rw[sizeLine_eq];lia));have a:(i.push (seqObj "list" j.toArray 0)).get? i.objs.size=some (seqObj "list" j.toArray 0):=wy _ rfl
 refine b_ (wpAny_holding (wpAny_call_entry slot_list_sort ⟨_,a,rfl⟩ entry_list_sort
  (list_sort_tree (s:={ s with heap:=i.push (seqObj "list" j.toArray 0),toks:=J}) a C (by lia) λy z a1 a2 Y=>⟨_,rfl,?_⟩) (args_list_sort _)))
 refine i3 ⟨_,rfl,?_⟩;have e:z=gz ns:=nh Y (ub ns) (a2.trans (E.trans (lq ns).symm));subst e;obtain⟨c,M⟩:=jf (vs:=j) a y;refine⟨.ref i.objs.size,_,I.laid (o:=.lst ((gz ns).map V.int)) (t':=J) (λb o L=>?_) (Dm f) (show ObjOk X.prog X.w _ _ _ (.lst _) from⟨?_,y.toList,c,um a1,?_⟩),rfl,q _ (I.hok.fresh (Dm f))⟩
 .have B:b<i.objs.size:=n9 (F b o L);exact iM (s_ B) (mz _ (F b o L)) _
 .rw[oI,(lq ns).length_eq,sizeLine_eq];lia
 .rw[M]
def Ul(m:Mx (List PV)):Mx PV:=λZ h=>(m Z h).bind λxs a=>match xs with
 | [x]=>(match (hZ a x).bind kM with
  | some ns=>if ns.length<64/\Lw ns then .ok (.loc a.length) (a++[.lst ((gz (dq ns)).map .int)]) else .bad
  | none=>.bad)
 | _=>.bad
def rq(g:Good X N W G k){a:Expr}{m:Mx (List PV)}{p M F f:Pos}(i j:Nat)(hm:X.mg "sorted"=none)(I:X.mg "set"=none)(ha:MA X [a] m)(T:G[i]?=some "sorted":=by rfl)(hj:G[j]?=some "set":=by rfl)
  (hs:starEach [a] X.env=[(false,eval a X.env)]:=by rfl) (R:starEach [.Call (.Name "set" M) [a] [] f] X.env=[(false,eval (.Call (.Name "set" M) [a] [] f) X.env)]:=by rfl) :
  ME X (.Call (.Name "sorted" p) [.Call (.Name "set" M) [a] [] f] [] F) (Ul m):=by
 have d:=g.dbg _ (z4 _ (bo T));have Y:=g.dbg _ (z4 _ (bo hj));refine PE.imp (oj (sH g.calm) (g.gl _ (bo T)) hm PyProof.Rows.Boot.«sorted» (mN (qP (yY g.calm) (g.gl _ (bo hj)) I PyProof.Rows.Boot.«set» ha Y.2.2 Y.1 hs rfl) tN R) d.2.2 d.1 R rfl) λZ H Q ⟨U,L,h,rs,rh,q⟩=>?_;refine⟨U,L,h,rs,rh,Ful.bind q λU1 H1 x x' h1 ex l1 r rx q1=>?_⟩;clear ex
 cases rx with
 | nil=>exact q1.elim
 | @cons y y' _ _ r1 t1 =>
  cases t1 with
  | cons _ _=>exact q1.elim
  | nil =>
   dsimp only at q1
   cases J:hZ h1 y with
   | none=>rw[J] at q1;exact q1.elim
   | some xs =>
    rw[J] at q1
    cases P:kM xs with
    | none=>simp only[Ll,P] at q1;exact q1.elim
    | some ns =>
     simp only[Ll,P] at q1;by_cases z:ns.length<64/\Lw ns
     .rw[d_ z] at q1;obtain⟨la,zs,rfl,u,B⟩:=E6 r r1 J;rw[wd P] at B;rw[GD B] at u;refine⟨la,ns,rfl,u,z.2,λS hS=>?_⟩;obtain⟨C,l2⟩:=r.loose hS (.ext (IS X.prog X.w S (dq ns)));refine⟨S,dq ns,rfl,cp,KN (Fp ns) z.1,λl E=>?_⟩;obtain⟨O,l3⟩:=C.new E (o:=.lst ((gz (dq ns)).map .int)) (ho:=.lst ((gz (dq ns)).map V.int)) ⟨_,rfl,RPs.ints _⟩;exact q1 _ _ _ (l2.trans l3) O (.loc (by rw[<-r.len];simp))
     .rw[g_ z] at q1;exact q1.elim
end
end MM
namespace PU
open MM SetT
noncomputable section
def PL:Dx where
 k:=λu f=>match u with
  | [x]=>(match (hZ f x).bind kM with
   | some ns=>if ns.length<64/\Lw ns then .ok (.loc f.length) (f++[.lst ((gz (dq ns)).map .int)]) else .bad
   | none=>.bad)
  | _=>.bad
 p:=λa=>match a with
  | [.lst i]=>(kC i).bind λns=>if ns.length<64/\Lw ns then some (.lst ((gz (dq ns)).map .int)) else none
  | _=>none
 fr:=true
 ok {q h L O a xs d} bd w e:=by
  match a,e with
  | [.lst i],e =>
   obtain⟨x,rfl,l⟩:=fc w;obtain⟨y,j,r⟩:=l.lstOf;rw[Ou] at e;obtain⟨ns,e1,e2⟩:=e;by_cases z:ns.length<64/\Lw ns
   .rw[d_ z] at e2;cases e2;simp only[j,Ll,sB r e1,qJ];rw[d_ z];exact Uf bd λ_ _=>iG _
   .rw[g_ z] at e2;cases e2
def Am(ns:List Int):kC (ns.map .int)=some ns:=by
 induction ns with
 | nil=>rfl
 | cons i k a=>rw[m3,kC,a];rfl
def Nc{ns:List Int}(h:ns.length<64/\Lw ns):PL.p [.lst (ns.map .int)]=some (.lst ((gz (dq ns)).map .int)):=by
 show (kC (ns.map .int)).bind _=_;rw[Am,Ll,d_ h]
end
def zY{ns:List Int}(h:ns.Pairwise (·<·)):dq ns=ns:=by
 have key:∀(l a:List Int),(a++l).Pairwise (·<·)->l.foldl gc a=a++l:=by
  intro l
  induction l with
  | nil=>intro a _;simp
  | cons k l j =>
   intro a i;have f:k∉a:=λf=>by
    have:=(List.pairwise_append.mp i).2.2 k f k (by simp)
    ext
   rw[Qm,show gc a k=a++[k] by unfold gc;rw[g_ f],j (a++[k]) (by simpa using i)];simp
 have:=key ns [] (by simpa using h)
 simpa [dq] using this
def yM{ns:List Int}(h:ns.Pairwise (·<·)):gz ns=ns:=nh (ub ns) (h.imp λh=>by ext) (lq ns)
end PU
namespace MM
open PySem.Spec PyProof.Rows L2
open PU (Xe Xs Xt Xi Xg GJ Xo Xd Py BD Dx MQ Ek OpR Fn ab xC ac BV a_ aa n_ aj mn fJ aU Fc xB dH qj CO f_ jk rS qg aO be aV ia w9 n7 w_ aA i_ aX k5 va aQ dI dj MX Fd ug jJ bK Jc Jd Jf Jn t5 Fh PJ Fk kO uK Fl Fg)
structure Dr (X:Cx) (e:Expr) (m:Mx Bool):Prop where
 h:MT X e m
structure Jz (X:Cx) (e:Expr) (m:Mx Bool):Prop where
 h:MW X e m
structure GW (X:Cx) (tg e:Expr) (m:Mx MIt):Prop where
 h:MI X tg e m
structure Nd (X:Cx) (e:Expr) (m:Mg):Prop where
 h:MG X e m
structure PM (X:Cx) (e:List Expr) (m:ER):Prop where
 h:L7 X e m
structure RG (X:Cx) (e:List Expr) (m:Mx Bool):Prop where
 h:EY X e m
structure PN (X:Cx) (e:Option Expr) (m:Mx (Option Int)):Prop where
 h:MO' X e m
structure OJ (X:Cx) (r:Value->Value->Sem Value) (o:BD):Prop where
 h:Cm X r o.m
def JA(a:Scope):List Str:=(a.names.filter λy=>match y.2 with | .globalImplicit=>true | _=>false).map (·.1)
abbrev gm(sc:Scope)(x:Str):Prop:=x∈JA sc
def GX:Expr->List Str
 | .Name x _=>[x]
 | .Tuple a _ _=>a.flatMap λe=>match e with
  | .Name x _=>[x]
  | .Tuple a _ _=>a.flatMap λe=>match e with
   | .Name x _=>[x]
   | _=>[]
  | _=>[]
 | _=>[]
def K8(N:List Str)(fm:List Nat):List Str:=fm.filterMap (N[·]?)
structure Wc (X:Cx) (P:Program) (w:World) (K:hR) (mg:Str->Option Value) (base:Heap) (N W:List Str) (k:Nat) (sc:Scope):Prop where
 g:Good X N W (JA sc) k
 e:EE X P w K mg base
 s:X.env.scope=sc
section
variable {X Y:Cx} {P:Program} {w:World} {K:hR} {mg:Str->Option Value} {base:Heap} {N W:List Str} {k:Nat} {sc:Scope} {ws:List Nat} {x y:Str} {p p' pos spos:Pos} {e a b d tg:Expr} {es:List Expr} {i j:Nat} {st:Stmt} {rest body:List Stmt} {xa xb xd:Xe ws} {ta tb:Xt ws} {sa:Xs ws} {da db:Xd ws}
def Wc.gj(c:Wc X P w K mg base N W k sc)(h:gm sc x):∃j:Nat,(JA sc)[j]?=some x:=List.getElem?_of_mem h
def Wc.n(c:Wc X P w K mg base N W k sc)(z:Zn K x):X.mg x=none:=c.e.n z
def Nf{i:Int}:lw X (.Constant (.int i) j pos) (xC (ws:=ws) (.int i)).m:=⟨aH⟩
def Ng{i:Str}:lw X (.Constant (.str i) j pos) (xC (ws:=ws) (.str i)).m:=⟨zr⟩
def RJ{i:Bool}:lw X (.Constant (.bool i) j pos) (xC (ws:=ws) (.bl i)).m:=⟨rO⟩
def Nh{f:Operator}{o:BD}(l:OJ X (binaryOp f) o)(r:lw X a xa.m)(u:lw X b xb.m):lw X (.BinOp a f b pos) (ac o xa xb).m:=⟨aW l.h r.h u.h⟩
def Ni{f:CmpOp}{o:BD}(l:OJ X (compareOp f) o)(r:lw X a xa.m)(z:lw X b xb.m)(u:behindInMarks f b=false):lw X (.Compare a [f] [b] pos) (ac o xa xb).m:=⟨Au l.h r.h z.h u⟩
def RK(l:lw X a xa.m)(r:lw X b xb.m)(f:ir b):lw X (.Subscript a b pos) (ac PU.h8 xa xb).m:=⟨xP l.h r.h f⟩
def Nj(f:lw X a xa.m):lw X (.UnaryOp .USub a pos) (BV PU.tS xa).m:=⟨L5 Iz f.h⟩
def JB(f:lw X a xa.m):lw X (.UnaryOp .Not a pos) (rS xa).m:=⟨Il f.h⟩
def Nk{l:BoolOp}(f:lw X a xa.m):lw X (.BoolOp l [a] pos) xa.m:=⟨Ij f.h⟩
def JC(f:lw X a xa.m)(l:lw X (.BoolOp .And (b::es) pos) xb.m):lw X (.BoolOp .And (a::b::es) pos) (jk xa xb).m:=⟨Ik f.h l.h⟩
def Nl{fz hf}(f:Dr X e ta.m)(l:lw X a xa.m)(r:lw X b xb.m):lw X (.IfExp e a b pos) (qg ta xa xb fz hf).m:=⟨Io f.h l.h r.h⟩
def Nm{hz}(h:CL X es sa.m):lw X (.Tuple es j pos) (aU sa hz).m:=TL h
def No{hz}(h:CL X es sa.m):lw X (.List es pos) (fJ sa hz).m:=PK h
def Np:lw X (.Dict [] [] pos) (Fc (ws:=ws)).m:=⟨EV⟩
def RL{lo f:Option Expr}{r l:Xo ws}(u:lw X a xa.m)(B:PN X lo r.m)(z:PN X f l.m):lw X (.Subscript a (.Slice lo f none p) pos) (Jf xa r l).m:=⟨Mw u.h B.h z.h⟩
def RM:PN X none (Jc (ws:=ws)).m:=⟨E2⟩
def RN(f:lw X a xa.m):PN X (some a) (Jd xa).m:=⟨E3 f.h⟩
def Nq:CL X [] (a_ (ws:=ws)).m:=lj
def JD(l:lw X e xa.m)(f:CL X es sa.m)(r:bY e=true):CL X (e::es) (aa xa sa).m:=d9 l f r
def Nr:OJ X (binaryOp .Add) PU.bS:=⟨dz⟩
def Nt:OJ X (binaryOp .Sub) PU.dS:=⟨ue⟩
def Nu:OJ X (binaryOp .Mult) PU.cH:=⟨gR⟩
def JE:OJ X (compareOp .NotIn) (PU.nB true):=⟨IQ true⟩
def Nv(l:lw X a xa.m)(r:lw X b xb.m)(f:ir b):lw X (.Subscript a b pos) (ac PU.nI xa xb).m:=⟨IR l.h r.h f⟩
def Nw:OJ X (binaryOp .Mod) PU.og:=⟨d5⟩
def Nx:OJ X (binaryOp .Pow) PU.td:=⟨sL⟩
def RQ:OJ X (compareOp .Lt) PU.PB:=⟨Gx⟩
def RR:OJ X (compareOp .Gt) PU.Jb:=⟨Gy⟩
section
variable (c:Wc X P w K mg base N W k sc)
include c
def w_var(f:N[i]?=some x):lw X (.Name x pos) (ab (ws:=ws) i).m:=⟨Ac c.g i f⟩
def RT:OJ X (binaryOp .FloorDiv) PU.C8:=⟨xR c.g.room⟩
def Ny{i j:Int}(v:nN K mg x i j)(f:gm sc x):lw X (.Name x pos) (Fg (ws:=ws) i j).m :=
 let ⟨_,l⟩:=c.gj f
 ⟨IL c.g l (by rw[c.e.e3,c.e.e4];exact v)⟩
def RU:OJ X (compareOp .Eq) PU.CV:=⟨yA c.g.room⟩
def RV:OJ X (compareOp .NotEq) PU.vr:=⟨yj c.g.room⟩
def Nz:OJ X (compareOp .NotIn) (PU.MZ true):=⟨Mt c.g.room true⟩
end
def fM{env:Env}:∀{es:List Expr},es.all bY=true->(backTo pos (starEach es env)).any (·.1)=false
 | [],_=>rfl
 | e::es,h=>by
  have f:bY e=true/\es.all bY=true:=by simpa using h
  have:=fM (env:=env) f.2
  rw[bJ f.1];simpa [backTo] using this
section
variable (c:Wc X P w K mg base N W k sc)
include c
def JF{F:Fn}{ps:List Str}{hz}(u:CL X (e::es) sa.m)(f:FnAt P w K mg base x ps F.m i)(h:i<=k)(z:gm sc x)(r:(e::es).all bY=true):lw X (.Call (.Name x p) (e::es) [] pos) (aj F sa hz).m :=
 let ⟨_,B⟩:=c.gj z
 have l:bY e=true/\es.all bY=true:=by simpa using r
 ⟨qm c.g B (f.c c.e h) u.h (bJ l.1) (fM l.2)⟩
def JG{F:Fn}{ps:List Str}{hz}(u:CL X (e::es) sa.m)(f:FnAt P w K mg base x ps F.m i)(h:i<=k)(z:gm sc x)(r:(e::es).all bY=true):lw X (.Call (.Name x p) (e::es) [] pos) (mn F sa hz).m :=
 let ⟨_,B⟩:=c.gj z
 have l:bY e=true/\es.all bY=true:=by simpa using r
 ⟨qm c.g B (f.c c.e h) u.h (bJ l.1) (fM l.2)⟩
end
inductive BB (X:Cx) (x:Str) (o:Dx):Prop
 | fn (id:String) (f:List PV->MH->Out PV) (h:bootBuiltins x=some (.builtin id)) (c:dw X (.builtin id) f) (e:o.k=λxs h=>(f xs h).ne:=by rfl):BB X x o
 | ty (T:String) (f:List PV->MH->Out PV) (h:bootBuiltins x=some (.type T)) (c:dw X (.type T) f) (e:o.k=λxs h=>(f xs h).ne:=by rfl):BB X x o
def NA:BB X "abs" PU.pN:=.fn _ _ tu u4
def NB:BB X "int" PU.jz:=.ty _ _ uz Ao
def NC:BB X "len" PU.cr:=.fn _ _ lI lR
def JH:BB X "list" PU.jc:=.ty _ _ mQ vB
def Ft:BB X "tuple" PU.fF:=.ty _ _ tY A1
section
variable (c:Wc X P w K mg base N W k sc)
include c
def ND{o:Dx}(B:BB X x o)(r:CL X (e::es) sa.m)(z:Zn K x)(E:gm sc x)(C:(e::es).all bY=true):lw X (.Call (.Name x p) (e::es) [] pos) (n_ o sa).m:=by
 obtain⟨j,u⟩:=c.gj E;have l:bY e=true/\es.all bY=true:=by simpa using C
 refine⟨?_⟩;show ME X _ (λZ h=>(sa.m Z h).bind o.k)
 cases B with
 | fn id f h d q=>rw[q];exact sY c.g j u d (c.n z) h r.h (bJ l.1) (fM l.2)
 | ty T f h d q=>rw[q];exact qK c.g j u d (c.n z) h r.h (bJ l.1) (fM l.2)
def Fv:BB X "list" PU.oY:=.ty _ _ mQ (Bt c.g)
def JI:BB X "dict" PU.oG:=.ty _ _ wF (wC c.g)
def RW(u:CL X [a] sa.m)(z1:Zn K "sorted")(z:Zn K "set")(f:gm sc "sorted")(r:gm sc "set")(l:bY a=true):lw X (.Call (.Name "sorted" p) [.Call (.Name "set" p') [a] [] spos] [] pos) (n_ PU.PL sa).m :=
 let ⟨_,i⟩:=c.gj f;let ⟨_,j⟩:=c.gj r
 ⟨rq c.g _ _ (c.n z1) (c.n z) u.h i j (bJ l)⟩
end
structure BT (x:Str) (T:String):Prop where
 h:bootBuiltins x=some (.type T)
 o:IA T
def NE:BT "int" "int":=⟨uz,EU⟩
def JJ:BT "bool" "bool":=⟨Fi,BK⟩
def Fw:BT "tuple" "tuple":=⟨tY,yJ⟩
def JK:BT "list" "list":=⟨mQ,A8⟩
section
variable (c:Wc X P w K mg base N W k sc)
include c
def NF{T:String}(B:BT x T)(u:lw X a xa.m)(z1:Zn K "isinstance")(z:Zn K x)(f:gm sc "isinstance")(r:gm sc x)(l:bY a=true):lw X (.Call (.Name "isinstance" p) [a,.Name x p'] [] pos) (BV (PU.dr [T]) xa).m :=
 let ⟨_,i⟩:=c.gj f;let ⟨_,j⟩:=c.gj r
 ⟨IB c.g i (c.n z1) j (c.n z) B.h B.o u.h (bJ l)⟩
end
abbrev MJ(X:Cx)(name:Str)(f:Nat->List PV->MH->Out PV):Prop:=∃id,Slot "list" name id/\typeOf (.builtin id)=pure (.type "method_descriptor")/\Ei X id (E0 X f)
section
variable {name:Str} {f:Nat->List PV->MH->Out PV} {o:Ek} {m:Mx PV}
def RX{l:Mx (List PV)}(M:MJ X name f)(r:lw X a m)(u:CL X (e::es) l)(h:(((backTo pos (starEach (e::es) X.env)).all (λx=>!x.1) && (backToKw pos (keywordEach [] X.env)).all (λx=>x.1.isSome) && decide ((e::es).length+([]:List Keyword).length+(if ([]:List Keyword).isEmpty then 0 else 1)<30))=true/\(p.endLine == pos.line)=true)/\attributeBase a name X.env (eval a X.env)=eval a X.env/\starEach (e::es) X.env=(false,eval e X.env)::starEach es X.env/\(backTo pos (starEach es X.env)).any (·.1)=false):lw X (.Call (.Attribute a name p) (e::es) [] pos) (C7 f m l) :=
 let ⟨_,x,y,z⟩:=M
 ⟨Ms x y z r.h u.h h.2.1 h.1.1 h.1.2 h.2.2.1 h.2.2.2⟩
def RY{hi hz}(h:lw X e (C7 o.m (ab (ws:=ws) i).m sa.m))(l:swapsWith e none pos.line X.env=pure false):B1 X (.Expr e pos) (Fd o i sa hi hz).m:=⟨pI h.h l⟩
def NG{hi hj hz}(c:Wc X P w K mg base N W k sc)(h:lw X e (C7 o.m (ab (ws:=ws) i).m sa.m))(u:swapsWith e (some (.Name y p)) pos.line X.env=pure false)(l:N[j]?=some y)(r:W[j]?=some y):B1 X (.Assign [.Name y p] e pos) (ug j o i sa hi hj hz).m:=⟨oD c.g j l r h.h u⟩
end
def Bl:MJ X "append" PU.A4.m:=⟨_,zk,zH,AG⟩
def By:MJ X "insert" PU.A_.m:=⟨_,AA,zn,zV⟩
def JL:MJ X "pop" PU.CK.m:=⟨_,Jq,Jr,Fb⟩
def Ae(c:Wc X P w K mg base N W k sc):MJ X "remove" PU.B6.m:=⟨_,yH,Ap,xx c.g.room⟩
def RZ(f:lw X a xa.m)(l:CL X [b,d] sa.m)(h:(((backTo pos (starEach [b,d] X.env)).all (λx=>!x.1) && (backToKw pos (keywordEach [] X.env)).all (λx=>x.1.isSome) && decide ([b,d].length+([]:List Keyword).length+(if ([]:List Keyword).isEmpty then 0 else 1)<30))=true/\(p.endLine == pos.line)=true)/\attributeBase a "get" X.env (eval a X.env)=eval a X.env/\starEach [b,d] X.env=(false,eval b X.env)::starEach [d] X.env/\(backTo pos (starEach [d] X.env)).any (·.1)=false):lw X (.Call (.Attribute a "get" p) [b,d] [] pos) (Fk xa sa).m:=⟨GF f.h l.h h.2.1 h.1.1 h.1.2 h.2.2.1 h.2.2.2⟩
def JM{f:CmpOp}{o:BD}(l:OJ X (compareOp f) o)(r:lw X a xa.m)(z:lw X b xb.m)(u:behindInMarks f b=false):Dr X (.Compare a [f] [b] pos) (xB (ac o xa xb)).m:=⟨AJ l.h r.h z.h u⟩
def JN(h:Dr X a ta.m):Dr X (.UnaryOp .Not a pos) (dH ta).m:=⟨oQ h.h⟩
def R0{f:BoolOp}(h:Jz X (.BoolOp f es pos) ta.m):Dr X (.BoolOp f es pos) ta.m:=⟨MW.mt h.h⟩
def JO(h:Dr X a ta.m):Jz X (.BoolOp .And [a] pos) ta.m:=⟨EO h.h⟩
def NH(h:Dr X a ta.m):Jz X (.BoolOp .Or [a] pos) ta.m:=⟨sF h.h⟩
def w_and(h:Dr X a ta.m)(f:Jz X (.BoolOp .And (b::es) pos) tb.m):Jz X (.BoolOp .And (a::b::es) pos) (qj ta tb).m:=⟨Ii h.h f.h⟩
def w_or(h:Dr X a ta.m)(f:Jz X (.BoolOp .Or (b::es) pos) tb.m):Jz X (.BoolOp .Or (a::b::es) pos) (CO ta tb).m:=⟨rP h.h f.h⟩
def NI(h:lw X e xa.m)(l:∀f,isTrue e X.env f=(do let v <-f;standAt e.pos;holding [v] (truthy v))):Dr X e (Jn xa).m:=⟨IK h.h l⟩
def NJ(h:lw X e xa.m)(l:∀f,isTrue e X.env f=(do let v <-f;standAt e.pos;holding [v] (truthy v))):Dr X e (xB xa).m:=⟨pg h.h l⟩
def NK:RG X [] (f_ (ws:=ws)).m:=⟨j7⟩
def NL(h:Dr X a ta.m):RG X [a] ta.m:=⟨EZ h.h⟩
def R1:PM X [] (w9 (ws:=ws)).m:=⟨qo⟩
def R3{f:Xg ws}{l:GJ ws}(r:Nd X e f.m)(u:PM X es l.m)(z:(assignEach (e::es) X.env).map (·.2)=assign e X.env::(assignEach es X.env).map (·.2)):PM X (e::es) (n7 f l).m:=⟨iK r.h u.h z⟩
def NM{n:Nat}(h:lw X a xa.m)(f:attributeBase a "items" X.env (eval a X.env)=eval a X.env)(l:(p.endLine == pos.line)=true):GW X (.Tuple es n p') (.Call (.Attribute a "items" p) [] [] pos) (uK xa).m:=⟨Cg h.h f l⟩
def NN(h:lw X a xa.m):GW X tg a (aV xa).m:=⟨zd h.h⟩
section
variable (c:Wc X P w K mg base N W k sc)
include c
def R4{hi}(h:N[i]?=some x)(f:W[i]?=some x):Nd X (.Name x pos) (ia (ws:=ws) i hi).m:=⟨wQ c.g i h f⟩
def R5{l:GJ ws}{n:Nat}(h:PM X es l.m)(r:(assignEach es X.env).length=n)(f:(assignEach es X.env).findIdx? (·.1)=none):Nd X (.Tuple es j pos) (w_ l n).m:=⟨uL c.g h.h r f⟩
def R6{n:Nat}(h:CL X [a] sa.m)(z:Zn K "enumerate")(l:gm sc "enumerate")(f:bY a=true):GW X (.Tuple es n p) (.Call (.Name "enumerate" p') [a] [] pos) (be PU.iE sa).m:=let ⟨_,r⟩:=c.gj l;⟨E9 c.g r (c.n z) h.h (bJ f)⟩
def R7{n:Nat}(h:CL X [a,b] sa.m)(z:Zn K "zip")(r:gm sc "zip")(l:starEach [a,b] X.env=(false,eval a X.env)::starEach [b] X.env)(f:(backTo pos (starEach [b] X.env)).any (·.1)=false):GW X (.Tuple es n p) (.Call (.Name "zip" p') [a,b] [] pos) (be PU.iZ sa).m:=let ⟨_,u⟩:=c.gj r;⟨zp c.g u (c.n z) h.h l f⟩
def NO(h:CL X [a] sa.m)(z:Zn K "range")(l:gm sc "range")(f:bY a=true):GW X tg (.Call (.Name "range" p) [a] [] pos) (be PU.wh sa).m:=⟨qE (c.g.gl _ l) (c.n z) h.h (bJ f)⟩
end
structure CB (Y:Cx) (tg elt:Expr) (ifs:List Expr) (gt:Mg) (mt:Mx Bool) (me:Mx PV):Prop where
 g:Nd Y tg gt
 t:RG Y ifs mt
 e:lw Y elt me
section
variable {iter elt:Expr} {ifs:List Expr} {scope:Scope} {nv:Nat} {fm ws':List Nat} {xi:Xi ws} {gt:Xg ws'} {xt:Xt ws'} {xe:Xe ws'}
abbrev TN(N:List Str)(tg:Expr)(nv:Nat)(fm:List Nat)(scope sc:Scope):Prop:=M_ scope sc (GX tg) (K8 N fm)/\(GX tg++K8 N fm).Nodup/\(∀x∈JA (K6 scope sc),scope.names.lookup x=some .globalImplicit)/\(∀x∈(GX tg++K8 N fm)++JA (K6 scope sc),(x == ("__debug__":Str))=false/\(x == ("__classdict__":Str))=false/\x≠"__name__")/\fm.map (λi=>N[i]?)=(K8 N fm).map some/\(GX tg).length=nv
section
variable (c:Wc X P w K mg base N W k sc)
include c
def JP{M:PU.DE nv fm ws=ws'}{F:xe.fz=true}(E:GW X tg iter xi.m)(G:∀Y:Cx,Wc Y P w K mg base (GX tg++K8 N fm) (GX tg) k (K6 scope sc)->CB Y tg elt ifs gt.m xt.m xe.m)(H:scope.kind=.function)(h:TN N tg nv fm scope sc)
  (L:∀x,foldedSetIterable iter X.env x=pure x):lw X (.ListComp elt [⟨tg,iter,ifs,0⟩] scope pos) (aO nv fm xi gt xt xe M F).m:=by
 obtain⟨J,nd,I,dbg,z,rfl⟩:=h;exact⟨vZ c.g (j0 c.s H z J) nd I dbg E.h (λY f B l u r C g=>let q:=G Y ⟨g,⟨f.trans c.e.e1,B.trans c.e.e2,l.trans c.e.e3,u.trans c.e.e4,r.trans c.e.e5,c.e.b⟩,C.trans (ss c.s)⟩;⟨q.g.h,q.t.h,q.e.h⟩) L⟩
end
section
variable (c:Wc X P w K mg base N W k sc) (hsw:∀env:Env,env.scope=sc->swapsWith (.ListComp elt [⟨tg,iter,ifs,0⟩] scope pos) (some (.Name y p)) spos.line env=pure true) (hi:GW X tg iter xi.m) (hY:∀Y:Cx,Wc Y P w K mg base (GX tg++K8 N fm) (GX tg) k (K6 scope sc)->CB Y tg elt ifs gt.m xt.m xe.m) (hyi:N[i]?=some y) (hyw:W[i]?=some y) (h1:scope.kind=.function) (h:TN N tg nv fm scope sc) (hs:∀x,foldedSetIterable iter X.env x=pure x)
include hsw hi hY c hyi hyw h1 h hs
def vz:B1 X (.Assign [.Name y p] (.ListComp elt [⟨tg,iter,ifs,0⟩] scope pos) spos) (bM i (eI nv fm xi.m gt.m xt.m xe.m)):=by
 obtain⟨z,nd,f,dbg,B,rfl⟩:=h;exact⟨qt c.g i hyi hyw (hsw X.env c.s) (j0 c.s h1 B z) nd f dbg hi.h (λY l E r u C F g=>let q:=hY Y ⟨g,⟨l.trans c.e.e1,E.trans c.e.e2,r.trans c.e.e3,u.trans c.e.e4,C.trans c.e.e5,c.e.b⟩,F.trans (ss c.s)⟩;⟨q.g.h,q.t.h,q.e.h⟩) hs⟩
def JQ{l:PU.DE nv fm ws=ws'}{f:xe.fz=true}{hi' hz'}:B1 X (.Assign [.Name y p] (.ListComp elt [⟨tg,iter,ifs,0⟩] scope pos) spos) (aQ i (aO nv fm xi gt xt xe l f) hi' hz').m:=vz c hsw hi hY hyi hyw h1 h hs
def Fx{l:PU.DE nv fm ws=ws'}{f:xe.fz=true}{hi' hz'}:B1 X (.Assign [.Name y p] (.ListComp elt [⟨tg,iter,ifs,0⟩] scope pos) spos) (dI i (aO nv fm xi gt xt xe l f) hi' hz').m:=vz c hsw hi hY hyi hyw h1 h hs
end
end
def R8:nw X [] (i_ (ws:=ws)).m:=⟨ip⟩
def jG(h:B1 X st da.m):nw X [st] da.m:=DA h
def cS(f:B1 X st da.m)(l:nw X rest db.m):nw X (st::rest) (aA da db).m:=Cs f l
def R9{f:List Nat}{hi hw}{db:Xd f}(h:nw X rest db.m):nw X rest (PJ (ws:=ws) i db hi hw).m:=h
def NP{f:List Nat}{hi hw}{db:Xd f}(h:nw X rest db.m):nw X rest (Fl (ws:=ws) i db hi hw).m:=Uk i h
def JR{hi hz}(u:lw X e xa.m)(f:lw X a (ab (ws:=ws) i).m)(r:lw X b xb.m)(l:swapsWith e (some (.Subscript a b p)) pos.line X.env=pure false):B1 X (.Assign [.Subscript a b p] e pos) (kO i xb xa hi hz).m:=⟨Fa f.h r.h u.h l⟩
def NQ(h:lw X e xa.m):B1 X (.Return (some e) pos) (aX xa).m:=Fo h
def JS{hi}(h:lw X e (ab (ws:=ws) i).m):B1 X (.Return (some e) pos) (k5 (ws:=ws) i hi).m:=Fo h
def R_(f:Dr X e ta.m)(l:nw X body da.m)(r:nw X rest db.m):B1 X (.If e body rest pos) (va ta da db).m:=⟨k4 f.h l.h r.h⟩
def NR:B1 X st (Fh (ws:=ws)).m:=⟨Jp⟩
def w_sub {hi hz} (F:lw X e xa.m) (u:lw X a (ab (ws:=ws) i).m) (C:lw X b xb.m) (B:∀v,assign (.Subscript a b p) X.env v=(do
   let f <-holding [v] (eval a X.env)
   let l <-holding [v,f] (eval b X.env)
   standAt p
   holding [v,f,l] (setItem f l v)
   release [v,f,l] []))
  (z:swapsWithSole [.Subscript a b p] e pos.line X.env=pure false) (E:swappedStores [.Subscript a b p] e X.env=pure none) (r:(assignEach [.Subscript a b p] X.env).map (·.2)=[assign (.Subscript a b p) X.env]):B1 X (.Assign [.Subscript a b p] e pos) (jJ i xa xb hi hz).m:=⟨uy F.h (sC u.h C.h B) z E r⟩
section
variable (c:Wc X P w K mg base N W k sc)
include c
def NS{l:Xi ws}{f:Xg ws}{hz}(u:GW X tg e l.m)(r:Nd X tg f.m)(B:nw X body da.m)(z:∀x,foldedSetIterable e X.env x=pure x):B1 X (.For tg e body [] pos) (dj l f da hz).m:=⟨t7 c.g u.h r.h B.h z⟩
def Sa{n hm}(f:Dr X e ta.m)(l:nw X body da.m):B1 X (.While e body [] pos) (MX n ta da hm).m:=⟨AV c.g f.h l.h⟩
def JT{hi' hz}(l:∀env:Env,env.scope=sc->swapsWith e (some (.Name x p)) pos.line env=pure false)(u:lw X e xa.m)(f:N[i]?=some x)(r:W[i]?=some x):B1 X (.Assign [.Name x p] e pos) (aQ i xa hi' hz).m:=⟨oD c.g i f r u.h (l _ c.s)⟩
def Fy{hi' hz}(l:∀env:Env,env.scope=sc->swapsWith e (some (.Name x p)) pos.line env=pure false)(u:lw X e xa.m)(f:N[i]?=some x)(r:W[i]?=some x):B1 X (.Assign [.Name x p] e pos) (dI i xa hi' hz).m:=⟨oD c.g i f r u.h (l _ c.s)⟩
def NT{x y:Str}{r py pt f:Pos}{kt k2}{hi' hj' hz}(F:∀env:Env,env.scope=sc->swappedStores [.Tuple [.Name x r,.Name y py] kt pt] (.Tuple [a,b] k2 f) env=pure (some [x,y]))(B:CL X [a,b] sa.m)(u:N[i]?=some x)(G:N[j]?=some y)(l:i≠j)(E:sc.names.lookup x=some .local)(C:sc.names.lookup y=some .local)
  (z:swapsWithSole [.Tuple [.Name x r,.Name y py] kt pt] (.Tuple [a,b] k2 f) pos.line X.env=pure false):B1 X (.Assign [.Tuple [.Name x r,.Name y py] kt pt] (.Tuple [a,b] k2 f) pos) (t5 i j sa hi' hj' hz).m:=⟨Iw c.g i j u G l B.h (by rw[c.s];exact E) (by rw[c.s];exact C) (F _ c.s) z⟩
end
def xo{F:Fn}{f:Nat}{ws:List Nat}{B:Xd ws}{hw}(N:List Str)(b:Ba P w K mg base)(D:c_ K x st)(H:∀X:Cx,Wc X P w K mg base N N k (aq st)->iy X->nw X (aI st) B.m)(E:F=bK N.length f B hw:=by rfl)
  (u:jS x st (N.take f):=by first | exact λ_ _ _ _ _ _=>RC λ_=>rfl | exact λ_ _ _ _ _ _=>TF λ_ _=>rfl | exact λ_ _ _ _ _ _=>TH λ_ _ _=>rfl | exact λ_ _ _ _ _ _=>TJ λ_ _ _ _=>rfl | exact λ_ _ _ _ _ _=>ar5 λ_ _ _ _ _=>rfl)
  (S:u_ N (N.take f) (aq st):=by exact⟨rfl,rfl,rfl,by decide +kernel,rfl,by decide +kernel,by decide +kernel⟩)
  (z:∀y∈N,(aq st).names.lookup y=some .local\/(aq st).names.lookup y=some .cell:=by decide +kernel) (l:∀y∈JA (aq st),(aq st).names.lookup y=some .globalImplicit:=by decide +kernel)
  (dbg:∀x∈N++JA (aq st),(x == ("__debug__":Str))=false/\(x == ("__classdict__":Str))=false/\x≠"__name__":=by decide +kernel) (C:(N.take f).length=f:=by rfl) :
  FnAt P w K mg base x (N.take f) F.m (k+1):=by
 have q:=yR b.kin b.ns D S u z l dbg λX e1 e2 e3 e4 e5 r g G=>(H X ⟨g,⟨e1,e2,e3,e4,e5,b⟩,r⟩ G).h;rw[C] at q;subst E;exact q
end
end MM
namespace SortT
open PyProof.Rows PySem.W
def iY(h:Heap)(a:Value->Int)(v:Value):Prop:=∃b o xs m t,v=.ref b/\h.get? b=some o/\o.cls=.type "tuple"/\o.data=.seq xs m/\xs[0]?=some (.int (a v) t)
def kB(n:Nat)(c:Nat->Nat->Bool):KasT (Array Nat)->Option (Array Nat)
 | .ret p=>some p
 | .ask i j k=>if i<n/\j<n then kB n c (k (c i j)) else none
def rQ(l:List Nat):Bool:=match kB l.length (λi j=>decide (l.getD i 0<l.getD j 0)) (kas_sort l.length) with
 | some p=>p.toList.isPerm (List.range l.length) && decide ((p.toList.map λi=>l.getD i 0).Pairwise (·<=·))
 | none=>false
def d8(a:List Int):Prop:=∃l:List Nat,rQ l=true/\l.length=a.length/\∀i j:Nat,i<a.length->j<a.length->(a.getD i 0<a.getD j 0↔l.getD i 0<l.getD j 0)
section
variable {prog:Program} {w:World} {A:Around} {E:Value->Shared->Prop} {s:Shared} {rk:Value->Int} {vs:List Value}
def vk{v:Value}{Q:Bool->Shared->Prop}(hv:(v == v)=true)(h:Q true s):wpAny (model prog w) A (eqBool v v) Q E s:=by
 unfold eqBool;refine wpAny_holding ?_;rw[d_ hv];exact b_ (wpAny_rule (i3 h))
def tR{b:Bool}{Q:Bool->Shared->Prop}(h:Q fin s):∀(xs:List Value) (i:Nat),(∀v∈xs,(v == v)=true)->KatLex prog w A b fin Q (xs.zip xs) i s
 | [],_,_=>kat_nil h
 | x::xs,i,hv=>by
  rw[KL];exact kat_cons (vk (hv x CY) (kat_yes (tR h xs (i+1) λv z=>hv v (m1 _ z))))
def rG(rk:Value->Int)(vs:List Value):Prop:=∀x∈vs,∀y∈vs,rk x=rk y->x=y
def JU{f l:Value}{Q:Bool->Shared->Prop}(L:∀v∈vs,iY s.heap rk v)(nd:rG rk vs)(J:f∈vs)(I:l∈vs)(F:Q (decide (rk f<rk l)) s):wpAny (model prog w) A (keyLt' (tuples' true) f l) Q (λ_ _=>False) s:=by
 obtain⟨T,Y,B,nx,M,ex,y,_,u,i⟩:=L f J;obtain⟨R,Z,H,U,ty,P,C,_,G,j⟩:=L l I;by_cases z:rk f=rk l
 .have e:=nd f J l I z;subst e;have O:decide (rk f<rk f)=decide (B.size<B.size):=by simp
  rw[O] at F;rw[ex];exact kat_lt y u y u (tR F _ _ λv _=>beq_self_eq_true v)
 .rw[ex,P];refine kat_lt y u C G ?_;obtain⟨X,e1⟩:∃r,B.toList=.int (rk f) M::r:=by
   cases e:B.toList with
   | nil=>rw[<-Ec,e] at i;cases i
   | cons a r=>rw[<-Ec,e] at i;cases i;exact⟨r,rfl⟩
  obtain⟨S,e2⟩:∃r,H.toList=.int (rk l) ty::r:=by
   cases e:H.toList with
   | nil=>rw[<-Ec,e] at j;cases j
   | cons a r=>rw[<-Ec,e] at j;cases j;exact⟨r,rfl⟩
  rw[e1,e2,KL];refine kat_cons (wpAny_eqBool_int ?_)
  have:(rk f == rk l)=false:=by simpa using z
  rw[this];exact kat_no (oneLt_int F)
def sZ{i:Nat}(h:i<vs.length):vs.getD i Value.none∈vs:=by
 rw[o_,p_ h];exact CF h
def zg{G:Array Nat->Shared->Prop}(f:∀v∈vs,iY s.heap rk v)(nd:rG rk vs){c:Nat->Nat->Bool}(l:∀i j,i<vs.length->j<vs.length->c i j=decide (rk (vs.getD i Value.none)<rk (vs.getD j Value.none))){p:Array Nat}(g:G p s) :
  ∀t:KasT (Array Nat),kB vs.length c t=some p->t.kasWp (kas_ask prog w A (tuples' true) vs) G s
 | .ret a,e=>by cases e;exact g
 | .ask i j k,e=>by
  unfold kB at e;by_cases z:i<vs.length/\j<vs.length
  .rw[d_ z] at e;show kas_ask prog w A (tuples' true) vs i j _ s;unfold kas_ask;refine JU f nd (sZ z.1) (sZ z.2) ?_;rw[<-l i j z.1 z.2];exact zg f nd l g _ e
  .rw[g_ z] at e;cases e
def iY.up{h a:Heap}{v:Value}(k:∀b o,h.get? b=some o->o.cls=.type "tuple"->a.get? b=some o)(r:iY h rk v):iY a rk v :=
 let ⟨b,o,xs,m,t,e,g,c,d⟩:=r;⟨b,o,xs,m,t,e,k b o g c,c,d⟩
def tZ{Q:SortKind->Shared->Prop}(B:∀v∈vs,iY s.heap rk v)(C:0<vs.length)(h:Q (tuples' true) s):wpAny (model prog w) A (keyKind' vs.toArray) Q E s:=by
 have key:∀j:List Value,(∀v∈j,iY s.heap rk v)->∃fs:List Value,fs.length=j.length/\KatTups s.heap j fs/\∀v∈fs,∃i t,v=.int i t:=by
  intro j
  induction j with
  | nil=>exact λ_=>⟨[],rfl,KatTups.nil,λv hv=>by cases hv⟩
  | cons u j z =>
   intro a;obtain⟨fs,y,r,l⟩:=z λv hv=>a v (m1 _ hv);obtain⟨b,o,xs,m,t,e,g,c,d,f⟩:=a u CY;rw[e] at f ⊢;refine⟨.int (rk (.ref b)) t::fs,by simp[y],KatTups.cons g c d f r,λv hv=>?_⟩;rcases ml.mp hv with rfl|hv
   .exact⟨_,_,rfl⟩
   .exact l v hv
 obtain⟨fs,y,r,l⟩:=key vs B;refine kat_kind (T:=.type "int") r (by lia) (λv hv=>?_) (by decide) h;obtain⟨i,t,rfl⟩:=l v hv;exact .now
def JV(ok:d8 (vs.map rk))(G:vs.length<64):∃p:Array Nat,kB vs.length (λi j=>decide (rk (vs.getD i Value.none)<rk (vs.getD j Value.none))) (kas_sort vs.length)=some p/\(p.toList.map λi=>vs.getD i Value.none).Perm vs/\((p.toList.map λi=>vs.getD i Value.none).map rk).Pairwise (·<=·):=by
 obtain⟨l,f,u,C⟩:=ok;rw[oI] at u C;have r:∀i,i<vs.length->(vs.map rk).getD i 0=rk (vs.getD i Value.none):=λi B=>by simp[o_,B]
 have run:∀t:KasT (Array Nat),kB vs.length (λi j=>decide (rk (vs.getD i Value.none)<rk (vs.getD j Value.none))) t=kB l.length (λi j=>decide (l.getD i 0<l.getD j 0)) t:=by
  intro t;rw[u]
  induction t with
  | ret a=>rfl
  | ask i j k H =>
   unfold kB;by_cases z:i<vs.length/\j<vs.length
   .rw[d_ z,d_ z];have e:=C i j z.1 z.2;rw[r i z.1,r j z.2] at e;rw[decide_eq_decide.mpr e,H]
   .rw[g_ z,g_ z]
 unfold rQ at f
 cases e:kB l.length (λi j=>decide (l.getD i 0<l.getD j 0)) (kas_sort l.length) with
 | none=>rw[e] at f;cases f
 | some p =>
  rw[e] at f;dsimp only at f;rw[Gk,decide_eq_true_eq] at f;have y:=List.isPerm_iff.mp f.1;rw[u] at y;have lt:∀i∈p.toList,i<vs.length:=λi B=>pa.mp (y.mem_iff.mp B);refine⟨p,by rw[run,<-u,e],?_,?_⟩
  .have a:=y.map λi=>vs.getD i Value.none;refine a.trans (List.Perm.of_eq ?_);apply Lm
   .simp
   .intro i I F;simp[o_,F]
  .have b:=f.2;rw[Dv] at b;rw[Dv,Dv];refine (List.Pairwise.and_mem.mp b).imp λ{a b} q=>?_
   have:=C b a (lt b q.2.1) (lt a q.1)
   rw[r b (lt b q.2.1),r a (lt a q.1)] at this;lia
def zy(J:s.heap.get? a=some (seqObj "list" vs.toArray n))(hk:∀v∈vs,iY s.heap rk v)(nd:rG rk vs)(ok:d8 (vs.map rk))(F:vs.length<64)
  (h:∀y:List Value,y.Perm vs->(y.map rk).Pairwise (·<=·)->P (.done (.ret .none)) { s with heap:=sortedHeap s.heap a vs y.toArray}) :
  wpAny (model prog w) A (Builtin.«list.sort» ⟨[.ref a],[]⟩) P E s:=by
 rw[list_sort_plain];have ha:a<s.heap.objs.size:=n9 J;have l:vs.length<=sizeLine:=by rw[sizeLine_eq];lia
 refine b_ (listItems_at J rfl ?_);refine b_ (listUpdate_at J rfl ?_ (by rw[u0];exact l) (Cz _));obtain⟨e1,z⟩:∃e1,(s.heap.update a (Obj.mapSeq λ_=>(#[]:Array Value))).get? a=some (seqObj "list" #[] e1):=⟨_,get?_update_seq J λ_=>#[]⟩;refine b_ (seqEpoch_at z rfl ?_);refine b_ (wpAny_newTuple ?_ (by show vs.length<=_;exact l));refine b_ (wpAny_newList ?_ (Cz _));refine wpAny_holding ?_;have r:(((s.heap.update a (Obj.mapSeq λ_=>(#[]:Array Value))).push (seqObj "tuple" vs.toArray 0)).push (seqObj "list" #[] 0)).get? a=some (seqObj "list" #[] e1) :=
  mz _ (mz _ z)
 show wpAny (model prog w) A _ P E { s with heap:=((s.heap.update a (Obj.mapSeq λ_=>(#[]:Array Value))).push (seqObj "tuple" vs.toArray 0)).push (seqObj "list" #[] 0)};have H:∀v∈vs,iY (((s.heap.update a (Obj.mapSeq λ_=>(#[]:Array Value))).push (seqObj "tuple" vs.toArray 0)).push (seqObj "list" #[] 0)) rk v:=λv hv=>(hk v hv).up λb o R U=>by
  have L:b≠a:=by
   rintro rfl;rw[J] at R;cases R;have O:Value.type "list"=Value.type "tuple":=U;exact absurd O (by decide)
  exact mz _ (mz _ ((Oz _ _ _ _ L).trans R))
 have B:vs.toArray.size=vs.length:=by simp
 dsimp only;by_cases I:vs.toArray.size<2
 .rw[d_ I,d_ I];refine b_ (i3 ?_);rw[StateT.run_pure];refine b_ (i3 ?_);dsimp only;refine b_ (seqEpoch_at r rfl ?_);have M:((vs.toArray.zip vs.toArray).map (·.2))=vs.toArray:=by
   apply Qg.mp;simp only[Array.toList_map,Array.toList_zip,List.toList_toArray];exact List.map_snd_zip (j_ _)
  refine b_ (listUpdate_at r rfl ?_ (Cz _) (by show ((vs.toArray.zip vs.toArray).map (·.2)).size<=_;rw[M,B];lia));simp only[bne_self_eq_false,su,if_false];refine i3 ?_
  have:=h vs (List.Perm.refl _) (by
   match vs,B▸I with
   | [],_=>simp
   | [x],_=>simp)
  have e:(arrOf (SortSt.mk' general' (vs.toArray.zip vs.toArray) #[] 7 none)).map (·.2)=vs.toArray:=M;rw[e];exact this
 .rw[g_ I,g_ I];refine b_ (tZ (s:={ s with heap:=_}) H (by lia) ?_);obtain⟨p,Z,S,pw⟩:=JV ok F
  refine b_ (wpAny_mono (kat_run (Q:=λf C=>(arrOf f).map (·.2)=(p.toList.map λi=>vs.getD i Value.none).toArray/\failedOf f=none/\C={ s with heap:=((s.heap.update a (Obj.mapSeq λ_=>(#[]:Array Value))).push (seqObj "tuple" vs.toArray 0)).push (seqObj "list" #[] 0)})
   (G:=λT C=>T=p/\C={ s with heap:=((s.heap.update a (Obj.mapSeq λ_=>(#[]:Array Value))).push (seqObj "tuple" vs.toArray 0)).push (seqObj "list" #[] 0)}) rfl (by lia) F (λT f C _ a2 a3 ⟨X,Y⟩=>by subst X;exact⟨kat_snds rfl a2,a3,Y⟩)
   (zg (s:={ s with heap:=((s.heap.update a (Obj.mapSeq λ_=>(#[]:Array Value))).push (seqObj "tuple" vs.toArray 0)).push (seqObj "list" #[] 0)}) H nd (λi j _ _=>rfl) ⟨rfl,rfl⟩ _ Z)) ?_ λ_ _ e=>e)
  rintro⟨⟨⟩,f⟩ C ⟨u,hf,rfl⟩;dsimp only;refine b_ (seqEpoch_at r rfl ?_);have M:((arrOf f).map (·.2)).size=vs.length:=by rw[u,u0,S.length_eq]
  refine b_ (listUpdate_at r rfl ?_ (Cz _) (by show ((arrOf f).map (·.2)).size<=_;rw[M];lia));rw[hf];simp only[bne_self_eq_false,su,if_false];refine i3 ?_;rw[u];exact h _ S pw
def xU{T:String}{p:Addr}{o:Obj}{m:Nat}{Q:List Value->Shared->Prop}(l:T="list"\/T="tuple")(i:s.heap.get? p=some o)(j:o.cls=.type T)(hd:o.data=.seq vs.toArray m)(u:vs.length<=sizeLine)
  (h:Q vs { s with heap:=(s.heap.push (seqObj "list" #[] 0)).update s.heap.objs.size (Obj.mapSeq (·++vs.toArray))}):wpAny (model prog w) A (collect (.ref p)) Q E s:=by
 have a:(s.heap.push (seqObj "list" #[] 0)).get? p=some o:=mz _ i;have f:(s.heap.push (seqObj "list" #[] 0)).get? s.heap.objs.size=some (seqObj "list" #[] 0):=wy _ rfl;have r:(Value.type T == Value.type "list" || Value.type T == Value.type "tuple")=true:=by rcases l with rfl|rfl <;> rfl
 unfold collect;refine b_ (wpAny_runValue (codeAny_builtin entry_proto_collect' (b_ (wpAny_newList (i3 ⟨Code.quiet_builtin _ (by decide +kernel),codeAny_builtin entry_list_iadd' ?_⟩)))));show wpAny _ _ (Builtin.List.listExtendWith (.ref s.heap.objs.size) (.ref p) _) _ _ { s with heap:=s.heap.push (seqObj "list" #[] 0)};unfold Builtin.List.listExtendWith;refine b_ (wpAny_typeOf (T:=T) ⟨o,a,j⟩ ?_);rw[d_ (by rw[Bool.or_assoc,r,Bool.or_true])];refine b_ (listItems_at a hd (b_ (listItems_at f rfl ?_)));rw[g_ (by simp)];refine b_ (listUpdate_at f rfl (i3 ?_) (Cz _) (by show (#[]++vs.toArray).size<=_;simp;lia));show wpAny _ A (load s.heap.objs.size >>= _) _ _ _;refine b_ (wpAny_load (get?_update_seq f _) ?_);have e:((#[]:Array Value)++vs.toArray).toList=vs:=by simp
 show wpAny _ _ (pure _) _ _ _;rw[e];exact i3 h
def vi{T:String}{p:Addr}{o:Obj}{m:Nat}{Q:Value->Shared->Prop}(G:T="list"\/T="tuple")(H:s.heap.get? p=some o)(F:o.cls=.type T)(hd:o.data=.seq vs.toArray m)(L:∀v∈vs,iY s.heap rk v)(nd:rG rk vs)(ok:d8 (vs.map rk))(y:vs.length<64)
  (h:∀(B:Heap) (l:Addr) (f:List Value),(∀b C,s.heap.get? b=some C->B.get? b=some C)->s.heap.objs.size<=l->(∃c,B.get? l=some (seqObj "list" f.toArray c))->f.Perm vs->(f.map rk).Pairwise (·<=·)->Q (.ref l) { s with heap:=B}) :
  wpAny (model prog w) A (call (.builtin "sorted") [.ref p]) Q E s:=by
 have a:vs.length<=sizeLine:=by rw[sizeLine_eq];lia
 refine Calls.call_function_entry kind_sorted plain_sorted entry_sorted (args_sorted1 _) ?_;unfold Builtin.«sorted»;refine b_ (m:=checkCount "sorted" 1 1 _) (i3 (b_ (xU G H F hd a (b_ (wpAny_newList ?_ a)))));generalize e1:(s.heap.push (seqObj "list" #[] 0)).update s.heap.objs.size (Obj.mapSeq (·++vs.toArray))=i;have r:∀b o,s.heap.get? b=some o->i.get? b=some o:=λb o z=>by
  rw[<-e1,Oz _ _ _ _ (s_ (n9 z))];exact mz _ z
 have u:s.heap.objs.size<=i.objs.size:=by rw[<-e1,Heap.size_update,size_push'];exact Gn _
 have j:(i.push (seqObj "list" vs.toArray 0)).get? i.objs.size=some (seqObj "list" vs.toArray 0):=wy _ rfl;have up:∀b o,i.get? b=some o->(i.push (seqObj "list" vs.toArray 0)).get? b=some o:=λb o e=>mz _ e
 refine b_ (wpAny_holding (wpAny_call_entry slot_list_sort ⟨_,j,rfl⟩ entry_list_sort
  (zy (s:={ s with heap:=i.push (seqObj "list" vs.toArray 0)}) j (λv hv=>(L v hv).up λb o J _=>up b o (r b o J)) nd ok y λf M I=>⟨_,rfl,?_⟩) (args_list_sort _)))
 refine i3 ⟨_,rfl,h _ i.objs.size f (λb o e=>?_) u (jf j _) M I⟩;exact iM (s_ (n9 (r b o e))) (up b o (r b o e)) _
end
end SortT
namespace SortT
def kQ(m p:Nat):List Nat:=(List.range m).map (λi=>if i<p then i else i+1)++[p]
def vU:∀m,m<13->rQ (List.range m)=true/\∀p,p<m+1->rQ (kQ m p)=true:=by decide +kernel
def Af{b:Int}:∀{f:List Int},f.Pairwise (·<·)->b∉f->∃p,p<=f.length/\∀i,i<f.length->((f.getD i 0<b↔i<p)/\(b<f.getD i 0↔p<=i))
 | [],_,_=>⟨0,j_ _,λi h=>by simp at h⟩
 | a::f,h,y=>by
  obtain⟨l,u⟩:=DG.mp h;obtain⟨C,B⟩:=List.ne_and_not_mem_of_not_mem_cons y;obtain⟨p,r,q⟩:=Af u B;by_cases z:a<b
  .refine⟨p+1,by simpa using r,λi j=>?_⟩
   cases i with
   | zero=>simp only[List.getD_cons_zero];lia
   | succ i =>
    have:=q i (by simpa using j)
    rw[List.getD_cons_succ];lia
  .refine⟨0,Cz _,λi j=>?_⟩
   cases i with
   | zero=>simp only[List.getD_cons_zero];lia
   | succ i =>
    have j:i<f.length:=by simpa using j
    have:=l (f.getD i 0) (by rw[o_,p_ j];exact CF j)
    rw[List.getD_cons_succ];lia
def vQ{a:List Int}(h:a.Pairwise (·<·)){i j:Nat}(f:i<a.length)(l:j<a.length):a.getD i 0<a.getD j 0↔i<j:=by
 rw[o_,p_ f,o_,p_ l,Es,Es];have k:=P1.mp h;rcases Nat.lt_trichotomy i j with z|z | z
 .have:=k i j f l z;lia
 .subst z;lia
 .have:=k j i l f z;lia
def Fz{a:List Int}(h:a.Pairwise (·<·))(r:a.length<13):d8 a :=
 ⟨List.range a.length,(vU _ r).1,by simp,λi j f l=>by
  rw[vQ h f l,o_,o_,KJ f,KJ l];rfl⟩
def JW{a:List Int}{b:Int}(h:a.Pairwise (·<·))(y:b∉a)(B:a.length<13):d8 (a++[b]):=by
 obtain⟨p,C,q⟩:=Af h y;refine⟨kQ a.length p,(vU _ B).2 p (by lia),by simp[kQ],λi j r z=>?_⟩;have e:∀i,i<a.length->(a++[b]).getD i 0=a.getD i 0/\(kQ a.length p).getD i 0=if i<p then i else i+1:=λi r=>by
  constructor
  .rw[o_,xu r,<-o_]
  .unfold kQ;rw[o_,xu (by simpa using r),tt,KJ r];rfl
 have u:(a++[b]).getD a.length 0=b/\(kQ a.length p).getD a.length 0=p:=by
  constructor
  .simp[o_]
  .simp[kQ,o_]
 rw[Dj,P5] at r z;by_cases l:i<a.length
 .by_cases f:j<a.length
  .rw[(e i l).1,(e i l).2,(e j f).1,(e j f).2,vQ h l f]
   split <;> split <;> lia
  .have:j=a.length:=by lia
   subst this;rw[(e i l).1,(e i l).2,u.1,u.2]
   have:=q i l
   split <;> lia
 .have:i=a.length:=by lia
  subst this;by_cases f:j<a.length
  .rw[(e j f).1,(e j f).2,u.1,u.2]
   have:=q j f
   split <;> lia
  .have:j=a.length:=by lia
   subst this;lia
end SortT
namespace MM
open PySem.Spec PyProof.Rows L2
section
variable {α β:Type}
def cj(f:α->Int)(x:α):List α->List α
 | []=>[x]
 | y::r=>if f x<=f y then x::y::r else y::cj f x r
def aP(f:α->Int)(l:List α):List α:=l.foldr (cj f) []
def kI(f:α->Int)(x:α):∀l,(cj f x l).Perm (x::l)
 | []=>.refl _
 | y::r=>by
  unfold cj;split
  .exact .refl _
  .exact ((kI f x r).cons y).trans (.swap x y r)
def c9(f:α->Int):∀l,(aP f l).Perm l
 | []=>.refl _
 | x::l=>(kI f x (aP f l)).trans ((c9 f l).cons x)
def qC(f:α->Int)(x:α):∀l:List α,l.Pairwise (λa b=>f a<=f b)->(cj f x l).Pairwise (λa b=>f a<=f b)
 | [],_=>by simp[cj]
 | y::r,h=>by
  have j:=DG.mp h;unfold cj;split
  .rename_i z
   refine DG.mpr ⟨λa i=>?_,h⟩;rcases ml.mp i with q|q
   .rw[q];exact z
   .exact Int.le_trans z (j.1 a q)
  .rename_i z
   refine DG.mpr ⟨λa i=>?_,qC f x r j.2⟩;rcases ml.mp ((kI f x r).mem_iff.mp i) with rfl|i
   .lia
   .exact j.1 a i
def qO(f:α->Int):∀l:List α,(aP f l).Pairwise (λa b=>f a<=f b)
 | []=>.nil
 | x::l=>qC f x _ (qO f l)
def qU(g:β->α)(f:α->Int)(x:β):∀l:List β,cj f (g x) (l.map g)=(cj (λb=>f (g b)) x l).map g
 | []=>rfl
 | y::r=>by
  rw[m3];unfold cj;split
  .rfl
  .rw[qU g f x r];rfl
def jb(g:β->α)(f:α->Int):∀l:List β,aP f (l.map g)=(aP (λb=>f (g b)) l).map g
 | []=>rfl
 | x::l=>by
  show cj f (g x) (aP f (l.map g))=(cj _ x (aP _ l)).map g;rw[jb g f l,qU]
def nc{f g:α->Int}{x:α}:∀{l:List α},f x=g x->(∀a∈l,f a=g a)->cj f x l=cj g x l
 | [],_,_=>rfl
 | y::r,i,h=>by
  unfold cj;rw[i,h y CY,nc i λa j=>h a (m1 _ j)]
def m9{f g:α->Int}:∀{l:List α},(∀a∈l,f a=g a)->aP f l=aP g l
 | [],_=>rfl
 | x::l,h=>by
  have e:=m9 (f:=f) (g:=g) (l:=l) λa i=>h a (m1 _ i);show cj f x (aP f l)=cj g x (aP g l);rw[e];exact nc (h x CY) λa i=>h a (m1 _ ((c9 g l).mem_iff.mp i))
def lH{f:α->Int}:∀{l:List α} {x y:α},(l.map f).Nodup->x∈l->y∈l->f x=f y->x=y
 | [],_,_,_,h,_,_=>by cases h
 | a::l,x,y,nd,r,j,e=>by
  rw[m3,CU] at nd;rcases ml.mp r with q1|q1
  .rcases ml.mp j with i|i
   .exact q1.trans i.symm
   .exact absurd (mu.mpr ⟨y,i,e.symm.trans (congrArg f q1)⟩) nd.1
  .rcases ml.mp j with i|i
   .exact absurd (mu.mpr ⟨x,q1,e.trans (congrArg f i)⟩) nd.1
   .exact lH nd.2 q1 i e
def xF{f:α->Int}{l m:List α}(p:m.Perm l)(nd:(l.map f).Nodup)(h:m.Pairwise λa b=>f a<=f b):m=aP f l :=
 List.Perm.eq_of_pairwise (λa b i j x y=>lH nd (p.mem_iff.mp i) ((c9 f l).mem_iff.mp j) (by lia)) h (qO f l) (p.trans (c9 f l).symm)
end
def uA:PV->Option Int
 | .tup (.int k::_)=>some k
 | _=>none
def vu(x:PV):Int:=(uA x).getD 0
def GY(h:Heap)(v:Value):Int:=match v with
 | .ref b=>(match h.get? b with
  | some o=>(match o.data with
   | .seq xs _=>(match (xs[0]?:Option Value) with
    | some (.int k _)=>k
    | _=>0)
   | _=>0)
  | none=>0)
 | _=>0
def zb(xs:List PV)(h:MH):Out PV:=match xs with
 | [x]=>(match dg h x with
  | some ys=>if (∀y∈ys,(uA y).isSome=true)/\(ys.map vu).Nodup/\SortT.d8 (ys.map vu)/\ys.length<64 then .ok (.loc h.length) (h++[.lst (aP vu ys)]) else .bad
  | none=>.bad)
 | _=>.bad
inductive T3 (K:hR) (U:List Addr) (H:Hp):List PV->List V->List Value->List (PV × V × Value)->Prop
 | nil:T3 K U H [] [] [] []
 | cons {x:PV} {y:V} {u:Value} {xs:List PV} {ys:List V} {us:List Value} {ts:List (PV × V × Value)} (r:RP K U H x y) (v:aS y u) (t:T3 K U H xs ys us ts):T3 K U H (x::xs) (y::ys) (u::us) ((x,y,u)::ts)
section
variable {K:hR} {U:List Addr} {H:Hp}
def T3.ex:∀{xs:List PV} {ys:List V} {f:List Value},RPs K U H xs ys->aJ ys f->∃a,T3 K U H xs ys f a
 | _,_,_,.nil,.nil=>⟨[],.nil⟩
 | _,_,_,.cons r j,.cons v i=>let ⟨a,t⟩:=T3.ex j i;⟨_,.cons r v t⟩
def T3.maps:∀{xs:List PV} {ys:List V} {i:List Value} {a:List (PV × V × Value)},T3 K U H xs ys i a->xs=a.map (·.1)/\i=a.map (·.2.2)/\∀t∈a,RP K U H t.1 t.2.1/\aS t.2.1 t.2.2
 | _,_,_,_,.nil=>⟨rfl,rfl,λt h=>by cases h⟩
 | _,_,_,_,.cons r v t=>by
  obtain⟨e1,e2,h⟩:=t.maps;refine⟨by rw[e1];rfl,by rw[e2];rfl,λq f=>?_⟩;rcases ml.mp f with rfl|f
  .exact⟨r,v⟩
  .exact h q f
def zG:∀{ts:List (PV × V × Value)},(∀t∈ts,RP K U H t.1 t.2.1/\aS t.2.1 t.2.2)->RPs K U H (ts.map (·.1)) (ts.map (·.2.1))/\aJ (ts.map (·.2.1)) (ts.map (·.2.2))
 | [],_=>⟨.nil,.nil⟩
 | t::ts,h=>by
  obtain⟨a,b⟩:=zG (ts:=ts) λq f=>h q (m1 _ f);obtain⟨c,d⟩:=h t CY;exact⟨.cons c a,.cons d b⟩
end
section
variable {X:Cx}
def Bq:dw X (.builtin "sorted") zb:=by
 intro Mq s Z H xs us Q I r ⟨U,h,ps,rh,rp,q⟩
 cases rp with
 | nil=>exact q.elim
 | @cons x y _ _ r1 t1 =>
  cases t1 with
  | cons _ _=>exact q.elim
  | nil =>
   unfold zb at q
   cases es:dg h x with
   | none=>simp only[es] at q;exact q.elim
   | some ys =>
    simp only[es] at q;by_cases z:(∀y∈ys,(uA y).isSome=true)/\(ys.map vu).Nodup/\SortT.d8 (ys.map vu)/\ys.length<64
    .rw[d_ z] at q;obtain⟨a,zs,rfl,M,O⟩:=mE rh r1 es;obtain⟨u,rfl,rx⟩:=gE r;cases rx;obtain⟨T,o,m,f,hT,J,E,hd,G⟩:∃(T:String) (o:Obj) (m:Nat) (f:List Value),(T="list"\/T="tuple")/\s.heap.get? a=some o/\o.cls=.type T/\o.data=.seq f.toArray m/\aJ zs f:=by
      rcases M with P|P
      .obtain⟨f,G,pl,_⟩:=I.list P;obtain⟨o,J,E,n,hd⟩:=pl.isList;exact⟨"list",o,n,f,.inl rfl,J,E,hd,G⟩
      .obtain⟨f,G,⟨o,J,E,n,hd⟩,_⟩:=I.tuple P;exact⟨"tuple",o,n,f,.inr rfl,J,E,hd,G⟩
     obtain⟨B,t3⟩:=T3.ex O G;obtain⟨e1,e2,hm⟩:=t3.maps;have key:∀t∈B,SortT.iY s.heap (GY s.heap) t.2.2/\vu t.1=GY s.heap t.2.2:=λt j=>by
      obtain⟨rp,rl⟩:=hm t j;have L:=z.1 t.1 (by rw[e1];exact mu.mpr ⟨t,j,rfl⟩);obtain⟨t1,t2,t3⟩:=t;dsimp only at rp rl L ⊢
      cases rp with
      | @tup ps a2 vs sq Y =>
       cases rl
       cases Y with
       | nil=>cases L
       | @cons p0 v0 _ _ r0 rr =>
        cases r0 with
        | int i =>
         obtain⟨an,R,⟨o2,g2,c2,n2,d2⟩,_⟩:=I.tuple sq
         cases R with
         | cons w0 wr =>
          obtain⟨tk,rfl⟩:=w0;have e:GY s.heap (.ref a2)=i:=by simp[GY,g2,d2]
          exact⟨⟨a2,o2,_,n2,tk,rfl,g2,c2,d2,by rw[e];rfl⟩,by rw[e];rfl⟩
        | _=>cases L
      | _=>cases L
     have S:ys.map vu=f.map (GY s.heap):=by
      rw[e1,e2,oF,oF];exact B_ λt j=>(key t j).2
     have hl:f.length=ys.length:=by rw[e1,e2];simp
     refine SortT.vi (vs:=f) (rk:=GY s.heap) hT J E hd (λv hv=>?_) (λx hx y hy e=>lH (S▸z.2.1) hx hy e) (S▸z.2.2.1) (by rw[hl];exact z.2.2.2) λh' l C kp F ⟨c,ai⟩ pv ri=>?_
     .rw[e2] at hv;obtain⟨t,j,rfl⟩:=mu.mp hv;exact (key t j).1
     .have eo:C=aP (GY s.heap) f:=xF pv (S▸z.2.1) (Dv.mp ri);have et:aP (λt:PV × V × Value=>vu t.1) B=aP (λt=>GY s.heap t.2.2) B:=m9 λt j=>(key t j).2;obtain⟨ra,rb⟩:=zG (K:=X.K) (U:=U) (H:=H) (ts:=aP (λt:PV × V × Value=>vu t.1) B) λt j=>hm t ((c9 _ _).mem_iff.mp j);have s1:aP vu ys=(aP (λt:PV × V × Value=>vu t.1) B).map (·.1):=by rw[e1,jb]
      have s2:C=(aP (λt:PV × V × Value=>vu t.1) B).map (·.2.2):=by rw[eo,et,e2,jb]
      rw[<-s1] at ra;rw[<-s2] at rb;have lz:((aP (λt:PV × V × Value=>vu t.1) B).map (·.2.1)).length<=sizeLine:=by
       rw[<-ra.length,(c9 vu ys).length_eq,sizeLine_eq];have:=z.2.2.2;lia
      refine⟨.ref l,_,I.laid (o:=.lst ((aP (λt:PV × V × Value=>vu t.1) B).map (·.2.1))) (t':=s.toks) kp F (show ObjOk X.prog X.w _ _ _ (.lst _) from⟨lz,C,c,rb,ai⟩),rfl,?_⟩;obtain⟨al,l3⟩:=rh.new (I.hok.fresh F) (o:=.lst (aP vu ys)) (ho:=.lst ((aP (λt:PV × V × Value=>vu t.1) B).map (·.2.1))) ⟨_,rfl,ra⟩;exact q _ _ _ l3 al (.loc (by rw[<-rh.len];simp))
    .rw[g_ z] at q;exact q.elim
end
end MM
namespace PU
open MM
def jx:D->Option Int
 | .tup (.int k::_)=>some k
 | _=>none
def CP(d:D):Int:=(jx d).getD 0
section
variable {q:Nat} {h:MH} {O:List Nat}
def wm{d:D}{v:PV}(r:Rp q h O d v)(e:(jx d).isSome=true):uA v=jx d:=by
 cases d with
 | tup f =>
  cases f with
  | nil=>cases e
  | cons i f =>
   cases i with
   | int k =>
    obtain⟨xs,rfl,x,t,rfl,a,b⟩:=r;rw[show x=.int k from a];rfl
   | _=>cases e
 | _=>cases e
def tU{d:D}{v:PV}(r:Rp q h O d v)(e:vu v=CP d):∀{j:List D} {f:List PV},Rps q h O j f->(∀(i:Nat) a b,j[i]?=some a->f[i]?=some b->vu b=CP a)->Rps q h O (cj CP d j) (cj vu v f)
 | [],f,l,_=>by
  rw[show f=[] from l];exact⟨v,[],rfl,r,rfl⟩
 | d'::j,f,l,u=>by
  obtain⟨x,t,rfl,a,b⟩:=l;unfold cj;rw[e,u 0 d' x rfl rfl];split
  .exact⟨v,x::t,rfl,r,x,t,rfl,a,b⟩
  .exact⟨x,_,rfl,a,tU r e b λi a b y z=>u (i+1) a b (by simpa using y) (by simpa using z)⟩
def yV{f:List D}{i:List PV}(r:Rps q h O f i)(j:∀d∈f,(jx d).isSome=true):(∀v∈i,(uA v).isSome=true)/\i.map vu=f.map CP:=by
 induction f generalizing i with
 | nil=>rw[show i=[] from r];exact⟨(λv h=>by cases h),rfl⟩
 | cons d f y =>
  obtain⟨x,t,rfl,a,b⟩:=r;obtain⟨u,l⟩:=y b λd hd=>j d (m1 _ hd);have e:=wm a (j d CY);refine⟨λv hv=>?_,?_⟩
  .rcases ml.mp hv with rfl|hv
   .rw[e];exact j d CY
   .exact u v hv
  .rw[m3,m3,l];simp[vu,CP,e]
def BY{f:List D}{l:List PV}(r:Rps q h O f l)(y:∀d∈f,(jx d).isSome=true):Rps q h O (aP CP f) (aP vu l):=by
 induction f generalizing l with
 | nil=>rw[show l=[] from r];exact rfl
 | cons d f F =>
  obtain⟨x,t,rfl,a,b⟩:=r;have j:∀d∈f,(jx d).isSome=true:=λd hd=>y d (m1 _ hd);have u:=F b j;show Rps q h O (cj CP d (aP CP f)) (cj vu x (aP vu t));have e2:=(yV u λz B=>j z ((c9 CP f).mem_iff.mp B)).2;refine tU a (by simp[vu,CP,wm a (y d CY)]) u λi a b C E=>?_
  have:=congrArg (·[i]?) e2
  simpa [C,E] using this
end
def lN:Dx where
 k:=λxs h=>(zb xs h).ne
 p:=λi=>match i with
  | [d]=>d.items.bind λa=>if (∀d∈a,(jx d).isSome=true)/\(a.map CP).Nodup/\SortT.d8 (a.map CP)/\a.length<64 then some (.lst (aP CP a)) else none
  | _=>none
 fr:=true
 ok {q h L O i xs d} bd w e:=by
  match i,e with
  | [H],e =>
   obtain⟨x,rfl,E⟩:=fc w;dsimp only at e;rw[Ou] at e;obtain⟨a,e1,e2⟩:=e;by_cases z:(∀d∈a,(jx d).isSome=true)/\(a.map CP).Nodup/\SortT.d8 (a.map CP)/\a.length<64
   .rw[d_ z] at e2;cases e2;obtain⟨ys,C,r⟩:=E.seqOf e1;obtain⟨y,l⟩:=yV r z.1
    have:zb [x] h=.ok (.loc h.length) (h++[.lst (aP vu ys)]):=by
     simp only[zb,C];rw[d_ ⟨y,l▸z.2.1,l▸z.2.2.1,by rw[r.length];exact z.2.2.2⟩]
    show Gv q h O true (zb [x] h).ne _;rw[this];have u:=BY r z.1;have g:(h++[MO.lst (aP vu ys)])[h.length]?=some (.lst (aP vu ys)):=by simp
    have B:Rps q (h++[MO.lst (aP vu ys)]) O (aP CP a) (aP vu ys):=u.mv ⟨λn f _=>xu f,λo j=>.inl j⟩;have G:Rps q (h++[MO.lst (aP vu ys)]) (h.length::O) (aP CP a) (aP vu ys):=u.mv ⟨λn f _=>xu f,λo j=>(ml.mp j).elim (λz=>.inr (Nat.le_of_eq z.symm)) .inl⟩;exact⟨_,_,rfl,⟨_,_,rfl,λz=>by have:=bd _ z;lia,g,B⟩,λ_ k F e=>by obtain⟨rfl,rfl⟩:=fA e;exact⟨_,_,rfl,j_ _,g,G⟩⟩
   .rw[g_ z] at e2;cases e2
end PU
namespace MM
open L2
def FA{X:L2.Cx}:BB X "sorted" PU.lN:=.fn _ _ As Bq
end MM
namespace TupM
open PySem.Builtin
def iH:fillsNumberSlot (.type "tuple") "mul"=pure false:=fillsNumberSlot_seq (id:="tuple.__mul__") (r:=some (.builtin "tuple.__rmul__")) F.slot_tuple_mul.lookup (by decide +kernel) F.slot_tuple_rmul.lookup (by decide +kernel)
def lE:seqRepeat? (.type "tuple")=pure (some (.builtin "tuple.__mul__")):=by
 unfold seqRepeat?;rw[seqSlot_of (name:="__mul__") F.slot_tuple_mul.lookup (by decide +kernel),seqSlot_of (name:="__rmul__") F.slot_tuple_rmul.lookup (by decide +kernel)];rfl
def oS{a:Int}{t:Tok}{l:Addr}{items:Array Value}{n:Nat}{f:Array (Option Value)}:Meets (Builtin.«int.__rmul__» ⟨[.int a t,.ref l],[]⟩) (λ_ R s=>s.heap.get? l=some { cls:=.type "tuple",dict:=none,data:=.seq items n,slots:=f}/\R (.ok (.ret Value.notImplemented)) s) :=
 .of_wp λprog w A R s h=>by
  obtain⟨j,g,d,r,os⟩:=s;obtain⟨i,h⟩:=h
  wp_walk
  exact⟨_,rfl,h⟩
def gq{l:Addr}{a:List Value}{n:Nat}{t:Tok}{r:Array (Option Value)}(f:a≠[]) :
  Meets (Builtin.«tuple.__mul__» ⟨[.ref l,.int 1 t],[]⟩) (λ_ R s=>s.heap.get? l=some { cls:=.type "tuple",dict:=none,data:=.seq a.toArray n,slots:=r}/\R (.ok (.ret (.ref l))) s) :=
 .of_wp λprog w A R s h=>by
  obtain⟨y,g,d,z,os⟩:=s;obtain⟨j,h⟩:=h;have u:=AutoSeq1.idx_int;have B:=AutoSeq1.sub_tuple_tuple;have i:a.isEmpty=false:=by cases a <;> simp at f ⊢
  wp_walk using AutoSeq1.wpAny_loadPart' j
  exact⟨_,rfl,h⟩
def xT{l:Addr}{a:List Value}{n:Nat}{t:Tok}{r:Array (Option Value)}(f:a≠[]) :
  Meets (Builtin.«tuple.__mul__» ⟨[.ref l,.int 0 t],[]⟩) (λ_ R s=>s.heap.get? l=some { cls:=.type "tuple",dict:=none,data:=.seq a.toArray n,slots:=r}/\R (.ok (.ret (.ref s.heap.objs.size))) { s with heap:=s.heap.push { cls:=.type "tuple",data:=.seq #[]}}) :=
 .of_wp λprog w A R s h=>by
  obtain⟨y,g,d,z,os⟩:=s;obtain⟨j,h⟩:=h;have u:=AutoSeq1.idx_int;have B:=AutoSeq1.sub_tuple_tuple;have i:a.isEmpty=false:=by cases a <;> simp at f ⊢
  wp_walk using AutoSeq1.wpAny_loadPart' j
  exact⟨_,rfl,h⟩
section
open PyProof.Rows
variable {prog:Program} {w:World} {A:Around} {E:Value->Shared->Prop} {s:Shared}
def B7{t b:Addr}{u:List Value}{Q:Value->Shared->Prop}(C:IsTup s.heap t ([]:List Value).toArray)(I:IsTup s.heap b u.toArray)(h:Q (.ref b) s):wpAny (model prog w) A (binaryOp .Add (.ref t) (.ref b)) Q E s:=by
 obtain⟨⟨cls,H,z,F⟩,B,r,n,hd⟩:=id C;obtain⟨⟨y,j,data2,l⟩,f,a,G,i⟩:=id I;simp only at r hd a i;subst r hd a i;exact concat_meets ⟨_,B,rfl⟩ ⟨_,f,rfl⟩ noFill_tuple_add seq_tuple_add PySem.F.slot_tuple_add PySem.F.entry_tuple_add (PySem.F.args_tuple_add_2 _ _)
   (tuple_addW0 t b ([]:List Value).toArray u.toArray n G H j F l (by simp)) ⟨B,f,h⟩
end
end TupM
namespace L2
open PySem.Spec PyProof.Rows TupM
section
variable {X:Cx}
def NU:R2:=λx y H Q=>∃l k xs,x=.ref l/\y=.int k/\SqT X.K H l xs/\xs≠[]/\((k=1/\Q (.ref l) H)\/(k=0/\∀p,H p=none->Q (.ref p) (m_ H p (.tup []))))
def wO:OpR X (binaryOp .Mult) (NU (X:=X)):=by
 intro R s Z H x y v u Q I G C h;obtain⟨l,k,xs,rfl,rfl,E,j,q⟩:=h;cases G;obtain⟨t,rfl⟩:=C;obtain⟨z,r,⟨o,e,B,⟨n,hd⟩,f⟩,_⟩:=I.tupleN E;obtain⟨S,O,M,L⟩:=o;simp only at B hd f;subst B hd f;have J:=r.length;have a:z≠[]:=by rintro rfl;exact j (En.mp (by simpa using J))
 have ty:s.TypeIs (.ref l) "tuple":=⟨_,e,rfl⟩;rcases q with ⟨rfl,q⟩|⟨rfl,q⟩
 .refine wpAny_binaryOp_repeat_ref (T:="tuple") (U:="int") (by decide) ty (λi=>typeIs_int i 1 t) iH F.fills_int_mul F.slot_int_rmul lE F.slot_int_index.lookup
   (call_meets F.slot_int_rmul (typeIs_int s 1 t) F.entry_int_rmul (F.args_int_rmul_2 _ _) oS
    ⟨e,rfl,ty,call_meets F.slot_tuple_mul ty F.entry_tuple_mul (F.args_tuple_mul_2 _ _) (gq a) ⟨e,?_⟩⟩)
  exact⟨.ref l,H,I,rfl,q⟩
 .refine wpAny_binaryOp_repeat_ref (T:="tuple") (U:="int") (by decide) ty (λi=>typeIs_int i 0 t) iH F.fills_int_mul F.slot_int_rmul lE F.slot_int_index.lookup
   (call_meets F.slot_int_rmul (typeIs_int s 0 t) F.entry_int_rmul (F.args_int_rmul_2 _ _) oS
    ⟨e,rfl,ty,call_meets F.slot_tuple_mul ty F.entry_tuple_mul (F.args_tuple_mul_2 _ _) (xT a) ⟨e,?_⟩⟩)
  exact⟨.ref s.heap.objs.size,_,I.laid (o:=.tup []) (t':=s.toks) (λb P q=>mz _ q) (j_ _) (show ObjOk X.prog X.w _ _ _ (.tup _) from⟨by decide,[],.nil,gX.new _ _⟩),rfl,q _ (I.hok.fresh (j_ _))⟩
def NV(K:hR):R2:=λx y H Q=>∃a b ys,x=.ref a/\y=.ref b/\SqT K H a []/\SqT K H b ys/\Q (.ref b) H
def FC:OpR X (binaryOp .Add) (NV X.K):=by
 intro G s Z H x y v u Q I l j h;obtain⟨a,b,ys,rfl,rfl,i,C,q⟩:=h;cases l;cases j;obtain⟨z,B,E,_⟩:=I.tuple i;obtain⟨f,F,r,_⟩:=I.tuple C;cases B;exact B7 E r ⟨.ref b,H,I,rfl,q⟩
end
end L2
namespace MM
open PySem.Spec PyProof.Rows L2
def zi(x y:PV)(h:MH):Out PV:=match x,y with
 | .tup [],.tup ys=>.ok (.tup ys) h
 | x,y=>l7 x y h
def Di(x y:PV)(h:MH):Out PV:=match x,y with
 | .tup xs,.int k=>if xs≠[]/\k=1 then .ok (.tup xs) h else if xs≠[]/\k=0 then .ok (.tup []) h else .bad
 | _,_=>.bad
section
variable {X:Cx} {U:List Addr} {H:Hp}
def FD:Cm X (binaryOp .Add) zi:=by
 intro z s Z H G B u v Q I a f ⟨U,h,x,y,l,j,i,q⟩;unfold zi at q
 split at q
 .cases j with
  | tup C F =>
   cases i with
   | tup r E =>
    cases F;exact FC z s Z H _ _ u v Q I a f ⟨_,_,_,rfl,rfl,C,r,q U H _ (Le.refl _ _) l (.tup r E)⟩
 .exact dz z s Z H G B u v Q I a f ⟨U,h,x,y,l,j,i,q⟩
def FE:Cm X (binaryOp .Mult) Di:=by
 intro C s Z H O M u v Q I f i ⟨U,h,x,y,r,G,F,q⟩;unfold Di at q
 split at q
 .rename_i xs k
  cases G with
  | @tup _ a ys j B =>
   cases F;have l:=B.length;by_cases z:xs≠[]/\k=1
   .rw[d_ z] at q;exact wO C s Z H _ _ u v Q I f i ⟨a,k,ys,rfl,rfl,j,(by rintro rfl;exact z.1 (En.mp l)),.inl ⟨z.2,q U H _ (Le.refl _ _) r (.tup j B)⟩⟩
   .rw[g_ z] at q;by_cases z:xs≠[]/\k=0
    .rw[d_ z] at q;refine wO C s Z H _ _ u v Q I f i ⟨a,k,ys,rfl,rfl,j,(by rintro rfl;exact z.1 (En.mp l)),.inr ⟨z.2,λp J=>?_⟩⟩;obtain⟨L,E⟩:=r.tup J [];exact q _ _ _ E L (.tup (.inl (.inl cp)) .nil)
    .rw[g_ z] at q;exact q.elim
 .exact q.elim
end
end MM
namespace PU
open MM
noncomputable section
def xY:BD where
 m:=zi
 p:=λa b=>match a,b with
  | .tup [],.tup y=>some (.tup y)
  | a,b=>bS.p a b
 fr:=true
 ok {q h L O a x b y d} bd wa wb e:=by
  by_cases z:(∃j,b=.tup j)/\a=.tup []
  .obtain⟨⟨j,rfl⟩,rfl⟩:=z;cases e;obtain⟨xs,rfl,r⟩:=wa.tup;obtain⟨ys,rfl,u⟩:=wb.tup
   have:xs=[]:=r
   subst this;exact El ⟨_,rfl,u⟩ λ_ k _ e=>by cases k <;> cases e
  .have f:bS.p a b=some d:=by
    revert e;split
    .exact absurd ⟨⟨_,rfl⟩,rfl⟩ z
    .exact id
   have:zi x y h=l7 x y h:=by
    unfold zi;split
    .exfalso
     cases a with
     | tup B =>
      obtain⟨xs,ex,r⟩:=wa.tup;cases ex
      have:=r.length
      cases B with
      | nil =>
       cases b with
       | tup bs=>exact z ⟨⟨_,rfl⟩,rfl⟩
       | _=>cases f
      | cons _ _=>simp at this
     | int i=>have:=wa.int;cases this
     | lst l=>obtain⟨n,xs,ex,_⟩:=wa.lst;cases ex
     | _=>cases f
    .rfl
   show Gv q h O true (zi x y h) d;rw[this];exact bS.ok bd wa wb f
def mK:BD where
 m:=Di
 p:=λa b=>match a,b with
  | .tup xs,.int k=>if xs≠[]/\k=1 then some (.tup xs) else if xs≠[]/\k=0 then some (.tup []) else none
  | _,_=>none
 fr:=true
 ok {q h L O a x b y d} bd wa wb e:=by
  cases a with
  | tup f =>
   cases b with
   | int k =>
    dsimp only at e;obtain⟨xs,rfl,r⟩:=wa.tup;rw[wb.int];have j:=r.length;have i:f≠[]->xs≠[]:=λz e=>z (En.mp (by rw[<-j,e];rfl));show Gv q h O true (if xs≠[]/\k=1 then .ok (.tup xs) h else if xs≠[]/\k=0 then .ok (.tup []) h else .bad) _;by_cases z:f≠[]/\k=1
    .rw[d_ z] at e;cases e;rw[d_ ⟨i z.1,z.2⟩];exact El ⟨_,rfl,r⟩ λ_ k _ e=>by cases k <;> cases e
    .rw[g_ z] at e;by_cases z:f≠[]/\k=0
     .rw[d_ z] at e;cases e;rw[g_ (by rintro⟨_,e⟩;rw[z.2] at e;cases e),d_ ⟨i z.1,z.2⟩];exact El ⟨_,rfl,rfl⟩ λ_ k _ e=>by cases k <;> cases e
     .rw[g_ z] at e;cases e
   | _=>cases e
  | _=>cases e
end
end PU
namespace MM
open L2
def JX{X:L2.Cx}:OJ X (binaryOp .Add) PU.xY:=⟨FD⟩
def JY{X:L2.Cx}:OJ X (binaryOp .Mult) PU.mK:=⟨FE⟩
end MM
namespace Law
open PySem.Spec PyProof.Rows L2 MM
set_option maxHeartbeats 4000000
noncomputable section
def Bi:n8:=(bp (bM 2 (aC l7 (aC lp (mC (.int 7919)) (az 1)) (mC (.int 11))))
 (bp (C6 (mB (aC DM (az 1) (z6 Df (aw (z6 vl (aw (az 0) h_)) (aw (mC (.int 63)) h_))))) (bM 2 (aC bu (az 0) (az 1))) (C6 (mB (aC DN (z6 vl (aw (az 0) h_)) (mC (.int 0)))) (bM 2 (aC l7 (aC ny (aC bu (az 0) (aC ny (az 1) (z6 Df (aw (z6 vl (aw (az 0) h_)) (aw (mC (.int 63)) h_))))) (aC sv (mC (.int 10)) (mC (.int 15)))) (aC lp (mC (.int 48271)) (az 1)))) ox))
 (bp (C6 (mB (aC DO (z6 CM (aw (az 2) h_)) (aC sv (mC (.int 10)) (mC (.int 18))))) (cB (iP (aw (mC (.int 1)) (aw (z6 CM (aw (az 2) h_)) (aw (mC (.int 0)) h_))))) ox)
 (cB (iP (aw (mC (.int 0)) (aw (aC l7 (aC ny (az 2) (mC (.int 2147483587))) (aC lp (mC (.int 40009)) (az 1))) (aw (mC (.int 0)) h_))))))))
def jR:List PV->MH->Out PV:=fe 3 2 Bi
def yy:n8:=(bp (pr (aC l7 (aC bu (az 0) (mC (.int 2))) (mC (.int 1))) (Gu (az 0) (mC (.int 2))))
 (bp (C6 (mB (aC CA (aC bu (az 0) (mC (.int 0))) (mC (.int 1)))) (bp (bM 3 (aC ny (aC bu (az 0) (mC (.int 1))) (az 1)))
 (bp (pr (aC De (aC bu (az 0) (mC (.int 1))) (az 1)) (Gu (az 0) (mC (.int 1))))
 (cB (az 3)))) ox)
 (bp (bM 2 (aC ny (aC lp (aC l7 (aC l7 (aC bu (az 0) (mC (.int 1))) (aC lp (mC (.int 40503)) (aC bu (az 0) (mC (.int 2))))) (mC (.int 1))) (mC (.int 48271))) (mC (.int 2147483647))))
 (bp (bM 2 (aC ny (aC lp (az 2) (aC l7 (aC l7 (aC ny (az 2) (mC (.int 65521))) (aC bu (az 0) (mC (.int 2)))) (mC (.int 3)))) (mC (.int 2147483629))))
 (cB (aC ny (aC De (aC ny (aC lp (az 2) (aC l7 (aC ny (az 2) (mC (.int 8191))) (mC (.int 7)))) (mC (.int 2147483563))) (mC (.int 64))) (az 1)))))))
def bR:List PV->MH->Out PV:=fe 4 2 yy
end
end Law
namespace Law
open MM PU
open L2 (z9 nk gv)
set_option maxHeartbeats 4000000
noncomputable section
def fS:Xd []:=(aX (jk (BV (dr ["int"]) (ab 0)) (rS (BV (dr ["bool"]) (ab 0)))))
def eO:Fn:=bK 1 1 fS
def u7{a:List D}{s:hB}(h:a.length=1):eO.p a s=(fS.p (mh 1 a) s).fin:=bh h
abbrev NW:Xt []:=xB (ac vr (ab 1) (xC (.int 0)))
abbrev NX:Xd []:=(aA (aQ 2 (ac og (ab 0) (ab 1))) (aA (aQ 0 (ab 1)) (aQ 1 (ab 2))))
def cC:Xd []:=(aA (MX 2000000 NW NX lT)
 (aX (ab 0)))
def bQ:Fn:=bK 3 2 cC
def lF{a:List D}{s:hB}(h:a.length=2):bQ.p a s=(cC.p (mh 3 a) s).fin:=bh h
def eZ:Xd []:=(aA (va (CO (dH (xB (aj eO (aa (ab 0) a_)))) (dH (xB (aj eO (aa (ab 1) a_))))) Fh i_)
 (aA (va (xB (ac CV (ab 1) (xC (.int 0)))) Fh i_)
 (aA (aQ 2 (aj bQ (aa (n_ pN (aa (ab 0) a_)) (aa (n_ pN (aa (ab 1) a_)) a_))))
 (aA (va (xB (ac PB (ab 1) (xC (.int 0)))) (aQ 2 (BV tS (ab 2))) i_)
 (aX (aU (aa (ac C8 (ab 0) (ab 2)) (aa (ac C8 (ab 1) (ab 2)) a_))))))))
def bW:Fn:=bK 3 2 eZ
def uI{a:List D}{s:hB}(h:a.length=2):bW.p a s=(eZ.p (mh 3 a) s).fin:=bh h
def jK:Xd []:=(aX (aj bW (aa (ac dS (ac cH (ac h8 (ab 0) (xC (.int 0))) (ac h8 (ab 1) (xC (.int 1)))) (ac cH (ac h8 (ab 1) (xC (.int 0))) (ac h8 (ab 0) (xC (.int 1))))) (aa (ac cH (ac h8 (ab 0) (xC (.int 1))) (ac h8 (ab 1) (xC (.int 1)))) a_))))
def fX:Fn:=bK 2 2 jK
def Ci{a:List D}{s:hB}(h:a.length=2):fX.p a s=(jK.p (mh 2 a) s).fin:=bh h
abbrev Sb:Xd []:=aQ 1 (ac C8 (ac cH (ab 1) (ac h8 (ab 2) (xC (.int 1)))) (aj bQ (aa (ab 1) (aa (ac h8 (ab 2) (xC (.int 1))) a_))))
def cY:Xd []:=(aA (aQ 1 (xC (.int 1)))
 (aA (dj (aV (ab 0)) (ia 2) Sb)
 (aX (ab 1))))
def c6:Fn:=bK 3 1 cY
def nL{a:List D}{s:hB}(h:a.length=1):c6.p a s=(cY.p (mh 3 a) s).fin:=bh h
def eX:Xd []:=(aA (aQ 3 (n_ oG (aa (ac h8 (ac h8 (ab 1) (ab 2)) (xC (.int 0))) a_)))
 (aA (aQ 4 (ac bS (aO 1 [3] (be wh (aa (ab 0) a_)) (ws':=[]) (ia 0) f_ (Fk (ab 1) (aa (ab 0) (aa (Fg 0 1) a_)))) (fJ (aa (ac h8 (ac h8 (ab 1) (ab 2)) (xC (.int 1))) a_))))
 (aA (aQ 5 (aj c6 (aa (ab 4) a_)))
 (aA (aQ 6 (aO 1 [5,2] (be wh (aa (n_ cr (aa (ab 1) a_)) a_)) (ws':=[]) (ia 0) f_ (qg (xB (ac CV (ab 0) (ab 2))) (ab 1) (xC (.int 0)) true)))
 (aX (ac bS (aO 1 [5] (aV (ab 4)) (ws':=[]) (ia 0) f_ (ac cH (ac h8 (ab 0) (xC (.int 0))) (ac C8 (ab 1) (ac h8 (ab 0) (xC (.int 1)))))) (ab 6)))))))
def dm:Fn:=bK 7 3 eX
def tT{a:List D}{s:hB}(h:a.length=3):dm.p a s=(eX.p (mh 7 a) s).fin:=bh h
def gH:Xd []:=(aX (aO 2 [3,1,2,0] (be iZ (aa (ab 0) (aa (ab 1) a_))) (ws':=[]) (w_ (n7 (ia 0) (n7 (ia 1) w9)) 2) f_ (ac C8 (ac dS (ac cH (ac h8 (ab 3) (ab 4)) (ab 0)) (ac cH (ac h8 (ab 5) (ab 4)) (ab 1))) (ab 2))))
def cL:Fn:=bK 4 4 gH
def yr{a:List D}{s:hB}(h:a.length=4):cL.p a s=(gH.p (mh 4 a) s).fin:=bh h
abbrev Sd:Xd [2,3]:=kO 2 (ab 8) (aj cL (aa (ac nI (ab 2) (ab 8)) (aa (ab 7) (aa (ab 5) (aa (ab 4) a_)))))
def gL:Xd [2,3]:=(aA (dI 2 Fc)
 (aA (dI 3 (aO 1 [0,1] (be wh (aa (n_ cr (aa (ab 1) a_)) a_)) (ws':=[]) (ia 0) f_ (aj dm (aa (ab 1) (aa (ab 2) (aa (ab 0) a_))))))
 (aA (aQ 4 (xC (.int 1)))
 (aA (dj (be wh (aa (ab 0) a_)) (ia 5) (aA (aQ 6 (aO 2 [5] (be iE (aa (ab 3) a_)) (ws':=[]) (w_ (n7 (ia 0) (n7 (ia 1) w9)) 2) (xB (ac vr (ac h8 (ab 1) (ab 2)) (xC (.int 0)))) (ab 0)))
 (va (Jn (ab 6)) (aA (ug 7 CK 3 (aa (ac h8 (ab 6) (xC (.int 0))) a_))
 (aA (dI 3 (aO 1 [7,5,4] (aV (ab 3)) (ws':=[]) (ia 0) f_ (aj cL (aa (ab 0) (aa (ab 1) (aa (ab 2) (aa (ab 3) a_)))))))
 (aA (dj (aV (n_ oY (aa (ab 2) a_))) (ia 8) Sd)
 (aA (kO 2 (ab 5) (ab 7))
 (aQ 4 (ac h8 (ab 7) (ab 5))))))) i_)))
 (Fl (ws':=[3]) 2 (PJ (ws':=[]) 3 (aX (aU (aa (ab 2) (aa (ab 3) a_))))))))))
def gI:Fn:=bK 9 2 gL
def yc{a:List D}{s:hB}(h:a.length=2):gI.p a s=(gL.p (mh 9 a) s).fin:=bh h
def fG:Xd []:=(aX (aO 1 [1] (aV (ab 0)) (ws':=[]) (ia 0) f_ (aj bW (aa (ab 0) (aa (ab 1) a_)))))
def c8:Fn:=bK 2 2 fG
def vm{a:List D}{s:hB}(h:a.length=2):c8.p a s=(fG.p (mh 2 a) s).fin:=bh h
def eL:Xd []:=(aA (va (xB (ac (nB true) (ab 1) (ab 0))) (aX (Fg 0 1)) i_)
 (aX (aj bW (aa (ac h8 (ac nI (ab 0) (ab 1)) (ab 2)) (aa (ac h8 (ac nI (ab 0) (ab 1)) (ab 1)) a_)))))
def cb:Fn:=bK 3 3 eL
def nr{a:List D}{s:hB}(h:a.length=3):cb.p a s=(eL.p (mh 3 a) s).fin:=bh h
def e8:Xd [3]:=(aA (dI 3 (aO 1 [1,2] (be wh (aa (ab 0) a_)) (ws':=[]) (ia 0) f_ (aj fX (aa (Fg 0 1) (aa (aj cb (aa (ab 1) (aa (ab 0) (aa (ab 2) a_)))) a_)))))
 (aA (jJ 3 (Fg 1 1) (ab 2))
 (k5 3)))
def dP:Fn:=bK 4 3 e8
def uS{a:List D}{s:hB}(h:a.length=3):dP.p a s=(e8.p (mh 4 a) s).fin:=bh h
abbrev Se:Xd []:=va (xB (ac vr (ac h8 (ab 4) (ab 0)) (xC (.int 0)))) (aX (aU (aa (xC (.str "none")) (aa (aj c8 (aa (Jf (ab 4) (Jd (ac bS (ab 0) (xC (.int 1)))) Jc) (aa (ac h8 (ab 4) (ab 0)) a_))) a_)))) i_
def i5:Xd []:=(aA (aQ 2 (aj gI (aa (ab 0) (aa (ab 1) a_))))
 (aA (aQ 3 (ac h8 (ab 2) (xC (.int 0))))
 (aA (dj (aV (ac h8 (ab 2) (xC (.int 1)))) (ia 4) Se)
 (aA (aQ 5 (aO 1 [3,0] (be wh (aa (ab 0) a_)) (ws':=[]) (ia 0) f_ (aj cb (aa (ab 1) (aa (ab 0) (aa (ab 2) a_))))))
 (aA (aQ 6 (aO 2 [0] (uK (ab 3)) (ws':=[]) (w_ (n7 (ia 0) (n7 (ia 1) w9)) 2) f_ (aj c8 (aa (Jf (ab 1) (Jd (ac bS (ab 2) (xC (.int 1)))) Jc) (aa (ac h8 (ab 1) (ab 0)) a_)))))
 (aA (aQ 7 (aO 1 [0,3] (be wh (aa (ab 0) a_)) (ws':=[]) (ia 0) (xB (ac (nB true) (ab 0) (ab 2))) (aU (aa (ab 0) (aa (aj dP (aa (ab 1) (aa (ab 2) (aa (ab 0) a_)))) a_)))))
 (aA (va (Jn (ab 7)) (aX (aU (aa (xC (.str "many")) (aa (ab 5) (aa (ab 7) (aa (ab 6) a_)))))) i_)
 (aX (aU (aa (xC (.str "one")) (aa (ab 5) (aa (ab 6) a_))))))))))))
def fg:Fn:=bK 8 2 i5
def ze{a:List D}{s:hB}(h:a.length=2):fg.p a s=(i5.p (mh 8 a) s).fin:=bh h
def pS{h:MH}{p:Nat}{o:MO}(a:p<h.length):(h.set p o)[p]?=some o:=Cw a
def PP:z9 3 2=some 2:=fZ (n:=3) (m:=2) (by decide)
def Sf:z9 3 1=some 1:=fZ (n:=3) (m:=1) (by decide)
def jX(s:hB)(a:Int)(H:0<a)(L:a.natAbs.log2<9000):∃x:Int × Int,(0<=x.1/\x.1<a)/\∀(h:MH) (p:Nat),ci h p s->bR [.loc p,.int a] h=.ok (.int x.1) (h.set p (.lst [.int s.1,.int x.2,.int (s.2.2+1)])):=by
 obtain⟨m,c,t⟩:=s;have f:a≠0:=by ext
 have st:∀n:Int,0<=n.fmod a/\n.fmod a<a:=λn=>by
  rw[Lb n (by ext)];exact⟨Lp n f,Lj n H⟩
 by_cases y:m=1
 .subst y;refine⟨(c.fmod a,c.fdiv a),st c,λh p e=>?_⟩;have e:h[p]?=some (.lst [.int 1,.int c,.int t]):=e;have l:p<h.length:=(tr.mp e).1;have e2:(h.set p (.lst [.int 1,.int c,.int (t+1)]))[p]?=some (.lst [.int 1,.int c,.int (t+1)]):=pS l;unfold bR;refine (mH (by rfl)).trans ?_;unfold yy;simp[cE,List.replicate,kZ e,nH e,PP,kZ e2,f7 f,vX f,nH e2,Sf]
 .have j:∀n k:Int,0<k->0<=n.fmod k/\n.fmod k<k:=λn k I=>by
   rw[Lb n (by ext)];exact⟨Lp n (by ext),Lj n I⟩
  generalize u:((c+40503 * (t+1)+1) * 48271).fmod 2147483647=A;have E:=j ((c+40503 * (t+1)+1) * 48271) 2147483647 (by decide);rw[u] at E;generalize r:(A * (A.fmod 65521+(t+1)+3)).fmod 2147483629=C;have J:=j (A * (A.fmod 65521+(t+1)+3)) 2147483629 (by decide);rw[r] at J;refine⟨((((C * (C.fmod 8191+7)).fmod 2147483563).fdiv 64).fmod a,c),st _,λh p e=>?_⟩;have e:h[p]?=some (.lst [.int m,.int c,.int t]):=e;have l:p<h.length:=(tr.mp e).1;have e2:(h.set p (.lst [.int m,.int c,.int (t+1)]))[p]?=some (.lst [.int m,.int c,.int (t+1)]):=pS l;have F:-(2 ^ 64)<A/\A<2 ^ 64:=by ext
  have G:-(2 ^ 64)<C/\C<2 ^ 64:=by ext
  have z:∀{i:Int} {h:MH},lp (.int 40503) (.int i) h=.ok (.int (40503 * i)) h:=iA (by decide);have B:∀{i:Int} {h:MH},lp (.int i) (.int 48271) h=.ok (.int (i * 48271)) h:=EW (by decide);unfold bR;refine (mH (by rfl)).trans ?_;unfold yy;simp[cE,List.replicate,kZ e,nH e,PP,kZ e2,y,z,B,f7,u,iA F,r,iA G,vX (show (64:Int)≠0 by decide),f7 f]
open Classical in
def mO(s:hB)(a:Int):Int × Int:=if z:0<a/\a.natAbs.log2<9000 then (jX s a z.1 z.2).choose else (0,0)
def oM(a:List D):Option Int:=match a with
 | [.pen,.int i]=>some i
 | _=>none
def xQ{a:List D}{i:Int}(e:oM a=some i):a=[.pen,.int i]:=by
 unfold oM at e
 split at e
 .cases e;rfl
 .cases e
open Classical in
def aM:Fn where
 m:=bR
 p:=λf s=>match oM f with
  | some a=>if 0<a/\a.natAbs.log2<9000 then .ok (.int (mO s a).1) (s.1,(mO s a).2,s.2.2+1) else .bad
  | none=>.bad
 fr:=true
 ok {q h O vs f s} bd hq pn r:=by
  cases e:oM f with
  | none=>trivial
  | some a =>
   have:=xQ e
   subst this;dsimp only;by_cases z:0<a/\a.natAbs.log2<9000
   .rw[d_ z];obtain⟨x,t,rfl,C,y,u,rfl,B,i⟩:=r;rw[show x=PV.loc q from C,show y=PV.int a from B,show u=[] from i];have k:=(jX s a z.1 z.2).choose_spec.2 h q pn;have l:mO s a=(jX s a z.1 z.2).choose:=by unfold mO;rw[dif_pos z]
    rw[<-l] at k;refine⟨_,_,k,⟨by simp,λn E j=>o0 (Ne.symm j)⟩,pS (aR pn),rfl,λ_ k f e=>by cases k <;> cases e⟩
   .rw[g_ z];trivial
def xG:aM.m=bR:=rfl
open Classical in
theorem bV{s:hB}{size:Int}(f:0<size)(u:size<=2000000000):∃d j,0<=d/\d<size/\aM.p [.pen,.int size] s=.ok (.int d) j:=by
 have a:size.natAbs.log2<9000:=by
  have l:size.natAbs<=2000000000:=by ext
  have r:size.natAbs.log2<31:=(Nat.log2_lt (by ext)).mpr (by ext);ext
 have z:0<size/\size.natAbs.log2<9000:=⟨f,a⟩;have i:mO s size=(jX s size z.1 z.2).choose:=by unfold mO;rw[dif_pos z]
 have k:=(jX s size z.1 z.2).choose_spec.1;rw[<-i] at k;exact⟨_,_,k.1,k.2,by show (if 0<size/\size.natAbs.log2<9000 then _ else _)=_;rw[d_ z]⟩
abbrev ua:Xt []:=xB (ac Jb (ab 3) (xC (.int 0)))
abbrev uu:Xd []:=t5 2 3 (aa (ab 3) (aa (ac og (ab 2) (ab 3)) a_))
def eJ:Xd []:=(aA (t5 2 3 (aa (n_ pN (aa (ab 0) a_)) (aa (n_ pN (aa (ab 1) a_)) a_)))
 (aA (MX 2000000 ua uu lT)
 (aA (va (xB (ac PB (ab 1) (xC (.int 0)))) (aQ 2 (BV tS (ab 2))) i_)
 (aX (aU (aa (ac C8 (ab 0) (ab 2)) (aa (ac C8 (ab 1) (ab 2)) a_)))))))
def aK:Fn:=bK 4 2 eJ
def nt{a:List D}{s:hB}(h:a.length=2):aK.p a s=(eJ.p (mh 4 a) s).fin:=bh h
def fL:Xd []:=(aA (aQ 1 (aj aM (aa (ab 0) (aa (xC (.int 8)) a_))))
 (aA (va (xB (ac CV (ab 1) (xC (.int 7)))) (aX (aj aK (aa (ac bS (ac dS (aj aM (aa (ab 0) (aa (ac dS (ac cH (xC (.int 2)) (ac td (xC (.int 10)) (xC (.int 6)))) (xC (.int 1))) a_))) (ac td (xC (.int 10)) (xC (.int 6)))) (xC (.int 1))) (aa (ac bS (xC (.int 1)) (aj aM (aa (ab 0) (aa (ac dS (ac td (xC (.int 10)) (xC (.int 6))) (xC (.int 1))) a_)))) a_)))) i_)
 (aX (aj aK (aa (ac dS (aj aM (aa (ab 0) (aa (xC (.int 13)) a_))) (xC (.int 6))) (aa (ac bS (xC (.int 1)) (aj aM (aa (ab 0) (aa (ac h8 (fJ (aa (xC (.int 1)) (aa (xC (.int 1)) (aa (xC (.int 5)) a_)))) (ac og (ab 1) (xC (.int 3)))) a_)))) a_))))))
def fH:Fn:=bK 2 1 fL
def vd{a:List D}{s:hB}(h:a.length=1):fH.p a s=(fL.p (mh 2 a) s).fin:=bh h
def iC:Xd []:=(aA (aQ 1 (aj fH (aa (ab 0) a_)))
 (aX (ac h8 (fJ (aa (ab 1) (aa (aU (aa (ac bS (xC (.int 1)) (aj aM (aa (ab 0) (aa (xC (.int 9)) a_)))) (aa (xC (.int 1)) a_))) a_))) (n_ jz (aa (ac CV (ac h8 (ab 1) (xC (.int 0))) (xC (.int 0))) a_)))))
def iQ:Fn:=bK 2 1 iC
def y9{a:List D}{s:hB}(h:a.length=1):iQ.p a s=(iC.p (mh 2 a) s).fin:=bh h
def iL:Xd []:=(aX (aj aK (aa (ac bS (ac cH (ac h8 (ab 0) (xC (.int 0))) (ac h8 (ab 1) (xC (.int 1)))) (ac cH (ac h8 (ab 1) (xC (.int 0))) (ac h8 (ab 0) (xC (.int 1))))) (aa (ac cH (ac h8 (ab 0) (xC (.int 1))) (ac h8 (ab 1) (xC (.int 1)))) a_))))
def aZ:Fn:=bK 2 2 iL
def zX{a:List D}{s:hB}(h:a.length=2):aZ.p a s=(iL.p (mh 2 a) s).fin:=bh h
def gN:Xd []:=(aX (aj aK (aa (ac cH (ac h8 (ab 0) (xC (.int 0))) (ac h8 (ab 1) (xC (.int 0)))) (aa (ac cH (ac h8 (ab 0) (xC (.int 1))) (ac h8 (ab 1) (xC (.int 1)))) a_))))
def bv:Fn:=bK 2 2 gN
def yb{a:List D}{s:hB}(h:a.length=2):bv.p a s=(gN.p (mh 2 a) s).fin:=bh h
abbrev Sg:Xd []:=aQ 2 (aj aZ (aa (ab 2) (aa (aj bv (aa (ab 4) (aa (ac h8 (ab 1) (ab 3)) a_))) a_)))
abbrev TQ:Xg []:=w_ (n7 (ia 3) (n7 (ia 4) w9)) 2
def gJ:Xd []:=(aA (aQ 2 (aU (aa (xC (.int 0)) (aa (xC (.int 1)) a_))))
 (aA (dj (aV (ab 0)) TQ Sg)
 (aX (ab 2))))
def bw:Fn:=bK 5 2 gJ
def xj{a:List D}{s:hB}(h:a.length=2):bw.p a s=(gJ.p (mh 5 a) s).fin:=bh h
abbrev JZ:Xt []:=xB (ac CV (aj aM (aa (ab 1) (aa (ab 2) a_))) (xC (.int 0)))
abbrev J0:Xe []:=aU (aa (ab 0) (aa (aj iQ (aa (ab 1) a_)) a_))
def gP:Xd []:=(aX (n_ fF (aa (aO 1 [0,2] (be wh (aa (ab 1) a_)) (ws':=[]) (ia 0) JZ J0) a_)))
def fv:Fn:=bK 3 3 gP
def xE{a:List D}{s:hB}(h:a.length=3):fv.p a s=(gP.p (mh 3 a) s).fin:=bh h
def fK:Xd []:=(aX (n_ fF (aa (aO 1 [1] (be wh (aa (ab 0) a_)) (ws':=[]) (ia 0) (xB (ac vr (ac h8 (ac h8 (ab 1) (ab 0)) (xC (.int 0))) (xC (.int 0)))) (aU (aa (ab 0) (aa (ac h8 (ab 1) (ab 0)) a_)))) a_)))
def fN:Fn:=bK 2 2 fK
def vo{a:List D}{s:hB}(h:a.length=2):fN.p a s=(fK.p (mh 2 a) s).fin:=bh h
abbrev Sh:Xd [3]:=jJ 3 (aj aZ (aa (ac h8 (ab 3) (ab 5)) (aa (aj bv (aa (ab 6) (aa (ac h8 (ab 2) (ab 4)) a_))) a_))) (ab 5)
abbrev TR:Xg [3]:=w_ (n7 (ia 5) (n7 (ia 6) w9)) 2
def eB:Xd [3]:=(aA (dI 3 (ac cH (fJ (aa (aU (aa (xC (.int 0)) (aa (xC (.int 1)) a_))) a_)) (ac bS (ab 0) (xC (.int 1)))))
 (aA (dj (be wh (aa (n_ cr (aa (ab 1) a_)) a_)) (ia 4) (aA (dj (aV (ac h8 (ac h8 (ab 1) (ab 4)) (xC (.int 0)))) TR Sh)
 (jJ 3 (aj aZ (aa (ac h8 (ab 3) (ab 0)) (aa (aj bv (aa (ac h8 (ac h8 (ab 1) (ab 4)) (xC (.int 1))) (aa (ac h8 (ab 2) (ab 4)) a_))) a_))) (ab 0))))
 (k5 3)))
def cU:Fn:=bK 7 3 eB
def rn{a:List D}{s:hB}(h:a.length=3):cU.p a s=(eB.p (mh 7 a) s).fin:=bh h
def dM:Xd []:=(aA (va (CO (dH (xB (BV (dr ["tuple"]) (ab 0)))) (xB (ac vr (n_ cr (aa (ab 0) a_)) (xC (.int 2))))) (aX (xC (.bl false))) i_)
 (aA (dj (aV (ab 0)) (ia 1) (va (CO (dH (xB (BV (dr ["int"]) (ab 1)))) (xB (BV (dr ["bool"]) (ab 1)))) (aX (xC (.bl false))) i_))
 (aX (jk (ac Jb (ac h8 (ab 0) (xC (.int 1))) (xC (.int 0))) (ac CV (aj aK (aa (ac h8 (ab 0) (xC (.int 0))) (aa (ac h8 (ab 0) (xC (.int 1))) a_))) (ab 0))))))
def cA:Fn:=bK 2 1 dM
def pT{a:List D}{s:hB}(h:a.length=1):cA.p a s=(dM.p (mh 2 a) s).fin:=bh h
def eW:Xd []:=(aX (jk (BV (dr ["list"]) (ab 0)) (jk (ac CV (n_ cr (aa (ab 0) a_)) (ab 1)) (ac (MZ true) (xC (.bl false)) (aO 1 [] (aV (ab 0)) (ws':=[]) (ia 0) f_ (aj cA (aa (ab 0) a_)))))))
def cK:Fn:=bK 2 2 eW
def ud{a:List D}{s:hB}(h:a.length=2):cK.p a s=(eW.p (mh 2 a) s).fin:=bh h
abbrev Si:Xd []:=(aA (va (dH (xB (aj cK (aa (ab 6) (aa (n_ cr (aa (ab 1) a_)) a_))))) (aX (xC (.bl false))) i_)
 (aA (aQ 7 (aj cU (aa (ab 0) (aa (ab 1) (aa (ab 6) a_)))))
 (va (xB (ac vr (aO 1 [7] (aV (ab 4)) (ws':=[]) (ia 0) f_ (ac h8 (ab 1) (ab 0))) (aO 1 [5] (aV (ab 4)) (ws':=[]) (ia 0) f_ (aU (aa (n_ jz (aa (ac CV (ab 0) (ab 1)) a_)) (aa (xC (.int 1)) a_)))))) (aX (xC (.bl false))) i_)))
def cZ:Xd []:=(aA (aQ 4 (aO 1 [2] (be wh (aa (ab 0) a_)) (ws':=[]) (ia 0) (xB (ac (MZ true) (ab 0) (ab 1))) (ab 0)))
 (aA (va (CO (dH (xB (BV (dr ["list"]) (ab 3)))) (xB (ac vr (n_ cr (aa (ab 3) a_)) (n_ cr (aa (ab 4) a_))))) (aX (xC (.bl false))) i_)
 (aA (dj (be iZ (aa (ab 4) (aa (ab 3) a_))) (w_ (n7 (ia 5) (n7 (ia 6) w9)) 2) Si)
 (aX (xC (.bl true))))))
def cy:Fn:=bK 8 4 cZ
def nS{a:List D}{s:hB}(h:a.length=4):cy.p a s=(cZ.p (mh 8 a) s).fin:=bh h
abbrev Sj:Xd [2]:=(aA (aQ 8 (aj bv (aa (ac h8 (ac h8 (ab 2) (ab 7)) (ab 4)) (aa (aj aK (aa (ac dS (xC (.int 0)) (ac h8 (ac h8 (ab 6) (ab 4)) (xC (.int 1)))) (aa (ac h8 (ac h8 (ab 6) (ab 4)) (xC (.int 0))) a_))) a_))))
 (jJ 2 (aO 2 [8] (be iZ (aa (ac h8 (ab 2) (ab 7)) (aa (ab 6) a_))) (ws':=[]) (w_ (n7 (ia 0) (n7 (ia 1) w9)) 2) f_ (aj aZ (aa (ab 0) (aa (aj bv (aa (ab 2) (aa (ab 1) a_))) a_)))) (ab 7)))
abbrev Sk:Xd [2]:=(aA (aQ 5 (aO 1 [4] (aV (ab 2)) (ws':=[]) (ia 0) (xB (ac vr (ac h8 (ac h8 (ab 0) (ab 1)) (xC (.int 0))) (xC (.int 0)))) (ab 0)))
 (va (xB (ac vr (ab 5) (fJ a_))) (aA (aQ 6 (ac h8 (ab 5) (xC (.int 0))))
 (aA (Fd B6 2 (aa (ab 6) a_))
 (aA (aQ 3 (ac bS (ab 3) (xC (.int 1))))
 (dj (be wh (aa (n_ cr (aa (ab 2) a_)) a_)) (ia 7) Sj)))) i_))
def iU:Xd [2]:=(aA (dI 2 (aO 1 [] (aV (ab 1)) (ws':=[]) (ia 0) f_ (n_ jc (aa (ab 0) a_))))
 (aA (aQ 3 (xC (.int 0)))
 (aA (dj (be wh (aa (ab 0) a_)) (ia 4) Sk)
 (aX (ab 3)))))
def fh:Fn:=bK 9 2 iU
def Ab{a:List D}{s:hB}(h:a.length=2):fh.p a s=(iU.p (mh 9 a) s).fin:=bh h
def d4:Xd [2]:=(aA (dI 2 (fJ a_))
 (aA (dj (aV (ab 1)) (ia 3) (Fd A_ 2 (aa (aj aM (aa (ab 0) (aa (ac bS (n_ cr (aa (ab 2) a_)) (xC (.int 1))) a_))) (aa (ab 3) a_))))
 (k5 2)))
def cR:Fn:=bK 4 2 d4
def rE{a:List D}{s:hB}(h:a.length=2):cR.p a s=(d4.p (mh 4 a) s).fin:=bh h
abbrev Sl:Xd []:=(aA (va (CO (dH (xB (aj cK (aa (ab 5) (aa (ab 0) a_))))) (xB (BV (dr ["bool"]) (ab 4)))) (aX (xC (.bl false))) i_)
 (aA (va (xB (ac vr (aO 2 [5] (aV (ab 1)) (ws':=[]) (w_ (n7 (ia 0) (n7 (ia 1) w9)) 2) (xB (ac vr (aj bw (aa (ab 0) (aa (ab 2) a_))) (aU (aa (xC (.int 0)) (aa (xC (.int 1)) a_))))) (ab 0)) (fJ a_))) (aX (xC (.bl false))) i_)
 (aA (aQ 6 (ac vr (aO 1 [5] (aV (ab 3)) (ws':=[]) (ia 0) f_ (ac h8 (ab 1) (ab 0))) (aO 1 [4] (aV (ab 3)) (ws':=[]) (ia 0) f_ (aU (aa (n_ jz (aa (ac CV (ab 0) (ab 1)) a_)) (aa (xC (.int 1)) a_))))))
 (va (CO (Jn (ab 6)) (xB (ac vr (ac h8 (ac h8 (ab 2) (xC (.int 1))) (ab 4)) (aU (aa (xC (.int 0)) (aa (xC (.int 1)) a_)))))) (aX (xC (.bl false))) i_))))
def dB:Xd []:=(aA (va (CO (dH (xB (BV (dr ["tuple"]) (ab 2)))) (CO (xB (ac vr (n_ cr (aa (ab 2) a_)) (xC (.int 4)))) (dH (xB (aj cK (aa (ac h8 (ab 2) (xC (.int 1))) (aa (ab 0) a_))))))) (aX (xC (.bl false))) i_)
 (aA (aQ 3 (aO 1 [] (aV (ac h8 (ab 2) (xC (.int 2)))) (ws':=[]) (ia 0) (qj (xB (BV (dr ["tuple"]) (ab 0))) (xB (ac CV (n_ cr (aa (ab 0) a_)) (xC (.int 2))))) (ac h8 (ab 0) (xC (.int 0)))))
 (aA (va (CO (dH (xB (BV (dr ["list"]) (ac h8 (ab 2) (xC (.int 2)))))) (CO (xB (ac vr (n_ cr (aa (ab 3) a_)) (n_ cr (aa (ac h8 (ab 2) (xC (.int 2))) a_)))) (xB (ac vr (n_ PL (aa (ab 3) a_)) (ab 3))))) (aX (xC (.bl false))) i_)
 (aA (va (xB (ac vr (aO 2 [2] (aV (ab 1)) (ws':=[]) (w_ (n7 (ia 0) (n7 (ia 1) w9)) 2) (xB (ac vr (aj bw (aa (ab 0) (aa (ac h8 (ab 2) (xC (.int 1))) a_))) (ab 1))) (ab 1)) (fJ a_))) (aX (xC (.bl false))) i_)
 (aA (dj (aV (ac h8 (ab 2) (xC (.int 2)))) (w_ (n7 (ia 4) (n7 (ia 5) w9)) 2) Sl)
 (aX (jk (ac Jb (n_ cr (aa (ab 3) a_)) (xC (.int 0))) (aj cy (aa (ab 0) (aa (ab 1) (aa (ab 3) (aa (ac h8 (ab 2) (xC (.int 3))) a_))))))))))))
def cO:Fn:=bK 7 3 dB
def oz{a:List D}{s:hB}(h:a.length=3):cO.p a s=(dB.p (mh 7 a) s).fin:=bh h
def jO:Xd []:=(aA (aQ 2 (n_ jc (aa (ac h8 (ab 0) (xC (.int 1))) a_)))
 (aA (dj (aV (ac h8 (ab 0) (xC (.int 2)))) (w_ (n7 (ia 3) (n7 (ia 4) w9)) 2) (aQ 2 (aO 2 [1,3] (be iZ (aa (ab 2) (aa (ab 4) a_))) (ws':=[]) (w_ (n7 (ia 0) (n7 (ia 1) w9)) 2) f_ (aj aZ (aa (ab 0) (aa (aj bv (aa (ac h8 (ab 2) (ab 3)) (aa (ab 1) a_))) a_))))))
 (aX (ac CV (ab 2) (ab 1)))))
def fk:Fn:=bK 5 2 jO
def Cf{a:List D}{s:hB}(h:a.length=2):fk.p a s=(jO.p (mh 5 a) s).fin:=bh h
def fW:Xd []:=(aA (aQ 3 (aO 1 [2] (be wh (aa (ab 0) a_)) (ws':=[]) (ia 0) (xB (ac vr (ac h8 (ac h8 (ab 1) (ab 0)) (xC (.int 0))) (xC (.int 0)))) (ab 0)))
 (aA (aQ 4 (ac h8 (ab 3) (ac og (n_ cr (aa (ab 1) a_)) (n_ cr (aa (ab 3) a_)))))
 (aA (aQ 5 (n_ fF (aa (aO 1 [4] (aV (ab 1)) (ws':=[]) (ia 0) (xB (ac vr (ac h8 (ab 0) (xC (.int 0))) (ab 1))) (ab 0)) a_)))
 (aA (aQ 6 (aj bw (aa (ab 5) (aa (ab 2) a_))))
 (aA (aQ 7 (aj aK (aa (ac dS (xC (.int 0)) (ac cH (ac h8 (ab 6) (xC (.int 0))) (ac h8 (ac h8 (ab 2) (ab 4)) (xC (.int 1))))) (aa (ac cH (ac h8 (ab 6) (xC (.int 1))) (ac h8 (ac h8 (ab 2) (ab 4)) (xC (.int 0)))) a_))))
 (aX (n_ fF (aa (n_ lN (aa (ac xY (ab 5) (ac mK (aU (aa (aU (aa (ab 4) (aa (ab 7) a_))) a_)) (n_ jz (aa (ac vr (ac h8 (ab 7) (xC (.int 0))) (xC (.int 0))) a_)))) a_)) a_))))))))
def fQ:Fn:=bK 8 3 fW
def vf{a:List D}{s:hB}(h:a.length=3):fQ.p a s=(fW.p (mh 8 a) s).fin:=bh h
def gK:Xd [2]:=(aA (dI 2 (aO 1 [0] (be wh (aa (ab 1) a_)) (ws':=[]) (ia 0) f_ (aU (aa (ac dS (aj aM (aa (ab 1) (aa (xC (.int 7)) a_))) (xC (.int 3))) (aa (ac bS (xC (.int 1)) (aj aM (aa (ab 1) (aa (xC (.int 2)) a_)))) a_)))))
 (aA (dI 2 (aO 2 [] (aV (ab 2)) (ws':=[]) (w_ (n7 (ia 0) (n7 (ia 1) w9)) 2) f_ (aj aK (aa (ab 0) (aa (ab 1) a_)))))
 (aA (aQ 3 (aj aM (aa (ab 0) (aa (ab 1) a_))))
 (aA (jJ 2 (aU (aa (ac bS (xC (.int 1)) (aj aM (aa (ab 0) (aa (xC (.int 3)) a_)))) (aa (xC (.int 1)) a_))) (ab 3))
 (k5 2)))))
def fj:Fn:=bK 4 2 gK
def w5{a:List D}{s:hB}(h:a.length=2):fj.p a s=(gK.p (mh 4 a) s).fin:=bh h
abbrev Sm:Xd [4]:=(aA (aQ 6 (aj fv (aa (ab 0) (aa (ab 1) (aa (ac h8 (fJ (aa (xC (.int 2)) (aa (xC (.int 3)) (aa (xC (.int 9)) a_)))) (aj aM (aa (ab 0) (aa (xC (.int 3)) a_)))) a_)))))
 (aA (va (xB (ac Jb (ab 1) (xC (.int 7)))) (aQ 6 (n_ fF (aa (aO 2 [0] (aV (ab 6)) (ws':=[]) (w_ (n7 (ia 0) (n7 (ia 1) w9)) 2) f_ (aU (aa (ab 0) (aa (aU (aa (ac bS (xC (.int 1)) (aj aM (aa (ab 2) (aa (xC (.int 4)) a_)))) (aa (xC (.int 1)) a_))) a_)))) a_))) i_)
 (Fd A4 4 (aa (aU (aa (aj fQ (aa (ab 1) (aa (ab 6) (aa (ab 3) a_)))) (aa (aU (aa (xC (.int 0)) (aa (xC (.int 1)) a_))) a_))) a_))))
abbrev So:Xd [4]:=(aA (aQ 7 (aO 1 [0] (aV (ab 4)) (ws':=[]) (ia 0) f_ (aU (aa (ac dS (aj aM (aa (ab 1) (aa (xC (.int 3)) a_))) (xC (.int 1))) (aa (xC (.int 1)) a_)))))
 (Fd A4 4 (aa (aU (aa (aj fN (aa (ab 1) (aa (Jf (mn cU (aa (ab 1) (aa (ab 4) (aa (ab 7) a_)))) Jc (Jd (ab 1))) a_))) (aa (aU (aa (xC (.int 0)) (aa (xC (.int 1)) a_))) a_))) a_)))
def i4:Xd [4]:=(aA (dI 4 (fJ a_))
 (aA (dj (be wh (aa (aj aM (aa (ab 0) (aa (xC (.int 9)) a_))) a_)) (ia 5) Sm)
 (aA (dj (be wh (aa (aj aM (aa (ab 0) (aa (xC (.int 3)) a_))) a_)) (ia 5) So)
 (aX (aO 2 [2] (aV (mn cR (aa (ab 0) (aa (ab 4) a_)))) (ws':=[]) (w_ (n7 (ia 0) (n7 (ia 1) w9)) 2) f_ (aU (aa (ab 0) (aa (aj bw (aa (ab 0) (aa (ab 2) a_))) a_))))))))
def f8:Fn:=bK 8 4 i4
def Aw{a:List D}{s:hB}(h:a.length=4):f8.p a s=(i4.p (mh 8 a) s).fin:=bh h
def mY:Xd []:=(aA (aQ 3 (ac h8 (fJ (aa (ac bS (xC (.int 1)) (aj aM (aa (ab 2) (aa (xC (.int 7)) a_)))) (aa (xC (.int 12)) a_))) (n_ jz (aa (ac CV (aj aM (aa (ab 2) (aa (xC (.int 8)) a_))) (xC (.int 7))) a_))))
 (aA (aQ 4 (aO 1 [2] (be wh (aa (ab 3) a_)) (ws':=[]) (ia 0) f_ (aj aK (aa (ac dS (aj aM (aa (ab 1) (aa (xC (.int 13)) a_))) (xC (.int 6))) (aa (ac bS (xC (.int 1)) (aj aM (aa (ab 1) (aa (xC (.int 3)) a_)))) a_)))))
 (aA (aQ 5 (aj fj (aa (ab 2) (aa (ab 3) a_))))
 (aA (aQ 6 (aO 2 [] (be iZ (aa (ab 4) (aa (ab 5) a_))) (ws':=[]) (w_ (n7 (ia 0) (n7 (ia 1) w9)) 2) f_ (aj aZ (aa (ab 0) (aa (ab 1) a_)))))
 (aA (aQ 7 (aj f8 (aa (ab 2) (aa (ab 3) (aa (ab 4) (aa (ab 5) a_))))))
 (aQ 8 (aO 2 [3] (aV (ab 7)) (ws':=[]) (w_ (n7 (ia 0) (n7 (ia 1) w9)) 2) f_ (aO 1 [0] (be wh (aa (ab 2) a_)) (ws':=[]) (ia 0) f_ (Fk (n_ oG (aa (ab 1) a_)) (aa (ab 0) (aa (aU (aa (xC (.int 0)) (aa (xC (.int 1)) a_))) a_)))))))))))
def p4:Xd []:=(aQ 10 (aj fg (aa (ab 3) (aa (n_ jc (aa (ab 7) a_)) a_))))
def jh:Xd []:=(aA (va (CO (xB (ac vr (ac h8 (ab 10) (xC (.int 0))) (xC (.str "many")))) (dH (xB (aj cO (aa (ab 3) (aa (ab 7) (aa (ab 10) a_))))))) (aX (xC (.bl false))) i_)
 (va (CO (xB (ac vr (n_ cr (aa (ac h8 (ab 10) (xC (.int 2))) a_)) (ac dS (ab 3) (aj fh (aa (ab 3) (aa (ab 8) a_)))))) (CO (dH (xB (aj fk (aa (ab 10) (aa (ab 4) a_))))) (dH (xB (aj fk (aa (ab 10) (aa (ab 6) a_))))))) (aX (xC (.bl false))) i_))
def yZ:Xd []:=(aX (xC (.bl true)))
def Ds:n8:=(bp (lh (eR (aw (mC (.int 3)) h_)) (CG 1) (bp (bM 2 (cz jR (aw (az 0) (aw (az 1) h_))))
 (bp (bM 3 (aC bu (iP (aw (aC l7 (mC (.int 1)) (cz bR (aw (az 2) (aw (mC (.int 7)) h_)))) (aw (mC (.int 12)) h_))) (z6 DQ (aw (aC CA (cz bR (aw (az 2) (aw (mC (.int 8)) h_))) (mC (.int 7))) h_))))
 (bp (bM 4 (eI 1 [2] (eR (aw (az 3) h_)) (CG 0) CH (cz aK.m (aw (aC C2 (cz bR (aw (az 1) (aw (mC (.int 13)) h_))) (mC (.int 6))) (aw (aC l7 (mC (.int 1)) (cz bR (aw (az 1) (aw (mC (.int 3)) h_)))) h_)))))
 (bp (bM 5 (cz fj.m (aw (az 2) (aw (az 3) h_))))
 (bp (bM 6 (eI 2 [] (MC (aw (az 4) (aw (az 5) h_))) (KZ (Gs (CG 0) (Gs (CG 1) L8)) 2) CH (cz aZ.m (aw (az 0) (aw (az 1) h_)))))
 (bp (bM 7 (cz f8.m (aw (az 2) (aw (az 3) (aw (az 4) (aw (az 5) h_))))))
 (bp (bM 8 (eI 2 [3] (qi (az 7)) (KZ (Gs (CG 0) (Gs (CG 1) L8)) 2) CH (eI 1 [0] (eR (aw (az 2) h_)) (CG 0) CH (Rq (z6 CJ (aw (az 1) h_)) (aw (az 0) (aw (tP (aw (mC (.int 0)) (aw (mC (.int 1)) h_))) h_))))))
 (lh (eR (aw (mC (.int 2)) h_)) (CG 9) (bp (bM 10 (cz fg.m (aw (az 3) (aw (z6 C3 (aw (az 7) h_)) h_))))
 (bp (C6 (KY (mB (aC CC (aC bu (az 10) (mC (.int 0))) (mC (.str "many")))) (pJ (mB (cz cO.m (aw (az 3) (aw (az 7) (aw (az 10) h_))))))) (cB (mC (.bl false))) ox)
 (bp (C6 (KY (mB (aC CC (z6 vl (aw (aC bu (az 10) (mC (.int 2))) h_)) (aC C2 (az 3) (cz fh.m (aw (az 3) (aw (az 8) h_)))))) (KY (pJ (mB (cz fk.m (aw (az 10) (aw (az 4) h_))))) (pJ (mB (cz fk.m (aw (az 10) (aw (az 6) h_))))))) (cB (mC (.bl false))) ox)
 (bp (hU (C7 gQ (aC bu (aC bu (aC bu (az 10) (mC (.int 2))) (mC (.int 0))) (mC (.int 1))) h_))
 (hU (C7 gQ (aC bu (az 10) (mC (.int 1))) h_)))))))))))))))
 (cB (mC (.bl true))))
def Du:List PV->MH->Out PV:=fe 11 1 Ds
end
end Law
namespace Law
open MM PU SetT SortT
open L2 (z9 nk gv)
set_option maxHeartbeats 1000000
def dh:(d6 lo c).length=c:=by simp[d6]
def gn(h:(d6 0 c)[i]?=some x):x=.int (i:Int)/\i<c:=by
 unfold d6 at h;rw[tt,Bv] at h;obtain⟨k,f,rfl⟩:=h;obtain⟨a,b⟩:=tr.mp f;simp at a b;subst b;exact⟨by simp,a⟩
def zU(S:aG->Prop)(P:D->Prop):∀(i:List D) (env:aG) (s:hB),S env ->
  (∀x∈i,∀env s,S env->∃a,g x env=some a/\S a/\t a s=.ok true s/\∃y u,e a s=.ok y u/\P y)->∃r F,cv g t e i env s=.ok r F/\r.length=i.length/\∀y∈r,P y:=by
 intro i
 induction i with
 | nil=>intro env s B f;exact⟨[],s,rfl,rfl,by simp⟩
 | cons x i I =>
  intro env s B f;obtain⟨a,e1,l,e2,y,u,e4,py⟩:=f x (by simp) env s B;obtain⟨r,C,e5,E,G⟩:=I a u l λy H=>f y (m1 x H);refine⟨y::r,C,?_,by simp[E],λz j=>?_⟩
  .rw[cv,e1];dsimp only;rw[e2,Pb];simp only[if_true,e4,Pb,e5]
  .rcases ml.mp j with rfl|j
   .exact py
   .exact G z j
def lA{ws ws':List Nat}{env:aG}{s s0:hB}{fm:List Nat}{i:Xi ws}{e:Xe ws'}{ds:List D}(P:D->Prop)(F:i.p env s=.ok ds s0)(B:ds.length<=100000)
  (a:∀x∈ds,∀s,∃y H,e.p (some x::fm.map λi=>(env[i]?).getD none) s=.ok y H/\P y) (u:ws'.contains 0=false:=by exact ys rfl) (J:DE 1 fm ws=ws':=by exact ys rfl) (j:e.fz=true:=by exact ys rfl) :
  ∃r f,(aO 1 fm i (ia 0 u) f_ e J j).p env s=.ok (.lst r) f/\r.length=ds.length/\∀y∈r,P y:=by
 obtain⟨r,f,e1,E,G⟩:=zU (g:=(ia 0 u:Xg ws').p) (t:=(f_:Xt ws').p) (e:=e.p) (λv=>∃z,v=z::fm.map λi=>(env[i]?).getD none) P ds (xg 1 fm env) s0 ⟨none,rfl⟩ λx I l s ⟨z,j⟩=>by
  subst j;obtain⟨y,C,e2,e3⟩:=a x I s;exact⟨_,rfl,⟨some x,rfl⟩,rfl,y,C,e2,e3⟩
 refine⟨r,f,?_,E,G⟩;rw[j5,F,Pb,d_ B,e1]
def sT{α:Type}{f:α->D}{Q:α->Prop}:∀{ys:List D},(∀y∈ys,∃p,y=f p/\Q p)->∃ps:List α,ys=ps.map f/\∀p∈ps,Q p:=by
 intro ys
 induction ys with
 | nil=>intro _;exact⟨[],rfl,by simp⟩
 | cons y ys r =>
  intro h;obtain⟨ps,e,i⟩:=r λy l=>h y (m1 _ l);obtain⟨p,rfl,j⟩:=h y (by simp);refine⟨p::ps,by rw[e];rfl,λk a=>?_⟩;rcases ml.mp a with rfl|a
  .exact j
  .exact i k a
def mV(e1:a.p env s=.ok as s1)(e2:env[i]?=some (some (.lst ds)))(e3:o.p ds as=some (r,ds')):(Fd o i a hi hz).p env s=.nx (env.set i (some (.lst ds'))) s1:=by
 rw[M6,uX e1 e2 e3]
abbrev nD(t b:Int):D:=.tup [.int t,.int b]
def kP(f:0<=a)(i:0<=b):Int.gcd b (a % b)=Int.gcd a b:=by
 obtain⟨m,rfl⟩:=S2 f;obtain⟨n,rfl⟩:=S2 i;show Nat.gcd n (m % n)=Nat.gcd m n;rw[Nat.gcd_comm m n,Nat.gcd_rec n m,Nat.gcd_comm]
def nz(f:0<b):og.p (.int a) (.int b)=some (.int (a % b)):=by
 rw[vL (by lia),Lb _ (by lia)]
def jN(f:b≠0):C8.p (.int a) (.int b)=some (.int (a.fdiv b)):=d_ f
def fu(f:0<b):C8.p (.int a) (.int b)=some (.int (a / b)):=by
 rw[jN (by lia),Int.fdiv_eq_ediv_of_nonneg _ (by lia)]
def J1:(if a<0 then -a else a)=(a.natAbs:Int):=by split <;> lia
def t8:pN.p [.int a]=some (.int (a.natAbs:Int)):=by
 show some (D.int (if a<0 then -a else a))=_;rw[J1]
def yx{a:List Nat}{N:Nat}{t:Xt a}{b:Xd a}(f:∀{Z h n},ck t.m b.m n Z h≠.bad->Iy t.m b.m Z h=ck t.m b.m n Z h){env:aG}{s:hB}:(MX N t b f).p env s=dU t.p b.p N env s:=rfl
def sj{b r:Int}(a:0<r)(i:r<b):0<=b % r/\b % r<r/\2 * (b % r)<b:=by
 have y:=Lp b (show r≠0 by lia);have j:=Lj b a;have u:=Int.mul_ediv_add_emod b r;have f:1<=b / r:=by rw[Int.le_ediv_iff_mul_le a];lia
 have l:r * 1<=r * (b / r):=Int.mul_le_mul_of_nonneg_left f (by lia);lia
def fi(h:0<=a):((Int.gcd a 0:Nat):Int)=a:=by rw[Int.gcd_zero_right];lia
def NY(f:0<b):dU ua.p uu.p (n+1) [x,y,some (.int a),some (.int b)] s=dU ua.p uu.p n [x,y,some (.int b),some (.int (a % b))] s:=by
 rw[dU];simp[nz f,f,PR.bl]
def J2:dU ua.p uu.p (n+1) [x,y,some (.int a),some (.int 0)] s=.nx [x,y,some (.int a),some (.int 0)] s:=by
 rw[dU];simp[PR.bl]
def wI:∀(k n:Nat) (a b:Int),0<=a->0<=b->b<2 ^ k->2 * k+1<=n->dU ua.p uu.p n [x,y,some (.int a),some (.int b)] s=.nx [x,y,some (.int (Int.gcd a b)),some (.int 0)] s:=by
 intro k
 induction k with
 | zero =>
  intro n a b i j u C;obtain⟨m,rfl⟩:∃m,n=m+1:=⟨n - 1,by lia⟩
  have:b=0:=by simp at u;lia
  subst this;rw[J2,fi i]
 | succ k F =>
  intro n a b i j u C;obtain⟨m,rfl⟩:∃m,n=m+1+1:=⟨n - 2,by lia⟩;by_cases e:b=0
  .subst e;rw[J2,fi i]
  .have f:0<b:=by lia
   rw[NY f,<-kP i j];have l:=Lp a e;have z:=Lj a f;generalize a % b=r at l z ⊢;by_cases B:r=0
   .subst B;rw[J2,fi j]
   .obtain⟨E,G,H⟩:=sj (b:=b) (r:=r) (by lia) z;rw[NY (by lia),<-kP j l];refine F m r (b % r) l E ?_ (by lia);rw[Int.pow_succ] at u;lia
abbrev qD(q:Rat):D:=nD q.num (q.den:Int)
def sz(q:Rat):Nat:=max (q.num.natAbs.log2+1) (q.den.log2+1)
def zP(n:Nat):n<2 ^ (n.log2+1):=Nat.lt_log2_self
def cD(q:Rat):q.num.natAbs<2 ^ sz q:=xv (zP _) (Eo (by decide) (Qp _ _))
def bC(q:Rat):q.den<2 ^ sz q:=xv (zP _) (Eo (by decide) (Qi _ _))
def sR(a:0<k)(h:n<2 ^ k):n.log2+1<=k:=by
 rcases P9 n with e|e
 .subst e;simp only[Nat.log2_zero];lia
 .exact (Nat.log2_lt (by lia)).mpr h
def yC(a:0<k)(f:q.num.natAbs<2 ^ k)(i:q.den<2 ^ k):sz q<=k:=Nat.max_le.mpr ⟨sR a f,sR a i⟩
def zc(q:Rat):0<sz q:=xv (Nat.succ_pos _) (Qp _ _)
def mR(t:Int)(b:Nat)(a:b≠0):(Rat.divInt t b).num=t / (Nat.gcd t.natAbs b:Int)/\(Rat.divInt t b).den=b / Nat.gcd t.natAbs b:=by
 rw[Rat.divInt_ofNat];unfold mkRat;rw[dif_neg a,Rat.normalize_eq];exact⟨rfl,rfl⟩
def FF{t:Int}{g:Nat}:(t / (g:Int)).natAbs<=t.natAbs:=Int.natAbs_ediv_le_natAbs t g
def iO{t:Int}{b k:Nat}(i:b≠0)(j:0<k)(a:t.natAbs<2 ^ k)(f:b<2 ^ k):sz (Rat.divInt t b)<=k:=by
 obtain⟨e1,e2⟩:=mR t b i;refine yC j ?_ ?_
 .rw[e1];exact KN FF a
 .rw[e2];exact KN (Lq _ _) f
def wL(p q:Rat):p+q=Rat.divInt (p.num * q.den+q.num * p.den) ((p.den * q.den:Nat):Int):=by
 have:=Rat.divInt_add_divInt p.num q.num (d₁:=p.den) (d₂:=q.den) (by have:=p.den_nz;lia) (by have:=q.den_nz;lia)
 rw[Rat.num_divInt_den,Rat.num_divInt_den] at this;rw[this];push_cast;rfl
def vT(p q:Rat):p * q=Rat.divInt (p.num * q.num) ((p.den * q.den:Nat):Int):=by
 have:=Rat.divInt_mul_divInt p.num q.num (d₁:=p.den) (d₂:=q.den)
 rw[Rat.num_divInt_den,Rat.num_divInt_den] at this;rw[this];push_cast;rfl
def cM(f:a<2 ^ j)(i:b<2 ^ k):a * b<2 ^ (j+k):=by
 rw[OS];exact Nat.mul_lt_mul'' f i
def J3{a b c d:Int}{j k:Nat}(f:a.natAbs<2 ^ j)(i:b.natAbs<2 ^ k)(r:c.natAbs<2 ^ k)(l:d.natAbs<2 ^ j):(a * b+c * d).natAbs<2 ^ (j+k+1):=by
 have e1:=cM f i;have e2:=cM r l;have e3:=Int.natAbs_add_le (a * b) (c * d);rw[DK,DK] at e3;rw[Nat.add_comm k j] at e2;rw[Qw];lia
def iX(p q:Rat):sz (p+q)<=sz p+sz q+1:=by
 rw[wL];refine iO (OH p.den_nz q.den_nz) (by lia) ?_ ?_
 .exact J3 (cD p) (by simpa using bC q) (cD q) (by simpa using bC p)
 .have:=cM (bC p) (bC q)
  rw[Qw];lia
def eA(p q:Rat):sz (p * q)<=sz p+sz q:=by
 rw[vT];refine iO (OH p.den_nz q.den_nz) (by have:=zc p;lia) ?_ (cM (bC p) (bC q));rw[DK];exact cM (cD p) (cD q)
def J4(p:Rat):sz (-p)=sz p:=by
 unfold sz;rw[Rat.neg_num,Rat.neg_den,KR]
local macro_rules | `(tactic| simp! [$a,*]) => `(tactic| simp only [$a,*, Pb, ae, af])
local macro_rules | `(tactic| dsimp! [$a,*]) => `(tactic| simp only [$a,*, PU.ak, Pg, r_, si])
def kg{t:Int}{b k:Nat}{s:hB}(l:b≠0)(B:b<2 ^ k)(C:k<=950000):aK.p [.int t,.int (b:Int)] s=.ok (qD (Rat.divInt t b)) s:=by
 obtain⟨e1,e2⟩:=mR t b l;have f:((b:Nat):Int)<2 ^ k:=by
  have:=OQ.mpr B
  simpa using this
 have i:0<(Nat.gcd t.natAbs b:Int):=by
  have:0<Nat.gcd t.natAbs b:=P2 _ (by lia)
  lia
 rw[nt (by rfl)];unfold eJ;have r:mh 4 [D.int t,.int (b:Int)]=[some (.int t),some (.int (b:Int)),none,none]:=rfl;have q:=wI (x:=some (.int t)) (y:=some (.int (b:Int))) (s:=s) k 2000000 (t.natAbs:Int) ((b:Int).natAbs:Int) (by lia) (by lia) (by simpa using f) (by lia);rw[r];simp![av,y0,ag,ah,bq,t8,Pf,Pg,si,r_,PU.ak];rw[yx lT];refine (congrArg (λz:PS=>(z.then _).fin) q).trans ?_;rw[S3,Hg];have j:=fu (a:=t) i;have u:=fu (a:=(b:Int)) i;rw[qD,e1,e2];simp[PR.bl,show ¬(b:Int)<0 by lia,j,u]
def wH(h:a.natAbs<2 ^ k)(f:k<=1000000):Builtin.Int.intBits a<=2 ^ 20:=by
 unfold Builtin.Int.intBits;rcases P9 k with e|e
 .subst e
  have:a.natAbs=0:=by simpa using h
  rw[this];split <;> simp
 .have:=sR e h
  split <;> lia
def cQ{a b:Int}{j k:Nat}(f:a.natAbs<2 ^ j)(i:b.natAbs<2 ^ k)(r:j<=1000000:=by lia)(l:k<=1000000:=by lia):cH.p (.int a) (.int b)=some (.int (a * b)):=d_ (IntMulOk.of_bits (wH f r) (wH i l))
def z0{x y:D}:nk [x,y] 0=some x:=rfl
def z1{x y:D}:nk [x,y] 1=some y:=rfl
def j8(h:sz p+sz q<=900000):aZ.p [qD p,qD q] s=.ok (qD (p+q)) s:=by
 have u:=cD p;have f:=bC p;have r:=cD q;have i:=bC q;rw[zX (by rfl)];unfold iL;rw[show mh 2 [qD p,qD q]=[some (qD p),some (qD q)] from rfl];have l:=kg (t:=p.num * q.den+q.num * p.den) (b:=p.den * q.den) (s:=s) (OH p.den_nz q.den_nz) (cM (bC p) (bC q)) (by lia);rw[<-wL,OI] at l
 simp![bA,aB,ag,au,aL,aD,bz,z0,z1,Pf,ah,cQ (b:=(q.den:Int)) (k:=sz q) u (by simpa using i),cQ (b:=(p.den:Int)) (k:=sz p) r (by simpa using f),cN,l,Pg,PU.bi,cQ (a:=(p.den:Int)) (b:=(q.den:Int)) (j:=sz p) (k:=sz q) (by simpa using f) (by simpa using i)]
def io(h:sz p+sz q<=900000):bv.p [qD p,qD q] s=.ok (qD (p * q)) s:=by
 have r:=cD p;have f:=bC p;have i:=cD q;have u:=bC q;rw[yb (by rfl)];unfold gN;rw[show mh 2 [qD p,qD q]=[some (qD p),some (qD q)] from rfl];have l:=kg (t:=p.num * q.num) (b:=p.den * q.den) (s:=s) (OH p.den_nz q.den_nz) (cM (bC p) (bC q)) (by lia);rw[<-vT,OI] at l;simp![bA,aB,ag,au,aL,aD,bz,z0,z1,Pf,ah,cQ r i,cQ (a:=(p.den:Int)) (b:=(q.den:Int)) (j:=sz p) (k:=sz q) (by simpa using f) (by simpa using u),l,Pg,PU.bi]
def BS{t:Int}{b:Nat}(a:b≠0)(f:t.natAbs<=1000000)(i:b<=1000000):sz (Rat.divInt t b)<=20:=iO a (by decide) (by lia) (by lia)
def qL(i:1<=b)(a:t.natAbs<=1000000)(f:b<=1000000):∃q:Rat,aK.p [.int t,.int b] s=.ok (qD q) s/\sz q<=20:=by
 obtain⟨n,rfl⟩:=j4 (show 0<=b by lia);exact⟨_,kg (k:=20) (by lia) (by lia) (by lia),BS (by lia) a (by lia)⟩
def Cu:∃q F,fH.p [.pen] s=.ok (qD q) F/\sz q<=20:=by
 obtain⟨w,z,P,O,q1⟩:=bV (s:=s) (size:=8) (by decide) (by decide);rw[vd (by rfl)];unfold fL;rw[show mh 2 [D.pen]=[some .pen,none] from rfl];by_cases B:w=7
 .subst B;obtain⟨a,y,J,L,u⟩:=bV (s:=z) (size:=2 * 10 ^ 6 - 1) (by decide) (by decide);obtain⟨b,f,E,C,i⟩:=bV (s:=y) (size:=10 ^ 6 - 1) (by decide) (by decide);obtain⟨q,l,r⟩:=qL (t:=a - 10 ^ 6+1) (b:=1+b) (s:=f) (by lia) (by lia) (by lia);refine⟨q,f,?_,r⟩;have H:td.p (.int 10) (.int 6)=some (.int (10 ^ 6)):=d_ ⟨by decide,by decide,by decide⟩;have I:cH.p (.int 2) (.int (10 ^ 6))=some (.int (2 * 10 ^ 6)):=cQ (j:=2) (k:=20) (by decide) (by decide);simp![av,aN,aB,ag,aL,aD,ah,q1,Pg,si,r_,PU.ak,ca,bO,au,eM,bE,Pf,PR.bl,decide_true,if_true,bA,su,if_false,H,I,dR,u,cN,i,l,PU.md,PU.bi]
 .obtain⟨m,em,G,M⟩:∃m:Int,nk [D.int 1,.int 1,.int 5] (w % 3)=some (.int m)/\0<m/\m<=5:=by
   obtain e|e | e:w % 3=0\/w % 3=1\/w % 3=2:=by lia
   .rw[e];exact⟨1,rfl,by decide,by decide⟩
   .rw[e];exact⟨1,rfl,by decide,by decide⟩
   .rw[e];exact⟨5,rfl,by decide,by decide⟩
  obtain⟨a,y,J,L,u⟩:=bV (s:=z) (size:=13) (by decide) (by decide);obtain⟨b,f,E,C,i⟩:=bV (s:=y) (size:=m) G (by lia);obtain⟨q,l,r⟩:=qL (t:=a - 6) (b:=1+b) (s:=f) (by lia) (by lia) (by lia);refine⟨q,f,?_,r⟩;simp![av,aN,aB,ag,aL,aD,ah,q1,Pg,si,r_,PU.ak,ca,bO,au,eM,bE,Pf,PR.bl,decide_eq_false B,if_true,bA,su,if_false,nz (show (0:Int)<3 by decide),eE,pk,tx,show (0+1+1+1:Nat)<=100000 by decide,bF,em,dR,u,cN,i,l,ce,PU.bi]
def J5:∃q u,iQ.p [.pen] s=.ok (qD q) u/\sz q<=20/\q≠0:=by
 obtain⟨q,r,q1,l⟩:=Cu (s:=s);obtain⟨a,j,B,C,i⟩:=bV (s:=r) (size:=9) (by decide) (by decide);have f:(((1+a:Int):Int):Rat).num=1+a/\(((1+a:Int)):Rat).den=1:=⟨rfl,rfl⟩;rw[y9 (by rfl)];unfold iC;rw[show mh 2 [D.pen]=[some .pen,none] from rfl];have e:∀x y:D,∀b:Bool,nk [x,y] (if b then 1 else 0)=some (if b then y else x):=λx y b=>by cases b <;> rfl
 refine⟨if decide (q.num=0)=true then ((1+a:Int):Rat) else q,j,?_,?_,?_⟩
 .simp![av,aN,aB,ag,aL,aD,ah,q1,Pg,si,r_,PU.ak,bA,au,eE,bH,i,cN,Pf,pk,tx,show (0+1+1:Nat)<=100000 by decide,if_true,bq,bz,z0,eM,bE,su,if_false,j3,bF,e,PU.bi];cases decide (q.num=0)
  .rfl
  .rfl
 .split
  .refine yC (by decide) ?_ ?_
   .show (1+a).natAbs<_;lia
   .show 1<_;decide
  .exact l
 .split
  .intro z
   have:(((1+a:Int):Int):Rat).num=0:=by rw[z];rfl
   rw[f.1] at this;lia
  .rename_i h
   intro z;exact h (by rw[z];rfl)
def bT(a:Rat)(l:List (Rat × Rat)):Rat:=l.foldl (λs p=>s+p.1 * p.2) a
abbrev se(l:List (Rat × Rat)):Rat:=bT 0 l
def wt(p:Rat × Rat):Nat:=sz p.1+sz p.2+1
def tot(l:List (Rat × Rat)):Nat:=(l.map wt).sum
def nE:tot (p::l)=wt p+tot l:=by simp[tot]
def uB(a:l.length<=m)(h:∀p∈l,wt p<=c):tot l<=m * c:=by
 have:tot l<=l.length * c:=by
  clear a
  induction l with
  | nil=>simp[tot]
  | cons p l f =>
   have j:=h p (by simp);have r:=f λq i=>h q (m1 _ i);rw[nE,pk,Eh];lia
 exact yi this (Hf _ a)
def vC:∀(l:List (Rat × Rat)) (a:Rat),sz (bT a l)<=sz a+tot l
 | [],a=>by simp[bT,tot]
 | p::l,a=>by
  have h:=vC l (a+p.1 * p.2);have f:=iX a (p.1 * p.2);have i:=eA p.1 p.2;rw[nE];show sz (bT (a+p.1 * p.2) l)<=_;unfold wt;lia
def DW:sz 0=1:=by decide +kernel
def Um:sz 1=1:=by decide +kernel
def zN(l:List (Rat × Rat)):sz (se l)<=1+tot l:=by have:=vC l 0;rw[DW] at this;exact this
abbrev Pt:=Nat × Rat
abbrev rz(p:Pt):D:=.tup [.int (p.1:Int),qD p.2]
abbrev Rw:=List Pt × Rat
abbrev CW(r:Rw):D:=.tup [.tup (r.1.map rz),qD r.2]
abbrev lD(xs:List Rat):D:=.lst (xs.map qD)
abbrev k_(rs:List Rw):D:=.lst (rs.map CW)
def oy(ps:List Pt)(xs:List Rat):List (Rat × Rat):=ps.map λp=>(p.2,xs.getD p.1 0)
def eU{xs:List Rat}{i:Nat}(h:i<xs.length):nk (xs.map qD) (i:Int)=some (qD (xs.getD i 0)):=by
 refine L2.cW ?_;rw[tt,p_ h,o_,p_ h];rfl
def wR{P:Option D}{xs:List Rat}{s:hB}:∀(ps:List Pt) (a:Rat) (j l:Option D),(∀p∈ps,p.1<xs.length)->sz a+tot (oy ps xs)<=900000 ->
  ∃f i:Option D,C4 TQ.p Sg.p (ps.map rz) [P,some (lD xs),some (qD a),j,l] s=.nx [P,some (lD xs),some (qD (bT a (oy ps xs))),f,i] s
 | [],a,j,l,_,_=>⟨j,l,rfl⟩
 | p::ps,a,j,l,h,B=>by
  have r:oy (p::ps) xs=(p.2,xs.getD p.1 0)::oy ps xs:=rfl;rw[r,nE] at B;have C:wt (p.2,xs.getD p.1 0)=sz p.2+sz (xs.getD p.1 0)+1:=rfl;have m:=eA p.2 (xs.getD p.1 0);have ad:=iX a (p.2 * xs.getD p.1 0);obtain⟨f,i,q⟩:=wR (P:=P) (s:=s) ps (a+p.2 * xs.getD p.1 0) (some (.int (p.1:Int))) (some (qD p.2)) (λy z=>h y (m1 _ z)) (by lia);refine⟨f,i,?_⟩;have t:=io (p:=p.2) (q:=xs.getD p.1 0) (s:=s) (by lia);have u:=j8 (p:=a) (q:=p.2 * xs.getD p.1 0) (s:=s) (by lia);have e1:Sg.p [P,some (lD xs),some (qD a),some (.int (p.1:Int)),some (qD p.2)] s=.nx [P,some (lD xs),some (qD (a+p.2 * xs.getD p.1 0)),some (.int (p.1:Int)),some (qD p.2)] s:=by
   simp![aN,aB,ag,au,bF,eU (h p (by simp)),Pf,ah,t,u,Pg,si,r_]
  rw[m3,d3 (env1:=[P,some (lD xs),some (qD a),some (.int (p.1:Int)),some (qD p.2)]) (by rfl),e1,r];exact q
def mM(h:∀p∈ps,p.1<xs.length)(i:tot (oy ps xs)<=890000):bw.p [.tup (ps.map rz),lD xs] s=.ok (qD (se (oy ps xs))) s:=by
 rw[xj (by rfl)];unfold gJ;rw[show mh 5 [D.tup (ps.map rz),lD xs]=[some (.tup (ps.map rz)),some (lD xs),none,none,none] from rfl];obtain⟨a,f,q⟩:=wR (P:=some (.tup (ps.map rz))) (s:=s) ps 0 none none h (by rw[DW];lia);dsimp![av,aN,bH,ag,aL,aD,ah,Pb,pk,tx,show (0+1+1:Nat)<=100000 by decide,if_true,cF,bI,ae,show (D.tup (ps.map rz)).items=some (ps.map rz) from rfl,Pf];refine (congrArg (λz:PS=>(z.then _).fin) q).trans ?_;simp
def lg{α:Type}{g:D->aG->Option aG}{t:aG->hB->PR Bool}{e:aG->hB->PR D}{s:hB}(S:aG->Prop)(item i:α->D)(p:α->Bool):∀(l:List α) (env:aG),S env ->
  (∀x∈l,∀env,S env->∃a,g (item x) env=some a/\S a/\t a s=.ok (p x) s/\(p x=true->e a s=.ok (i x) s))->cv g t e (l.map item) env s=.ok ((l.filter p).map i) s
 | [],env,u,f=>rfl
 | x::l,env,u,f=>by
  obtain⟨a,e1,r,e2,e3⟩:=f x (by simp) env u;have z:=lg S item i p l a r λy B=>f y (m1 _ B);rw[m3,cv,e1];dsimp only;rw[e2]
  cases j:p x with
  | true=>simp only[Pb,if_true,e3 j,z,List.filter_cons_of_pos j,m3]
  | false=>simp only[Pb,su,if_false,z,List.filter_cons_of_neg (show ¬p x=true by simp[j])]
def bN{α:Type}{ws ws':List Nat}{env:aG}{s s0:hB}{fm:List Nat}{i:Xi ws}{t:Xt ws'}{e:Xe ws'}{l:List α}(item a:α->D)(p:α->Bool)(B:i.p env s0=.ok (l.map item) s)(y:l.length<=100000)
  (f:∀x∈l,t.p (some (item x)::fm.map λi=>(env[i]?).getD none) s=.ok (p x) s/\(p x=true->e.p (some (item x)::fm.map λi=>(env[i]?).getD none) s=.ok (a x) s)) (u:ws'.contains 0=false:=by exact ys rfl) (E:DE 1 fm ws=ws':=by exact ys rfl) (j:e.fz=true:=by exact ys rfl) :
  (aO 1 fm i (ia 0 u) t e E j).p env s0=.ok (.lst ((l.filter p).map a)) s:=by
 rw[j5,B,Pb,d_ (by simpa using y)]
 have:=lg (g:=(ia 0 u:Xg ws').p) (t:=t.p) (e:=e.p) (s:=s) (λv=>∃z,v=z::fm.map λi=>(env[i]?).getD none) item a p l (xg 1 fm env) ⟨none,rfl⟩ λx C r ⟨z,j⟩=>by
  subst j;exact⟨_,rfl,⟨some (item x),rfl⟩,f x C⟩
 rw[this]
def eD{α:Type}{ws ws':List Nat}{env:aG}{s s0:hB}{fm:List Nat}{i:Xi ws}{t:Xt ws'}{e:Xe ws'}{l:List α}(A B:α->D)(a:α->D)(p:α->Bool)(F:i.p env s0=.ok (l.map λx=>.tup [A x,B x]) s)(E:l.length<=100000)
  (f:∀x∈l,t.p (some (A x)::some (B x)::fm.map λi=>(env[i]?).getD none) s=.ok (p x) s/\(p x=true->e.p (some (A x)::some (B x)::fm.map λi=>(env[i]?).getD none) s=.ok (a x) s)) (C:ws'.contains 0=false:=by exact ys rfl) (u:ws'.contains 1=false:=by exact ys rfl) (H:DE 2 fm ws=ws':=by exact ys rfl) (j:e.fz=true:=by exact ys rfl) :
  (aO 2 fm i (w_ (n7 (ia 0 C) (n7 (ia 1 u) w9)) 2) t e H j).p env s0=.ok (.lst ((l.filter p).map a)) s:=by
 rw[j5,F,Pb,d_ (by simpa using E)]
 have:=lg (g:=(w_ (n7 (ia 0 C) (n7 (ia 1 u) w9)) 2:Xg ws').p) (t:=t.p) (e:=e.p) (s:=s) (λv=>∃y z,v=y::z::fm.map λi=>(env[i]?).getD none) (λx=>.tup [A x,B x]) a p l (xg 2 fm env) ⟨none,none,rfl⟩ λx G r ⟨y,z,j⟩=>by
  subst j;exact⟨_,rfl,⟨some (A x),some (B x),rfl⟩,f x G⟩
 rw[this]
def q1:qD 1=.tup [.int 1,.int 1]:=rfl
@[simp] theorem rF:(Fg i j:Xe ws).p env s=.ok (.tup [.int i,.int j]) s:=rfl
def e_(ps:List Pt)(j:Nat):Rat:=((ps.find? λp=>p.1 == j).map (·.2)).getD 0
def mx(f:List Rw)(a:List Rat)(j:Nat):List (Rat × Rat):=(f.zip a).map λp=>(e_ p.1.1 j,p.2)
def rg(f:List Rw)(a:List Rat):List (Rat × Rat):=(f.zip a).map λp=>(p.1.2,p.2)
structure jp (n:Nat) (r:Rw):Prop where
 nd:(r.1.map (·.1)).Nodup
 lt:∀p∈r.1,p.1<n
def Cc(ps:List Pt):jV (ps.map rz)=some (ps.map λp=>((p.1:Int),qD p.2)):=by
 induction ps with
 | nil=>rfl
 | cons p ps a=>rw[m3,jV,a];rfl
def NZ{ps:List Pt}(nd:(ps.map (·.1)).Nodup):K5 (.tup (ps.map rz))=some (ps.map λp=>((p.1:Int),qD p.2)):=by
 simp only[K5,Cc];rw[d_];rw[oF]
 have:((·.1)∘λp:Pt=>((p.1:Int),qD p.2))=(λn:Nat=>(n:Int))∘(·.1):=rfl
 rw[this,<-oF];exact Dv.mpr (List.Pairwise.imp (λh e=>h (Int.ofNat_inj.mp e)) nd)
def im{α β:Type}(f:α->D)(g:β->D)(xs:List α)(ys:List β):gU (xs.map f) (ys.map g)=(xs.zip ys).map λp=>.tup [f p.1,g p.2]:=by
 unfold gU;rw[List.zip_map,oF];rfl
def mU{α β:Type}{xs:List α}{ys:List β}{m:Nat}(h:xs.length<=m):(xs.zip ys).length<=m:=by
 rw[Hi];lia
def dC(n:Nat):d6 0 n=(List.range n).map λ(j:Nat)=>D.int (j:Int):=by simp[d6]
def eP(f:List Rat)(i:Nat)(q:Rat):List Rat:=f.set i (f.getD i 0+q)
def t_(f:List Rat)(ps:List Pt)(m:Rat):List Rat:=ps.foldl (λf p=>eP f p.1 (p.2 * m)) f
def bx(n:Nat)(f:List Rat)(p:Rw × Rat):List Rat:=eP (t_ f p.1.1 p.2) n (p.1.2 * p.2)
def x_(n:Nat)(f:List Rw)(a:List Rat):List Rat:=(f.zip a).foldl (bx n) (List.replicate (n+1) 0)
def i8:(eP f i q).length=f.length:=by simp[eP]
def jd:∀{ps:List Pt} {f:List Rat},(t_ f ps m).length=f.length
 | [],_=>rfl
 | p::ps,f=>(jd (ps:=ps) (f:=eP f p.1 (p.2 * m))).trans i8
def o6(h:i<f.length):(eP f i q).getD i 0=f.getD i 0+q:=by
 simp[eP,o_,h]
def ku(h:i≠j):(eP f i q).getD j 0=f.getD j 0:=by
 simp only[eP,o_];rw[o0 h]
def ft:e_ (p::ps) j=if p.1=j then p.2 else e_ ps j:=by
 unfold e_;rw[Lo];by_cases z:p.1=j
 .simp[z]
 .rw[g_ z,show (p.1 == j)=false by simpa using z]
def dE(h:j∉ps.map (·.1)):e_ ps j=0:=by
 induction ps with
 | nil=>rfl
 | cons p ps a =>
  rw[ft,g_ λz=>h (by simp[z]),a λz=>h (by simp only[m3,ml];exact .inr z)]
def iF:∀{ps:List Pt} {f:List Rat},(ps.map (·.1)).Nodup->(∀p∈ps,p.1<f.length)->(t_ f ps m).getD j 0=f.getD j 0+e_ ps j * m
 | [],f,_,_=>by show f.getD j 0=f.getD j 0+0 * m;grind
 | p::ps,f,nd,lt=>by
  rw[m3,CU] at nd;have a:=iF (m:=m) (j:=j) (ps:=ps) (f:=eP f p.1 (p.2 * m)) nd.2 λq i=>by rw[i8];exact lt q (m1 _ i)
  show (t_ (eP f p.1 (p.2 * m)) ps m).getD j 0=_;rw[a,ft];by_cases z:p.1=j
  .subst z;rw[d_ rfl,dE nd.1,o6 (lt p (by simp))]
   grind
  .rw[g_ z,ku z]
def mJ:(bx n f p).length=f.length:=i8.trans jd
def J6(hf:f.length=n+1)(ok:jp n p.1)(i:j<n):(bx n f p).getD j 0=f.getD j 0+e_ p.1.1 j * p.2:=by
 unfold bx;rw[ku (by lia),iF ok.nd λq a=>by have:=ok.lt q a;lia]
def uN(hf:f.length=n+1)(ok:jp n p.1):(bx n f p).getD n 0=f.getD n 0+p.1.2 * p.2:=by
 unfold bx
 rw[o6 (by rw[jd];lia),iF ok.nd λq a=>by have:=ok.lt q a;lia,dE λz=>by
  obtain⟨q,a,e⟩:=mu.mp z
  have:=ok.lt q a
  lia]
 grind
def wo(a:j<n):∀(l:List (Rw × Rat)) (f:List Rat),f.length=n+1->(∀p∈l,jp n p.1)->(l.foldl (bx n) f).getD j 0=bT (f.getD j 0) (l.map λp=>(e_ p.1.1 j,p.2))
 | [],f,_,_=>rfl
 | p::l,f,hf,ok=>by
  show (l.foldl (bx n) (bx n f p)).getD j 0=bT (f.getD j 0+e_ p.1.1 j * p.2) _;rw[wo a l _ (mJ.trans hf) λq i=>ok q (m1 _ i),J6 hf (ok p (by simp)) a]
def qB:∀(l:List (Rw × Rat)) (f:List Rat),f.length=n+1->(∀p∈l,jp n p.1)->(l.foldl (bx n) f).getD n 0=bT (f.getD n 0) (l.map λp=>(p.1.2,p.2))
 | [],f,_,_=>rfl
 | p::l,f,hf,ok=>by
  show (l.foldl (bx n) (bx n f p)).getD n 0=bT (f.getD n 0+p.1.2 * p.2) _;rw[qB l _ (mJ.trans hf) λq a=>ok q (m1 _ a),uN hf (ok p (by simp))]
def nA:∀(l:List (Rw × Rat)) (f:List Rat),(l.foldl (bx n) f).length=f.length
 | [],f=>rfl
 | p::l,f=>(nA l (bx n f p)).trans mJ
def qh:(List.replicate n (0:Rat)).getD j 0=0:=by
 simp only[o_,He];split <;> rfl
def uH{n:Nat}{a:List Rw}{f:List Rat}(ok:∀r∈a,jp n r):∀p∈a.zip f,jp n p.1:=λp i=>ok p.1 (DI i).1
def wV:(x_ n rs ms).length=n+1:=(nA _ _).trans (by simp)
def zh{n j:Nat}{a:List Rw}{f:List Rat}(ok:∀r∈a,jp n r)(i:j<n):(x_ n a f).getD j 0=se (mx a f j):=by
 unfold x_;rw[wo i _ _ (by simp) (uH ok),qh];rfl
def Bp{n:Nat}{a:List Rw}{f:List Rat}(ok:∀r∈a,jp n r):(x_ n a f).getD n 0=se (rg a f):=by
 unfold x_;rw[qB _ _ (by simp) (uH ok),qh];rfl
def cw(r:Rw)(m:Rat):Nat:=r.1.foldr (λp c=>max (wt (p.2,m)) c) (wt (r.2,m))
def wl:∀{ps:List Pt},(∀p∈ps,wt (p.2,m)<=c)->b<=c->ps.foldr (λp c=>max (wt (p.2,m)) c) b<=c
 | [],_,a=>a
 | p::ps,h,a=>Nat.max_le.mpr ⟨h p (by simp),wl (λq f=>h q (m1 _ f)) a⟩
def pR:∀{ps:List Pt},(∀p∈ps,wt (p.2,m)<=ps.foldr (λp c=>max (wt (p.2,m)) c) b)/\b<=ps.foldr (λp c=>max (wt (p.2,m)) c) b
 | []=>⟨by simp,j_ _⟩
 | p::ps=>by
  obtain⟨f,i⟩:=pR (m:=m) (b:=b) (ps:=ps);refine⟨λq a=>?_,yi i (Qi _ _)⟩;rcases ml.mp a with rfl|a
  .exact Qp _ _
  .exact yi (f q a) (Qi _ _)
def GZ(h:p∈r.1):wt (p.2,m)<=cw r m:=pR.1 p h
def G0:wt (r.2,m)<=cw r m:=pR.2
def oZ:e_ ps j=0\/∃p∈ps,e_ ps j=p.2:=by
 induction ps with
 | nil=>exact .inl rfl
 | cons p ps a =>
  rw[ft];by_cases z:p.1=j
  .rw[d_ z];exact .inr ⟨p,by simp,rfl⟩
  .rw[g_ z];rcases a with h|⟨q,f,h⟩
   .exact .inl h
   .exact .inr ⟨q,m1 _ f,h⟩
def TW(l:List (Rw × Rat)):Nat:=(l.map λp=>cw p.1 p.2).sum
def pj:TW (p::l)=cw p.1 p.2+TW l:=by simp[TW]
def zK:TW (l++m)=TW l+TW m:=by simp[TW]
def xh{f:List Rat}{i:Nat}{q:Rat}:(f.map qD).set i (qD q)=(f.set i q).map qD:=by rw[Qx]
def vV{N R:Option D}{a:List Rat}{k:Nat}{s:hB}{B c:Nat}(I:k<a.length)(J:B+c<=900000):∀(ps:List Pt) (f:List Rat) (E C:Option D),(ps.map (·.1)).Nodup->(∀p∈ps,p.1<f.length)->(∀p∈ps,sz (f.getD p.1 0)<=B)->(∀p∈ps,wt (p.2,a.getD k 0)<=c) ->
  ∃l i:Option D,C4 TR.p Sh.p (ps.map rz) [N,R,some (lD a),some (lD f),some (.int (k:Int)),E,C] s=.nx [N,R,some (lD a),some (lD (t_ f ps (a.getD k 0))),some (.int (k:Int)),l,i] s
 | [],f,E,C,_,_,_,_=>⟨E,C,rfl⟩
 | p::ps,f,E,C,nd,lt,F,H=>by
  rw[m3,CU] at nd;have w:wt (p.2,a.getD k 0)=sz p.2+sz (a.getD k 0)+1:=rfl;have O:=H p (by simp);have M:=F p (by simp);have L:=eA p.2 (a.getD k 0);have G:=lt p (by simp)
  obtain⟨l,i,q⟩:=vV (N:=N) (R:=R) (s:=s) I J ps (eP f p.1 (p.2 * a.getD k 0)) (some (.int (p.1:Int))) (some (qD p.2)) nd.2 (λy r=>by rw[i8];exact lt y (m1 _ r)) (λy r=>by
   have ne:p.1≠y.1:=λz=>nd.1 (mu.mpr ⟨y,r,z.symm⟩)
   rw[ku ne];exact F y (m1 _ r)) λy r=>H y (m1 _ r)
  refine⟨l,i,?_⟩;have t:=io (p:=p.2) (q:=a.getD k 0) (s:=s) (by lia);have u:=j8 (p:=f.getD p.1 0) (q:=p.2 * a.getD k 0) (s:=s) (by lia);have e1:Sh.p [N,R,some (lD a),some (lD f),some (.int (k:Int)),some (.int (p.1:Int)),some (qD p.2)] s=.nx [N,R,some (lD a),some (lD (eP f p.1 (p.2 * a.getD k 0))),some (.int (k:Int)),some (.int (p.1:Int)),some (qD p.2)] s:=by
   rw[lU,iw (v:=qD (f.getD p.1 0+p.2 * a.getD k 0)) (s1:=s) (j:=(p.1:Int)) (s2:=s) (ds:=f.map qD) (n:=p.1) (by
    simp![aB,ag,au,bF,eU G,eU I,Pf,ah,t,u]) (by rfl) rfl (by rw[oI];exact fZ G),xh]
   rfl
  rw[m3,d3 (env1:=[N,R,some (lD a),some (lD f),some (.int (k:Int)),some (.int (p.1:Int)),some (qD p.2)]) (by rfl),e1];exact q
def Ca:∀{ps:List Pt} {f:List Rat},(ps.map (·.1)).Nodup->(∀p∈ps,p.1<f.length)->(∀j,sz (f.getD j 0)<=B)->(∀p∈ps,wt (p.2,m)<=c)->∀j,sz ((t_ f ps m).getD j 0)<=B+c:=by
 intro ps f nd lt i r j;rw[iF nd lt];rcases oZ (ps:=ps) (j:=j) with h|⟨p,l,h⟩
 .rw[h];have e:f.getD j 0+0 * m=f.getD j 0:=by grind
  rw[e];have:=i j;lia
 .rw[h];have a:=iX (f.getD j 0) (p.2 * m);have b:=eA p.2 m;have d:=r p l;have w:wt (p.2,m)=sz p.2+sz m+1:=rfl
  have:=i j
  lia
def J7(hf:f.length=n+1)(ok:jp n p.1)(l:∀j,sz (f.getD j 0)<=B):∀j,sz ((bx n f p).getD j 0)<=B+cw p.1 p.2:=by
 intro j;by_cases z:j=n
 .subst z;rw[uN hf ok];have a:=iX (f.getD j 0) (p.1.2 * p.2);have b:=eA p.1.2 p.2;have d:=G0 (r:=p.1) (m:=p.2);have w:wt (p.1.2,p.2)=sz p.1.2+sz p.2+1:=rfl
  have:=l j
  lia
 .unfold bx;rw[ku (Ne.symm z)];exact Ca ok.nd (λq i=>by have:=ok.lt q i;lia) l (λq i=>GZ i) j
def vJ:∀(l:List (Rw × Rat)) (f:List Rat) (B:Nat),f.length=n+1->(∀p∈l,jp n p.1)->(∀j,sz (f.getD j 0)<=B)->∀j,sz ((l.foldl (bx n) f).getD j 0)<=B+TW l
 | [],f,B,_,_,a=>by simpa [TW] using a
 | p::l,f,B,hf,ok,a=>by
  intro j
  have:=vJ l (bx n f p) (B+cw p.1 p.2) (mJ.trans hf) (λq i=>ok q (m1 _ i)) (J7 hf (ok p (by simp)) a) j
  rw[pj];show sz ((l.foldl (bx n) (bx n f p)).getD j 0)<=_;lia
def FG(l:List (Rw × Rat))(k:Nat):TW (l.take k)<=TW l:=by
 have:TW l=TW (l.take k)+TW (l.drop k):=by rw[<-zK,Ox]
 lia
def J8{a:List Rw}{k:Nat}(h:k<a.length):nk (a.map CW) (k:Int)=some (CW a[k]):=by
 refine L2.cW ?_;rw[tt,p_ h];rfl
def Cp{a:List Rat}{k:Nat}(h:k<a.length):a.getD k 0=a[k]:=by
 rw[o_,p_ h];rfl
def N0{n:Nat}(f:n<=1000):cH.p (.lst [.tup [.int 0,.int 1]]) (.int (n:Int))=some (lD (List.replicate n 0)):=by
 have e:∀m:Nat,(List.replicate m [D.tup [.int 0,.int 1]]).flatten=(List.replicate m (0:Rat)).map qD:=λm=>by
  induction m with
  | zero=>rfl
  | succ m a=>rw[DF,Ep,a,DF,m3];rfl
 show (if (0<=(n:Int)/\(n:Int)<=1000)/\((List.replicate (n:Int).toNat [D.tup [.int 0,.int 1]]).flatten).length<=100000 then some (D.lst (List.replicate (n:Int).toNat [D.tup [.int 0,.int 1]]).flatten) else none)=_;rw[v_,e,d_ ⟨by lia,by simp;lia⟩]
abbrev TU:Xd [3]:=(aA (dj (aV (ac h8 (ac h8 (ab 1) (ab 4)) (xC (.int 0)))) (w_ (n7 (ia 5) (n7 (ia 6) w9)) 2) (jJ 3 (aj aZ (aa (ac h8 (ab 3) (ab 5)) (aa (aj bv (aa (ab 6) (aa (ac h8 (ab 2) (ab 4)) a_))) a_))) (ab 5)))
 (jJ 3 (aj aZ (aa (ac h8 (ab 3) (ab 0)) (aa (aj bv (aa (ac h8 (ac h8 (ab 1) (ab 4)) (xC (.int 1))) (aa (ac h8 (ab 2) (ab 4)) a_))) a_))) (ab 0)))
def FH{n k:Nat}{a:List Rw}{i:List Rat}{f:List Rat}{x5 x6:Option D}{s:hB}{B:Nat}(H:k<a.length)(l:k<i.length)(hf:f.length=n+1)(ok:jp n a[k])(F:∀j,sz (f.getD j 0)<=B)(L:B+cw a[k] i[k]<=890000) :
  ∃C y:Option D,TU.p [some (.int (n:Int)),some (k_ a),some (lD i),some (lD f),some (.int (k:Int)),x5,x6] s=.nx [some (.int (n:Int)),some (k_ a),some (lD i),some (lD (bx n f (a[k],i[k]))),some (.int (k:Int)),C,y] s:=by
 have em:i.getD k 0=i[k]:=Cp l;obtain⟨C,y,q⟩:=vV (N:=some (.int (n:Int))) (R:=some (k_ a)) (s:=s) l (B:=B) (c:=cw a[k] i[k]) (by lia) a[k].1 f x5 x6 ok.nd (λp E=>by have:=ok.lt p E;lia) (λp E=>F p.1) λp E=>by rw[em];exact GZ E
 refine⟨C,y,?_⟩;have w:wt (a[k].2,i[k])=sz a[k].2+sz i[k]+1:=rfl;have M:=G0 (r:=a[k]) (m:=i[k]);have J:=eA a[k].2 i[k];have O:sz ((t_ f a[k].1 i[k]).getD n 0)<=B:=by
  rw[iF ok.nd λp E=>by have:=ok.lt p E;lia,dE λz=>by
   obtain⟨q,I,e⟩:=mu.mp z
   have:=ok.lt q I
   lia]
  have e:f.getD n 0+0 * i[k]=f.getD n 0:=by grind
  rw[e];exact F n
 have t:=io (p:=a[k].2) (q:=i[k]) (s:=s) (by lia);have u:=j8 (p:=(t_ f a[k].1 i[k]).getD n 0) (q:=a[k].2 * i[k]) (s:=s) (by lia);rw[em] at q;have G:n<(t_ f a[k].1 i[k]).length:=by rw[jd];lia
 have e2:=eU l;rw[em] at e2;rw[av,cF];simp![bI,au,aL,aD,bF,J8 H,Pf,bz,z0,show (D.tup (a[k].1.map rz)).items=some (a[k].1.map rz) from rfl,Pg];refine (congrArg (λz:PS=>z.then _) q).trans ?_
 rw[PU.ak,lU,iw (v:=qD ((t_ f a[k].1 i[k]).getD n 0+a[k].2 * i[k])) (s1:=s) (j:=(n:Int)) (s2:=s) (ds:=(t_ f a[k].1 i[k]).map qD) (n:=n) (by
   simp![aB,ag,au,bF,bz,eU G,J8 H,e2,aL,aD,z1,Pf,ah,t,u]) (by rfl) rfl (by rw[oI];exact fZ G),xh]
 rfl
def oB{n:Nat}{rs:List Rw}{ms:List Rat}{s:hB}(S:n<=100)(Q:rs.length<=1000)(P:rs.length=ms.length)(ok:∀r∈rs,jp n r)(T:TW (rs.zip ms)<=880000):cU.p [.int (n:Int),k_ rs,lD ms] s=.ok (lD (x_ n rs ms)) s:=by
 rw[rn (by rfl)];unfold eB;rw[show mh 7 [D.int (n:Int),k_ rs,lD ms]=[some (.int (n:Int)),some (k_ rs),some (lD ms),none,none,none,none] from rfl];obtain⟨B,R,q,y,i,a,rfl,rfl⟩:=dA (g:=(ia 4:Xg [3]).p) (b:=TU.p)
  (λj env f=>∃y i a,env=[some (.int (n:Int)),some (k_ rs),some (lD ms),some (lD (((rs.zip ms).take j).foldl (bx n) (List.replicate (n+1) 0))),y,i,a]/\f=s) (d6 0 rs.length) 0 [some (.int (n:Int)),some (k_ rs),some (lD ms),some (lD (List.replicate (n+1) 0)),none,none,none] s ⟨none,none,none,rfl,rfl⟩ (λj env f d ⟨y,i,a,H,M⟩ hd=>by
   subst H M;rw[C0];obtain⟨rfl,J⟩:=gn hd;have u:j<ms.length:=by lia
   have I:j<(rs.zip ms).length:=by rw[Hi];lia
   have l:=ok rs[j] (CF _);have E:=vJ ((rs.zip ms).take j) (List.replicate (n+1) 0) 1 (by simp) (λp G=>uH ok p (List.mem_of_mem_take G)) (λj=>by rw[qh,DW];exact j_ _);have e:(rs.zip ms).take (j+1)=(rs.zip ms).take j++[(rs[j],ms[j])]:=by rw[P0 I,Qj]
   have C:1+TW ((rs.zip ms).take j)+cw rs[j] ms[j]<=890000:=by
    have:=FG (rs.zip ms) (j+1)
    rw[e,zK,pj] at this;dsimp only at this;lia
   obtain⟨O,L,q⟩:=FH (s:=f) J u ((nA ((rs.zip ms).take j) (List.replicate (n+1) 0)).trans (by simp)) l E C (x5:=i) (x6:=a)
   exact⟨_,_,f,rfl,q,_,_,_,by rw[e,Qa];rfl,rfl⟩)
 rw[C0,dh] at q;have F:cH.p (.lst [.tup [.int 0,.int 1]]) (.int ((n:Int)+1))=some (lD (List.replicate (n+1) 0)):=by
  have:=N0 (n:=n+1) (by lia)
  rwa [Qq] at this
 simp![av,dQ,fD,if_true,au,eE,bH,ag,aL,aD,ah,pk,tx,show (0+1+1:Nat)<=100000 by decide,show (0+1:Nat)<=100000 by decide,if_true,cN,Pf,F,Pg,si,r_,PU.ak,cF,bB,bq,dJ];rw[cI (by rw[oI];lia),oI,v_,Pf,Pg];refine (congrArg (λz:PS=>(z.then _).fin) q).trans ?_
 rw[PU.ak,l0 (d:=lD (x_ n rs ms)) (by
  rw[Lc (by rw[Hi];lia)];rfl),PU.bi]
def fV(k:Nat)(d:D):Prop:=∃x,py d=some x/\dep d<=k/\x.canLay0=true/\x.depth<=k
def Bf{i:Int}{k:Nat}:fV k (.int i):=⟨.int i,rfl,by simp[dep],rfl,by simp[PyData.depth]⟩
def nX{k:Nat}{ds:List D}(h:∀d∈ds,fV k d):∃xs,AS ds=some xs/\q7 ds<=k/\PyData.canLayAll0 xs=true/\PyData.depthAll xs<=k:=by
 induction ds with
 | nil=>exact⟨[],rfl,by simp[q7],rfl,by simp[PyData.depthAll]⟩
 | cons d ds j =>
  obtain⟨xs,f,r,l,u⟩:=j λd hd=>h d (m1 _ hd);obtain⟨x,a,z,i,y⟩:=h d (by simp);exact⟨x::xs,by simp[AS,f,a],by simp only[q7];lia,by simp[PyData.canLayAll0,l,i],by simp only[PyData.depthAll];lia⟩
def BJ{k:Nat}{a:List D}(h:∀d∈a,fV k d):fV (k+1) (.tup a):=by
 obtain⟨xs,f,j,i,l⟩:=nX h;exact⟨.tuple xs,by simp[py,f],by simp only[dep];lia,by simpa [PyData.canLay0] using i,by simp only[PyData.depth];lia⟩
def nW{k:Nat}{a:List D}(h:∀d∈a,fV k d):fV (k+1) (.lst a):=by
 obtain⟨xs,f,j,i,l⟩:=nX h;exact⟨.list xs,by simp[py,f],by simp only[dep];lia,by simpa [PyData.canLay0] using i,by simp only[PyData.depth];lia⟩
def BN{k:Nat}{t b:Int}:fV (k+1) (nD t b):=BJ λd hd=>by
 simp only[ml,Ef,or_false] at hd;rcases hd with rfl|rfl <;> exact Bf
def pq(q:Rat):PyData:=.tuple [.int q.num,.int (q.den:Int)]
def J9(q:Rat):py (qD q)=some (pq q):=rfl
def N1(xs:List Rat):AS (xs.map qD)=some (xs.map pq):=by
 induction xs with
 | nil=>rfl
 | cons q xs a=>rw[m3,AS,J9,a];rfl
def G1(a b:Rat):PyData.eqv (pq a) (pq b)=decide (a=b):=by
 have e:=jF [a.num,(a.den:Int)] [b.num,(b.den:Int)];show PyData.eqvAll _ _=_;refine e.trans (decide_eq_decide.mpr ⟨λh=>?_,λh=>by rw[h]⟩);injection h with h1 h2
 injection h2 with h2 _
 exact Rat.ext h1 (by lia)
def uC:∀(xs ys:List Rat),PyData.eqvAll (xs.map pq) (ys.map pq)=decide (xs=ys)
 | [],[]=>by simp[PyData.eqvAll]
 | [],_::_=>by simp[PyData.eqvAll]
 | _::_,[]=>by simp[PyData.eqvAll]
 | x::xs,y::ys=>by
  simp only[m3,PyData.eqvAll,G1,uC xs ys];rw[<-Bool.decide_and];exact decide_eq_decide.mpr (by simp)
def sV{k:Nat}{q:Rat}:fV (k+1) (qD q):=BN
def j9{k:Nat}{xs:List Rat}:fV (k+1+1) (lD xs):=nW λd hd=>by
 obtain⟨q,_,rfl⟩:=mu.mp hd;exact sV
def kc{f:Bool}{a b:D}{x y:PyData}(l:fV 60 a)(B:fV 60 b)(e1:py a=some x)(e2:py b=some y):AZ f a b=some (.bl (if f then !PyData.eqv x y else PyData.eqv x y)):=by
 obtain⟨H,j,u,r,G⟩:=l;obtain⟨E,i,C,z,F⟩:=B;rw[e1] at j;cases j;rw[e2] at i;cases i;unfold AZ;rw[e1,e2];dsimp only;rw[d_ ⟨⟨u,C⟩,jy r (by lia),jy z (by lia)⟩]
def xZ{neg:Bool}{a b:Rat}:AZ neg (qD a) (qD b)=some (.bl (if neg then !decide (a=b) else decide (a=b))):=by
 rw[kc (sV (k:=59)) (sV (k:=59)) (J9 a) (J9 b),G1]
def oT(xs:List Rat):py (lD xs)=some (.list (xs.map pq)):=by rw[py,N1];rfl
def uP{neg:Bool}{xs ys:List Rat}:AZ neg (lD xs) (lD ys)=some (.bl (if neg then !decide (xs=ys) else decide (xs=ys))):=by
 rw[kc (j9 (k:=58)) (j9 (k:=58)) (oT xs) (oT ys)];simp only[PyData.eqv,uC]
def Ar(bs:List Bool):AS (bs.map .bl)=some (bs.map .bool)/\q7 (bs.map .bl)=0/\PyData.canLayAll0 (bs.map .bool)=true:=by
 induction bs with
 | nil=>exact⟨rfl,rfl,rfl⟩
 | cons b bs j =>
  obtain⟨a,f,i⟩:=j;refine⟨?_,?_,?_⟩
  .rw[m3,AS,a];rfl
  .rw[m3,q7,f];rfl
  .rw[m3,PyData.canLayAll0,i];rfl
def BO(bs:List Bool):GN true (.bl false) (.lst (bs.map .bl))=some (.bl (bs.all id)):=by
 obtain⟨a,f,i⟩:=Ar bs;show (match py (.bl false),AS (bs.map .bl) with | some x,some ys=>if (dep (.bl false)<=60/\q7 (bs.map .bl)<=60)/\x.canLay0=true/\PyData.canLayAll0 ys=true then some (D.bl (if true then !ys.any (λe=>PyData.eqv e x) else ys.any (λe=>PyData.eqv e x))) else none | _,_=>none)=_;rw[a];show (if (dep (.bl false)<=60/\q7 (bs.map .bl)<=60)/\(PyData.bool false).canLay0=true/\PyData.canLayAll0 (bs.map .bool)=true then some (D.bl (!(bs.map PyData.bool).any (λe=>PyData.eqv e (.bool false)))) else none)=_;rw[d_ ⟨⟨by simp[dep],by rw[f];decide⟩,rfl,i⟩];congr 2
 induction bs with
 | nil=>rfl
 | cons b bs j =>
  obtain⟨a,f,i⟩:=Ar bs;rw[m3,OL,Bool.not_or,j a f i,List.all_cons];cases b <;> rfl
def f9{xs:List Rat}{B:Nat}(h:∀q∈xs,sz q<=B)(a:1<=B)(j:Nat):sz (xs.getD j 0)<=B:=by
 rw[o_]
 cases e:xs[j]? with
 | none=>rw[OE,DW];exact a
 | some q=>exact h q (Ee e)
structure Sq (n:Nat) (ps:List Pt):Prop where
 nd:(ps.map (·.1)).Nodup
 lt:∀p∈ps,p.1<n
 sz:∀p∈ps,sz p.2<=20
 len:ps.length<=n
 rise:(ps.map (·.1)).Pairwise (·<·)
def pQ{k:Nat}(F:0<k)(l:k<=100):∀(c lo:Nat) (u:Option D) (s:hB),∃(ps:List Pt) (G:hB),cv (ia 0:Xg []).p JZ.p J0.p ((List.range' lo c).map λ(i:Nat)=>D.int (i:Int)) [u,some .pen,some (.int (k:Int))] s=.ok (ps.map rz) G /\
  (ps.map (·.1)).Pairwise (·<·)/\(∀p∈ps,lo<=p.1/\p.1<lo+c/\sz p.2<=20)/\ps.length<=c
 | 0,lo,u,s=>⟨[],s,rfl,by simp,by simp,by simp⟩
 | c+1,lo,u,s=>by
  obtain⟨d,f,Q,P,q1⟩:=bV (s:=s) (size:=(k:Int)) (by lia) (by lia);rw[Qh,m3];have e1:cv (ia 0:Xg []).p JZ.p J0.p (D.int (lo:Int)::(List.range' (lo+1) c).map λ(i:Nat)=>D.int (i:Int)) [u,some .pen,some (.int (k:Int))] s =
    (JZ.p [some (.int (lo:Int)),some .pen,some (.int (k:Int))] s).bind λb f=>if b=true then (J0.p [some (.int (lo:Int)),some .pen,some (.int (k:Int))] f).bind λy C=>(cv (ia 0:Xg []).p JZ.p J0.p ((List.range' (lo+1) c).map λ(i:Nat)=>D.int (i:Int)) [some (.int (lo:Int)),some .pen,some (.int (k:Int))] C).bind λr j=>.ok (y::r) j
     else cv (ia 0:Xg []).p JZ.p J0.p ((List.range' (lo+1) c).map λ(i:Nat)=>D.int (i:Int)) [some (.int (lo:Int)),some .pen,some (.int (k:Int))] f:=by
   rw[cv];rfl
  have I:JZ.p [some (.int (lo:Int)),some .pen,some (.int (k:Int))] s=.ok (decide (d=0)) f:=by
   simp![bO,au,aB,ag,ah,q1,aL,aD,eM,bE,su,if_false,Pf,PR.bl]
  rw[e1,I,Pb];by_cases z:d=0
  .rw[decide_eq_true z,d_ rfl];obtain⟨q,C,O,L,_⟩:=J5 (s:=f);have H:J0.p [some (.int (lo:Int)),some .pen,some (.int (k:Int))] f=.ok (rz (lo,q)) C:=by
    simp![bH,ag,aB,ah,O,pk,tx,show (0+1+1:Nat)<=100000 by decide,if_true]
   obtain⟨ps,j,e3,E,B,J⟩:=pQ F l c (lo+1) (some (.int (lo:Int))) C;refine⟨(lo,q)::ps,j,?_,?_,λp a=>?_,by simp;lia⟩
   .rw[H,Pb,e3];rfl
   .rw[m3,DG];refine⟨λz M=>?_,E⟩;obtain⟨p,a,rfl⟩:=mu.mp M
    have:=(B p a).1
    show lo<p.1;lia
   .rcases ml.mp a with rfl|a
    .exact⟨j_ _,by show lo<_;lia,L⟩
    .have:=B p a
     exact⟨by lia,by lia,this.2.2⟩
  .rw[decide_eq_false z,g_ (by decide)];obtain⟨ps,j,e3,E,B,J⟩:=pQ F l c (lo+1) (some (.int (lo:Int))) f;exact⟨ps,j,e3,E,λp a=>by have:=B p a;exact⟨by lia,by lia,this.2.2⟩,by lia⟩
def FI{n k:Nat}{s:hB}(y:n<=100)(u:0<k)(f:k<=100):∃ps i,fv.p [.pen,.int (n:Int),.int (k:Int)] s=.ok (.tup (ps.map rz)) i/\Sq n ps:=by
 obtain⟨ps,i,e,j,l,r⟩:=pQ u f n 0 none s;refine⟨ps,i,?_,j.imp λh=>s_ h,λp a=>by have:=l p a;lia,λp a=>(l p a).2.2,r,j⟩;rw[xE (by rfl)];unfold gP;rw[show mh 3 [D.pen,.int (n:Int),.int (k:Int)]=[some .pen,some (.int (n:Int)),some (.int (k:Int))] from rfl,bA,bq,ag,j5];simp![bB,ag,ah];rw[cI (by lia),v_,dC,P6,Pf,Pb,d_ (by simp;lia)];rw[show xg 1 [0,2] [some D.pen,some (.int (n:Int)),some (.int (k:Int))]=[none,some .pen,some (.int (k:Int))] from rfl,e];simp only[Pb,gh,Pf,Pg,PU.bi]
abbrev pD(ps:List Pt):D:=.tup (ps.map rz)
def ui{a:Rat}{l:List (Rat × Rat)}{p:Rat × Rat}:bT a (l++[p])=bT a l+p.1 * p.2:=by simp[bT]
def cw_le{r:Rw}{m:Rat}{A B:Nat}(a:∀p∈r.1,sz p.2<=A)(i:sz r.2<=A)(j:sz m<=B):cw r m<=A+B+1 :=
 wl (λp f=>by have:=a p f;show sz p.2+sz m+1<=_;lia) (by show sz r.2+sz m+1<=_;lia)
def xl{c:Nat}:∀{rs:List Rw} {us:List Rat},(∀r∈rs,∀q∈us,cw r q<=c)->TW (rs.zip us)<=rs.length * c
 | [],us,_=>by simp[TW]
 | r::rs,[],_=>by simp[TW]
 | r::rs,q::us,h=>by
  have:=xl (c:=c) (rs:=rs) (us:=us) λr a q f=>h r (m1 _ a) q (m1 _ f)
  have i:=h r (by simp) q (by simp);rw[KL,pj,pk,Eh];dsimp only;lia
def CQ(n:Nat)(xs:List Rat):List Pt:=((List.range n).filter λj=>!decide ((xs.getD j 0).num=0)).map λj=>(j,xs.getD j 0)
def B9{n:Nat}{xs:List Rat}{s:hB}(i:n<=1000)(h:n<=xs.length):fN.p [.int (n:Int),lD xs] s=.ok (pD (CQ n xs)) s:=by
 rw[vo (by rfl)];unfold fK
 rw[show mh 2 [D.int (n:Int),lD xs]=[some (.int (n:Int)),some (lD xs)] from rfl,bA,bq,ag,bN (l:=List.range n) (λ(j:Nat)=>D.int (j:Int)) (λj=>rz (j,xs.getD j 0)) (λj=>!decide ((xs.getD j 0).num=0)) (s:=s) (by
   simp only[bB,ag,ae,Pb,ah]
   rw[cI (by lia),v_,dC];rfl) (by simp;lia) (λj f=>by
   have a:j<xs.length:=by rw[pa] at f;lia
   refine⟨?_,λ_=>?_⟩
   .show (xB _:Xt []).p [some (.int (j:Int)),some (lD xs)] s=_;simp![bO,au,bF,eU a,Pf,aL,aD,bz,z0,cg,bE,if_true,PR.bl]
   .show (aU _:Xe []).p [some (.int (j:Int)),some (lD xs)] s=_
    simp![bH,ag,au,bF,eU a,Pf,ah,pk,tx,show (0+1+1:Nat)<=100000 by decide,if_true])]
 unfold CQ pD;rw[oF];simp only[Pb,ah,gh,Pf,Pg,PU.bi];rfl
def mS{n:Nat}{xs:List Rat}{y:Rat}:jp n (CQ n xs,y):=by
 have e:(CQ n xs).map (·.1)=(List.range n).filter λj=>!decide ((xs.getD j 0).num=0):=by
  unfold CQ;rw[oF];exact (B_ (g:=id) λ_ _=>rfl).trans (OR _)
 refine⟨by show ((CQ n xs).map (·.1)).Nodup;rw[e];exact DH.filter _,λp a=>?_⟩;obtain⟨j,f,rfl⟩:=mu.mp a;exact pa.mp (y6.mp f).1
def iq{ps:List Pt}{p:Pt}(nd:(ps.map (·.1)).Nodup)(h:p∈ps):e_ ps p.1=p.2:=by
 induction ps with
 | nil=>cases h
 | cons q ps a =>
  rw[m3,CU] at nd;rw[ft];rcases ml.mp h with rfl|h
  .rw[d_ rfl]
  .rw[g_ λz=>nd.1 (mu.mpr ⟨p,h,z.symm⟩),a nd.2 h]
def Be{n j:Nat}{xs:List Rat}(i:j<n):e_ (CQ n xs) j=xs.getD j 0:=by
 by_cases z:(xs.getD j 0).num=0
 .rw[dE λq=>by
   obtain⟨p,a,e⟩:=mu.mp q;obtain⟨k,f,rfl⟩:=mu.mp a;have e:k=j:=e;subst e
   have:=(y6.mp f).2
   rw[decide_eq_true z] at this
   cases this]
  exact (Rat.num_eq_zero.mp z).symm
 .exact iq (p:=(j,xs.getD j 0)) (mS (y:=0)).nd (mu.mpr ⟨j,y6.mpr ⟨pa.mpr i,by rw[decide_eq_false z];rfl⟩,rfl⟩)
def Sr{α:Type}(l:List α)(f:α->D)(k:Nat):jI (l.map f) none (some (k:Int))=(l.take k).map f:=by
 have e:HT.mw (l.map f).length (l.map f).length (some (k:Int))=min k (l.map f).length:=HT.we _ _ k;unfold jI;rw[e,HT.tV,List.drop_zero,Nat.sub_zero,<-OM,oI];congr 1;by_cases z:k<=l.length
 .rw[Qo z]
 .rw[Nat.min_eq_right (by lia),Lc (j_ _),Lc (by lia)]
def FJ{xs:List Rat}{n j:Nat}(h:j<n):(xs.take n).getD j 0=xs.getD j 0:=by
 simp only[o_,List.getElem?_take,d_ h]
def FK{xs:List Rat}:DT (lD xs)=true:=by
 show qp (xs.map qD)=true
 induction xs with
 | nil=>rfl
 | cons q xs a=>rw[m3,qp,a];rfl
def TV(f:0<b):dU NW.p NX.p (n+1) [some (.int a),some (.int b),x] s=dU NW.p NX.p n [some (.int b),some (.int (a % b)),some (.int (a % b))] s:=by
 rw[dU];simp[nz f,PR.bl,show ¬b=0 by lia]
def Ss:dU NW.p NX.p (n+1) [some (.int a),some (.int 0),x] s=.nx [some (.int a),some (.int 0),x] s:=by
 rw[dU];simp[PR.bl]
def J_:∀(k n:Nat) (a b:Int) (x:Option D),0<=a->0<=b->b<2 ^ k->2 * k+1<=n->∃F,dU NW.p NX.p n [some (.int a),some (.int b),x] s=.nx [some (.int (Int.gcd a b)),some (.int 0),F] s:=by
 intro k
 induction k with
 | zero =>
  intro n a b x i j u B;obtain⟨m,rfl⟩:∃m,n=m+1:=⟨n - 1,by lia⟩
  have:b=0:=by simp at u;lia
  subst this;exact⟨x,by rw[Ss,fi i]⟩
 | succ k E =>
  intro n a b x i j u B;obtain⟨m,rfl⟩:∃m,n=m+1+1:=⟨n - 2,by lia⟩;by_cases e:b=0
  .subst e;exact⟨x,by rw[Ss,fi i]⟩
  .have f:0<b:=by lia
   rw[TV f,<-kP i j];have l:=Lp a e;have y:=Lj a f;generalize a % b=r at l y ⊢;by_cases z:r=0
   .subst z;exact⟨_,by rw[Ss,fi j]⟩
   .obtain⟨C,G,H⟩:=sj (b:=b) (r:=r) (by lia) y;rw[TV (by lia),<-kP j l];refine E m r (b % r) _ l C ?_ (by lia);rw[Int.pow_succ] at u;lia
def N2(h:a<2 ^ k):((a:Nat):Int)<2 ^ k:=by
 have:=OQ.mpr h
 simpa using this
def uT{a b k:Nat}{s:hB}(f:b<2 ^ k)(j:k<=950000):bQ.p [.int (a:Int),.int (b:Int)] s=.ok (.int (Nat.gcd a b:Int)) s:=by
 rw[lF (by rfl)];unfold cC;obtain⟨i,q⟩:=J_ (s:=s) k 2000000 (a:Int) (b:Int) none (by lia) (by lia) (N2 f) (by lia);rw[show mh 3 [D.int (a:Int),.int (b:Int)]=[some (.int (a:Int)),some (.int (b:Int)),none] from rfl,av,yx lT];refine (congrArg (λz:PS=>(z.then _).fin) q).trans ?_;simp
def FL:eO.p [.int i] s=.ok (.bl true) s:=by
 rw[u7 (by rfl)];unfold fS;have e1:(dr ["int"]).p (.int i)=some (.bl true):=rfl;have e2:(dr ["bool"]).p (.int i)=some (.bl false):=rfl;rw[show mh 1 [D.int i]=[some (.int i)] from rfl];simp only[bA,mj,jl,ae,Pb,e1,e2,Pf,PR.bl,if_true,Ff,OK,Pg,PU.bi]
def pX(a:b≠0):Rat.divInt t b=Rat.divInt (if b<0 then -t else t) (b.natAbs:Nat):=by
 split
 .have:((b.natAbs:Nat):Int) = -b:=by lia
  rw[this];exact (Rat.neg_divInt_neg t b).symm
 .have:((b.natAbs:Nat):Int)=b:=by lia
  rw[this]
def pd{t:Int}{g:Nat}(f:0<g)(hd:(g:Int) ∣ t):t.fdiv (-(g:Int))=(-t) / (g:Int):=by
 obtain⟨c,rfl⟩:=hd;have a:(g:Int)≠0:=by lia
 have e1:((g:Int) * c).fdiv (-(g:Int)) = -c:=by
  rw[show (g:Int) * c=(-(g:Int)) * (-c) by rw[Int.neg_mul_neg],SX _ (by lia)]
 rw[e1,<-Int.mul_neg,SY _ a]
def jB{t b:Int}{k:Nat}(u:b≠0)(G:b.natAbs<2 ^ k)(y:k<=950000):bW.p [.int t,.int b] s=.ok (qD (Rat.divInt t b)) s:=by
 have j:b.natAbs≠0:=by lia
 have r:0<Nat.gcd t.natAbs b.natAbs:=P2 _ (by lia);have C:=uT (a:=t.natAbs) (s:=s) G y;rw[pX u];obtain⟨e1,e2⟩:=mR (if b<0 then -t else t) b.natAbs j;have E:(if b<0 then -t else t).natAbs=t.natAbs:=by split <;> simp
 rw[E] at e1 e2;rw[uI (by rfl)];unfold eZ;rw[show mh 3 [D.int t,.int b]=[some (.int t),some (.int b),none] from rfl];simp![av,ca,g8,fy,bO,aB,ag,ah,FL,PR.bl,C_,su,if_false,Pg,ce,PU.ak,au,aL,aD,eM,bE,Pf,decide_eq_false u,aN,bq,t8,C,si,r_,Jk];have B:(Nat.gcd t.natAbs b.natAbs:Int) ∣ t:=OB.mpr (Nat.gcd_dvd_left _ _);have F:(Nat.gcd t.natAbs b.natAbs:Int) ∣ b:=OB.mpr (Nat.gcd_dvd_right _ _);by_cases z:b<0
 .rw[decide_eq_true z];have f:C8.p (.int t) (.int (-(Nat.gcd t.natAbs b.natAbs:Int)))=some (.int ((-t) / (Nat.gcd t.natAbs b.natAbs:Int))):=by rw[jN (by lia),pd r B]
  have l:C8.p (.int b) (.int (-(Nat.gcd t.natAbs b.natAbs:Int)))=some (.int ((-b) / (Nat.gcd t.natAbs b.natAbs:Int))):=by rw[jN (by lia),pd r F]
  have e3:(-b:Int)=(b.natAbs:Nat):=by lia
  rw[qD,e1,e2,d_ z];have i:tS.p (.int (Nat.gcd t.natAbs b.natAbs:Int))=some (.int (-(Nat.gcd t.natAbs b.natAbs:Int))):=rfl;simp[f,l,e3,i]
 .rw[decide_eq_false z];have f:=fu (a:=t) (b:=(Nat.gcd t.natAbs b.natAbs:Int)) (by lia);have l:=fu (a:=b) (b:=(Nat.gcd t.natAbs b.natAbs:Int)) (by lia);have e3:((b.natAbs:Nat):Int)=b:=by lia
  rw[qD,e1,e2,g_ z];simp[f,l,e3]
def gT(a:Nat)(f:List Rat):Nat:=f.foldl (λa q=>a * q.den / Nat.gcd a q.den) a
def nG:gT a (q::qs)=gT (Nat.lcm a q.den) qs:=rfl
def p9:∀(f:List Rat) (a:Nat),a ∣ gT a f/\∀q∈f,q.den ∣ gT a f
 | [],a=>⟨Nat.dvd_refl _,by simp⟩
 | q::f,a=>by
  rw[nG];obtain⟨j,l⟩:=p9 f (Nat.lcm a q.den);refine⟨Nat.dvd_trans (Nat.dvd_lcm_left _ _) j,λp i=>?_⟩;rcases ml.mp i with rfl|i
  .exact Nat.dvd_trans (Nat.dvd_lcm_right _ _) j
  .exact l p i
def mF:∀(f:List Rat) (a:Nat),0<a->0<gT a f
 | [],a,h=>h
 | q::f,a,h=>by rw[nG];exact mF f _ (Nat.lcm_pos h (OC q.den_nz))
def za(a:List Rat):Nat:=(a.map sz).sum
def nV:za (q::qs)=sz q+za qs:=by simp[za]
def o4:∀(f:List Rat) (a k:Nat),a<2 ^ k->gT a f<2 ^ (k+za f)
 | [],a,k,h=>by simpa [za,gT] using h
 | q::f,a,k,h=>by
  rw[nG,nV];have i:Nat.lcm a q.den<2 ^ (k+sz q):=KN (Lq _ _) (cM h (bC q))
  have:=o4 f _ _ i
  rwa [Nat.add_assoc] at this
def v9:∀(i:List Rat) (a k:Nat) (x:Option D),0<a->a<2 ^ k->k+za i<=900000->∃l,C4 (ia 2:Xg []).p Sb.p (i.map qD) [P,some (.int (a:Int)),x] s=.nx [P,some (.int (gT a i:Int)),l] s
 | [],a,k,x,_,_,_=>⟨x,rfl⟩
 | q::i,a,k,x,r,u,B=>by
  rw[nV] at B;have y:Nat.lcm a q.den<2 ^ (k+sz q):=KN (Lq _ _) (cM u (bC q));obtain⟨l,e⟩:=v9 (P:=P) (s:=s) i (Nat.lcm a q.den) (k+sz q) (some (qD q)) (Nat.lcm_pos r (OC q.den_nz)) y (by lia);refine⟨l,?_⟩;have z:=uT (a:=a) (b:=q.den) (s:=s) (bC q) (by lia);have m:=cQ (a:=(a:Int)) (b:=(q.den:Int)) (j:=k) (k:=sz q) (by simpa using u) (by simpa using bC q);have C:0<Nat.gcd a q.den:=Nat.gcd_pos_of_pos_left _ r;have f:=fu (a:=(a:Int) * (q.den:Int)) (b:=(Nat.gcd a q.den:Int)) (by lia);have e1:Sb.p [P,some (.int (a:Int)),some (qD q)] s=.nx [P,some (.int (Nat.lcm a q.den:Int)),some (qD q)] s:=by
   simp![aN,au,aL,aD,bz,z1,Pf,m,aB,ag,ah,z,f,Pg,si,r_]
   have:((a:Int) * (q.den:Int)) / (Nat.gcd a q.den:Int)=(Nat.lcm a q.den:Int):=by
    rw[<-OI,<-Qk];rfl
   rw[this]
  rw[m3,d3 (env1:=[P,some (.int (a:Int)),some (qD q)]) (by rfl),e1];exact e
def oP(a:1+za qs<=900000):c6.p [lD qs] s=.ok (.int (gT 1 qs:Int)) s:=by
 rw[nL (by rfl)];unfold cY;rw[show mh 3 [lD qs]=[some (lD qs),none,none] from rfl];obtain⟨f,q⟩:=v9 (P:=some (lD qs)) (s:=s) qs 1 1 none (by decide) (by decide) a;dsimp![av,aN,aL,aD,cF,bI,ae,Pb,bn,Pf];refine (congrArg (λz:PS=>(z.then _).fin) q).trans ?_;simp
def sG(j:Nat):∀ps:List Pt,(p7 (ps.map λp=>((p.1:Nat):Int)) (ps.map λp=>qD p.2) (j:Int)).getD (.tup [.int 0,.int 1])=qD (e_ ps j)
 | []=>rfl
 | p::ps=>by
  have a:=sG j ps;rw[m3,m3,p7,ft];by_cases e:p.1=j
  .subst e;simp
  .rw[g_ (by lia),g_ e];exact a
def vD{ps:List Pt}(nd:(ps.map (·.1)).Nodup):oG.p [.tup (ps.map rz)]=some (.dic false (ps.map λp=>((p.1:Nat):Int)) (ps.map λp=>qD p.2)):=by
 show (K5 (.tup (ps.map rz))).map _=_;rw[NZ nd,DJ];simp[oF,Function.comp_def]
def kr(n:Nat)(r:Rw):List Rat:=(List.range n).map (e_ r.1)++[r.2]
def wx(n:Nat)(r:Rw):Nat:=gT 1 (kr n r)
def wr(n m:Nat)(r:Rw)(k:Nat):List Int:=(kr n r).map (λq=>q.num * ((wx n r:Int) / (q.den:Int)))++(List.range m).map λi=>if i=k then (wx n r:Int) else 0
abbrev iD(l:List Int):D:=.lst (l.map .int)
def gu:(kr n r).length=n+1:=by simp[kr]
def mG:0<wx n r:=mF _ _ (by decide)
def Ka:(wr n m r k).length=n+1+m:=by simp[wr,gu]
def sK:∀{l:List Nat},x∈l->x<=l.sum
 | y::l,h=>by
  rw[List.sum_cons];rcases ml.mp h with rfl|h
  .lia
  .have:=sK h;lia
def vh{n k:Nat}{u:List Rw}{s:hB}(P:n<=100)(O:u.length<=1000)(L:k<u.length)(ok:jp n u[k])(Q:1+za (kr n u[k])<=400000):dm.p [.int (n:Int),k_ u,.int (k:Int)] s=.ok (iD (wr n u.length u[k] k)) s:=by
 generalize B:u[k]=r at *;have z:nk (u.map CW) (k:Int)=some (CW r):=by rw[J8 L,B]
 have H:wx n r<2 ^ (1+za (kr n r)):=o4 _ 1 1 (by decide);have R:=(p9 (kr n r) 1).2;have E:=oP (qs:=kr n r) (s:=s) (by lia);have J:∀q∈kr n r,sz q<=za (kr n r):=λq y=>by
  unfold za;exact sK (mu.mpr ⟨q,y,rfl⟩)
 rw[tT (by rfl)];unfold eX;rw[show mh 7 [D.int (n:Int),k_ u,.int (k:Int)]=[some (.int (n:Int)),some (k_ u),some (.int (k:Int)),none,none,none,none] from rfl];have C:=bN (ws:=[]) (ws':=[]) (env:=[some (.int (n:Int)),some (k_ u),some (.int (k:Int)),some (.dic false (r.1.map λp=>((p.1:Nat):Int)) (r.1.map λp=>qD p.2)),none,none,none]) (s:=s) (s0:=s) (fm:=[3]) (i:=be wh (aa (ab 0) a_)) (t:=f_) (e:=Fk (ab 1) (aa (ab 0) (aa (Fg 0 1) a_))) (l:=List.range n) (λ(j:Nat)=>D.int (j:Int)) (λj=>qD (e_ r.1 j)) (λ_=>true)
  (by simp only[bB,ag,ae,Pb,ah];rw[cI (by lia),v_,dC];rfl) (by simp;lia) λj _=>⟨rfl,λ_=>by
   show (Fk _ _:Xe []).p [some (.int (j:Int)),some (.dic false (r.1.map λp=>((p.1:Nat):Int)) (r.1.map λp=>qD p.2))] s=_
   simp![GV,ag,rF,ah,sG]⟩
 have G:=bN (ws:=[]) (ws':=[]) (env:=[some (.int (n:Int)),some (k_ u),some (.int (k:Int)),some (.dic false (r.1.map λp=>((p.1:Nat):Int)) (r.1.map λp=>qD p.2)),some (lD (kr n r)),some (.int (wx n r:Int)),none]) (s:=s) (s0:=s) (fm:=[5,2]) (i:=be wh (aa (n_ cr (aa (ab 1) a_)) a_)) (t:=f_) (e:=qg (xB (ac CV (ab 0) (ab 2))) (ab 1) (xC (.int 0)) true) (l:=List.range u.length) (λ(j:Nat)=>D.int (j:Int)) (λj=>D.int (if j=k then (wx n r:Int) else 0)) (λ_=>true)
  (by simp![bB,ag,bq,ah,dJ,oI,Pf];rw[cI (by lia),v_,dC];rfl) (by simp;lia) λj _=>⟨rfl,λ_=>by
   show (qg _ _ _ _ _:Xe []).p [some (.int (j:Int)),some (.int (wx n r:Int)),some (.int (k:Int))] s=_;simp![Ji,bO,au,eM,bE,Pf,PR.bl,su,if_false];by_cases e:j=k
   .subst e;simp
   .have:¬(j:Int)=(k:Int):=by lia
    simp[e,this]⟩
 have F:=bN (ws:=[]) (ws':=[]) (env:=[some (.int (n:Int)),some (k_ u),some (.int (k:Int)),some (.dic false (r.1.map λp=>((p.1:Nat):Int)) (r.1.map λp=>qD p.2)),some (lD (kr n r)),some (.int (wx n r:Int)),some (.lst ((List.range u.length).map λj=>D.int (if j=k then (wx n r:Int) else 0)))]) (s:=s) (s0:=s) (fm:=[5]) (i:=aV (ab 4)) (t:=f_) (e:=ac cH (ac h8 (ab 0) (xC (.int 0))) (ac C8 (ab 1) (ac h8 (ab 0) (xC (.int 1))))) (l:=kr n r) qD (λq=>D.int (q.num * ((wx n r:Int) / (q.den:Int)))) (λ_=>true)
  (by simp![bI,bn,Pf]) (by rw[gu];lia) λq y=>⟨rfl,λ_=>by
   show (ac _ _ _:Xe []).p [some (qD q),some (.int (wx n r:Int))] s=_;have f:=fu (a:=(wx n r:Int)) (b:=(q.den:Int)) (by have:=q.den_nz;lia)
   have m:=cQ (a:=q.num) (b:=(wx n r:Int) / (q.den:Int)) (j:=sz q) (k:=1+za (kr n r)) (cD q) (by
    rw[<-Qk,Hg]
    exact KN (Lq _ _) H) (by have:=J q y;lia)
   simp![au,aL,aD,bz,z0,z1,Pf,f,m]⟩
 have M:bS.p (.lst (((List.range n).filter λ_=>true).map λj=>qD (e_ r.1 j))) (.lst [qD r.2])=some (lD (kr n r)):=by
  rw[aT,wg (by simp;lia)];simp[kr,lD,oF,Function.comp_def]
 have I:bS.p (.lst (((kr n r).filter λ_=>true).map λq=>D.int (q.num * ((wx n r:Int) / (q.den:Int))))) (.lst ((List.range u.length).map λj=>D.int (if j=k then (wx n r:Int) else 0)))=some (iD (wr n u.length r k)):=by
  rw[aT,wg (by simp[gu];lia)];simp[wr,iD,oF,Function.comp_def]
 simp![av,aN,bq,ag,au,bF,z,Pf,aL,aD,bz,z0,z1,ah,vD ok.nd,Pg,si,r_,PU.ak,C,eE,pk,tx,show (0+1:Nat)<=100000 by decide,if_true,M,aB,E];rw[show ((gT 1 (kr n r):Nat):Int)=(wx n r:Int) from rfl,G];dsimp![aT,bA,au];rw[F];simp![I,Pf,Pg,PU.bi]
def lJ{l:List Int}{i:Nat}(h:i<l.length):nk (l.map D.int) (i:Int)=some (.int (l.getD i 0)):=by
 refine L2.cW ?_;rw[tt,p_ h,o_,p_ h];rfl
def PQ(row a:List Int)(p:Nat)(d:Int):List Int:=(row.zip a).map λx=>(a.getD p 0 * x.1 - row.getD p 0 * x.2).fdiv d
def qA{row ch:List Int}{p k:Nat}{d:Int}{s:hB}(j:p<row.length)(r:p<ch.length)(G:row.length<=10000)(hd:d≠0)(u:∀x∈row,x.natAbs<2 ^ k)(y:∀x∈ch,x.natAbs<2 ^ k)(f:k<=1000000) :
  cL.p [iD row,iD ch,.int (p:Int),.int d] s=.ok (iD (PQ row ch p d)) s:=by
 have z:(row.getD p 0).natAbs<2 ^ k:=by rw[o_,p_ j];exact u _ (CF j)
 have C:(ch.getD p 0).natAbs<2 ^ k:=by rw[o_,p_ r];exact y _ (CF r)
 rw[yr (by rfl)];unfold gH;rw[show mh 4 [iD row,iD ch,.int (p:Int),.int d]=[some (iD row),some (iD ch),some (.int (p:Int)),some (.int d)] from rfl,bA];have c:=eD (ws:=[]) (ws':=[]) (env:=[some (iD row),some (iD ch),some (.int (p:Int)),some (.int d)]) (s:=s) (s0:=s) (fm:=[3,1,2,0]) (i:=be iZ (aa (ab 0) (aa (ab 1) a_))) (t:=f_) (e:=ac C8 (ac dS (ac cH (ac h8 (ab 3) (ab 4)) (ab 0)) (ac cH (ac h8 (ab 5) (ab 4)) (ab 1))) (ab 2)) (l:=row.zip ch) (λx=>D.int x.1) (λx=>D.int x.2) (λx=>D.int ((ch.getD p 0 * x.1 - row.getD p 0 * x.2).fdiv d)) (λ_=>true)
  (by simp![bB,ag,ah,oW,Pf,im]) (mU (by lia)) λx F=>⟨rfl,λ_=>by
   show (ac _ _ _:Xe []).p [some (.int x.1),some (.int x.2),some (.int d),some (iD ch),some (.int (p:Int)),some (iD row)] s=_;obtain⟨B,E⟩:=DI F;have e1:=cQ (a:=ch.getD p 0) (b:=x.1) C (u _ B) f f;have e2:=cQ (a:=row.getD p 0) (b:=x.2) z (y _ E) f f
   simp![au,bF,lJ j,lJ r,Pf,e1,e2,dR,jN hd]⟩
 rw[c];simp only[aT,Pg,PU.bi];simp[PQ,iD,oF,Function.comp_def]
abbrev Fm:=List Nat->Int
abbrev Vc:=Nat->Int
def W(r:Vc):Fm->List Nat->Int
 | _,[]=>0
 | f,q::l=>r q * f l - W r (λl=>f (q::l)) l
def yo(r:Vc)(a b:Int):∀(l:List Nat) (f g:Fm),W r (λl=>a * f l+b * g l) l=a * W r f l+b * W r g l
 | [],f,g=>by simp[W]
 | q::l,f,g=>by
  simp only[W];rw[yo r a b l (λl=>f (q::l)) (λl=>g (q::l))]
  grind
def jq(a b:Int)(r s:Vc):∀(l:List Nat) (f:Fm),W (λq=>a * r q+b * s q) f l=a * W r f l+b * W s f l
 | [],f=>by simp[W]
 | q::l,f=>by
  simp only[W];rw[jq a b r s l]
  grind
def o8(r s:Vc):∀(l:List Nat) (f:Fm),W r (W s f) l+W s (W r f) l=0
 | [],f=>by simp[W]
 | q::l,f=>by
  have e:∀(r s:Vc),W r (W s f) (q::l)=r q * W s f l - s q * W r f l+W r (W s λl=>f (q::l)) l:=λr s=>by
   have:(λl=>W s f (q::l))=λl=>s q * f l+(-1) * W s (λl=>f (q::l)) l:=by
    funext l;simp only[W];grind
   show r q * W s f l - W r (λl=>W s f (q::l)) l=_;rw[this,yo]
   grind
  rw[e r s,e s r]
  have:=o8 r s l λl=>f (q::l)
  grind
def Kb(r:Vc)(l:List Nat)(f:Fm):W r (W r f) l=0:=by
 have:=o8 r r l f
 lia
def one:Fm:=λl=>if l=[] then 1 else 0
def Dt:List Vc->Fm
 | []=>one
 | r::a=>W r (Dt a)
def ur(r:Vc):∀(l:List Nat) (f:Fm),(∀l,f l=0)->W r f l=0
 | [],f,h=>rfl
 | q::l,f,h=>by
  simp only[W];rw[h,ur r l _ λl=>h (q::l)];lia
def rM(a:Vc):∀(f:List Vc),a∈f->∀l,W a (Dt f) l=0
 | r::f,h,l=>by
  rcases ml.mp h with rfl|h
  .exact Kb _ _ _
  .have:=o8 a r l (Dt f)
   have z:W r (W a (Dt f)) l=0:=ur r l _ (rM a f h);show W a (W r (Dt f)) l=0;lia
def ji(a:Vc):∀(l:List Nat) (f:Fm),(∀q∈l,a q=0)->W a f l=0
 | [],f,_=>rfl
 | q::l,f,h=>by
  simp only[W];rw[h q (by simp),ji a l _ λq i=>h q (m1 _ i)];lia
inductive Sp (rs:List Vc):Vc->Prop
 | nil:Sp rs λ_=>0
 | add {v r:Vc} (c:Int) (h:Sp rs v) (m:r∈rs):Sp rs λq=>v q+c * r q
def Sp.w(h:Sp rs v)(l:List Nat):W v (Dt rs) l=0:=by
 induction h with
 | nil=>exact ji _ _ _ λ_ _=>rfl
 | @add v r c _ m a =>
  have:=jq 1 c v r l (Dt rs)
  rw[show (λq=>v q+c * r q)=λq=>1 * v q+c * r q by funext q;lia,this,a,rM r rs m l];lia
def Uo{f:List Vc}{P:List Nat}{a b a' b' u v:Vc}{m:Int}(E:m≠0)(L:∀q,a' q=m * a q+u q)(S:∀q,b' q=m * b q+v q)(y:Sp f u)(O:Sp f v)(r:∀q∈P,a' q=0)(R:∀q∈P,b' q=0)(j p:Nat) :
  Dt f P * W a (W b (Dt f)) (j::p::P)=W b (Dt f) (p::P) * W a (Dt f) (j::P) - W a (Dt f) (p::P) * W b (Dt f) (j::P):=by
 have B:a'=λq=>m * a q+1 * u q:=by funext q;rw[L];lia
 have M:b'=λq=>m * b q+1 * v q:=by funext q;rw[S];lia
 have Q:∀l,W a' (Dt f) l=m * W a (Dt f) l:=λl=>by rw[B,jq,y.w l];lia
 have H:∀l,W b' (Dt f) l=m * W b (Dt f) l:=λl=>by rw[M,jq,O.w l];lia
 have I:∀j,W a' (Dt f) (j::P)=a' j * Dt f P:=λj=>by simp only[W];rw[ji a' P _ r];lia
 have i:∀j,W b' (Dt f) (j::P)=b' j * Dt f P:=λj=>by simp only[W];rw[ji b' P _ R];lia
 have e1:W a' (W b' (Dt f)) (j::p::P)=m * m * W a (W b (Dt f)) (j::p::P):=by
  have:W b' (Dt f)=λl=>m * W b (Dt f) l+0 * W b (Dt f) l:=by funext l;rw[H];lia
  rw[this,yo,B,jq];have z:W u (W b (Dt f)) (j::p::P)=0:=by
   have:=o8 u b (j::p::P) (Dt f)
   rw[ur b _ _ y.w] at this;lia
  rw[z];grind
 have e2:W a' (W b' (Dt f)) (j::p::P)=a' j * (b' p * Dt f P) - a' p * (b' j * Dt f P):=by
  have:W a' (λl=>W b' (Dt f) (j::l)) (p::P)=a' p * W b' (Dt f) (j::P) - W a' (λl=>W b' (Dt f) (j::p::l)) P:=rfl
  show a' j * W b' (Dt f) (p::P) - W a' (λl=>W b' (Dt f) (j::l)) (p::P)=_;rw[this,ji a' P _ r,i p,i j];lia
 have F:=I j;have G:=I p;have C:=i j;have J:=i p;rw[Q] at F G;rw[H] at C J;have key:m * m * (Dt f P * W a (W b (Dt f)) (j::p::P))=m * m * (W b (Dt f) (p::P) * W a (Dt f) (j::P) - W a (Dt f) (p::P) * W b (Dt f) (j::P)):=by
  rw[e1] at e2;have e3:m * m * (W b (Dt f) (p::P) * W a (Dt f) (j::P) - W a (Dt f) (p::P) * W b (Dt f) (j::P))=(m * W b (Dt f) (p::P)) * (m * W a (Dt f) (j::P)) - (m * W a (Dt f) (p::P)) * (m * W b (Dt f) (j::P)):=by grind
  rw[e3,F,G,C,J];have e4:m * m * (Dt f P * W a (W b (Dt f)) (j::p::P))=Dt f P * (m * m * W a (W b (Dt f)) (j::p::P)):=by grind
  rw[e4,e2]
  grind
 exact Int.eq_of_mul_eq_mul_left (KQ E E) key
def Sp.add'(a:Sp rs u)(hv:Sp rs v):Sp rs λq=>u q+v q:=by
 induction hv with
 | nil=>simpa using a
 | @add v r c _ m f =>
  have:=Sp.add c f m
  rw[show (λq=>u q+(v q+c * r q))=λq=>(u q+v q)+c * r q by funext q;lia];exact this
def Sp.smul(k:Int)(hv:Sp rs v):Sp rs λq=>k * v q:=by
 induction hv with
 | nil=>simpa using Sp.nil
 | @add v r c _ m a =>
  have:=Sp.add (k * c) a m
  rw[show (λq=>k * (v q+c * r q))=λq=>k * v q+(k * c) * r q by funext q;grind];exact this
def Sp.mono(h:Sp rs v):Sp (r::rs) v:=by
 induction h with
 | nil=>exact .nil
 | add c _ m a=>exact .add c a (m1 _ m)
def Kc(r:Vc):∀(L:List Nat) (F:Nat->Fm),(∀L,Sp rs λj=>F j L)->Sp rs λj=>W r (F j) L
 | [],F,h=>Sp.nil
 | q::L,F,h=>by
  have a:=(h L).smul (r q);have f:=(Kc r L (λj l=>F j (q::l)) λL=>h (q::L)).smul (-1)
  have:=a.add' f
  rw[show (λj=>W r (F j) (q::L))=λj=>r q * F j L + -1 * W r (λl=>F j (q::l)) L by funext j;simp only[W];lia];exact this
def G2:∀(a:List Vc) (L:List Nat),Sp a λj=>Dt a (j::L)
 | [],L=>by
  rw[show (λj=>Dt [] (j::L))=λ_=>0 by funext j;rfl];exact .nil
 | r::a,L=>by
  have f:Sp (r::a) λj=>r j * Dt a L:=by
   have:=(Sp.add (rs:=r::a) (r:=r) (Dt a L) .nil (by simp))
   rw[show (λj=>r j * Dt a L)=λj=>0+Dt a L * r j by funext j;grind];exact this
  have i:=(Kc (rs:=r::a) r L (λj l=>Dt a (j::l)) λL=>(G2 a L).mono).smul (-1)
  have:=f.add' i
  rw[show (λj=>Dt (r::a) (j::L))=λj=>r j * Dt a L + -1 * W r (λl=>Dt a (j::l)) L by funext j;show r j * Dt a L - _=_;lia];exact this
abbrev Lf(rs:List Vc)(P:List Nat)(a:Vc):Vc:=λj=>W a (Dt rs) (j::P)
def rL(f:List Vc)(P:List Nat)(a:Vc):∃u,Sp f u/\∀j,Lf f P a j=Dt f P * a j+u j:=by
 refine⟨λj => -1 * W a (λl=>Dt f (j::l)) P,(Kc a P (λj l=>Dt f (j::l)) λL=>G2 f L).smul (-1),λj=>?_⟩;show a j * Dt f P - _=_
 have:a j * Dt f P=Dt f P * a j:=Qy _ _
 dsimp only;lia
structure Stg (rs:List Vc) (P:List Nat):Prop where
 ne:Dt rs P≠0
 van:∀a q,q∈P->Lf rs P a q=0
def Su:Stg [] []:=⟨by decide,λ_ _ h=>by cases h⟩
def Stg.step(s:Stg rs P)(a b:Vc)(j p:Nat):Dt rs P * Lf (b::rs) (p::P) a j=Lf rs P b p * Lf rs P a j - Lf rs P a p * Lf rs P b j:=by
 obtain⟨u,i,f⟩:=rL rs P a;obtain⟨v,l,r⟩:=rL rs P b;exact Uo s.ne (a':=Lf rs P a) (b':=Lf rs P b) f r i l (s.van a) (s.van b) j p
def Stg.next(s:Stg rs P)(h:Lf rs P b p≠0):Stg (b::rs) (p::P):=by
 refine⟨h,λa q f=>?_⟩;have e:=s.step a b q p;have z:Dt rs P * Lf (b::rs) (p::P) a q=0:=by
  rw[e];rcases ml.mp f with rfl|f
  .rw[Qy];lia
  .rw[s.van a q f,s.van b q f];simp
 exact (Qr.mp z).resolve_left s.ne
def mr(p:Nat):Vc:=λq=>if q=p then 1 else 0
def Hd(a:List Vc)(P:List Nat)(p:Nat):Vc:=λj=>Lf a P (λq => -mr p q) j+Dt a P * mr p j
def zS(a:p∉P)(j:Nat):Hd (b::rs) (p::P) p j=Lf rs P b j:=by
 have off:∀f:Fm,W (λq => -mr p q) f P=0:=λf=>ji _ _ _ λq i=>by
  have:q≠p:=λz=>a (z▸i)
  simp[mr,this]
 show (-mr p j * W b (Dt rs) (p::P) - (-mr p p * W b (Dt rs) (j::P) - W (λq => -mr p q) _ P))+W b (Dt rs) (p::P) * mr p j=W b (Dt rs) (j::P);rw[off,show mr p p=1 by simp[mr]]
 grind
def zQ(s:Stg rs P)(ne:p'≠p)(j:Nat):Dt rs P * Hd (b::rs) (p'::P) p j=Lf rs P b p' * Hd rs P p j - Hd rs P p p' * Lf rs P b j:=by
 have e:=s.step (λq => -mr p q) b j p';unfold Hd;rw[show mr p p'=0 by simp[mr,ne]];show Dt rs P * (Lf (b::rs) (p'::P) (λq => -mr p q) j+Lf rs P b p' * mr p j)=_;rw[Int.mul_add,e]
 grind
def fU(s:Stg rs P)(a:q∈P):Hd rs P p q=Dt rs P * mr p q:=by
 unfold Hd;rw[s.van _ q a];lia
def yB(a:List Vc)(P:List Nat)(p:Nat):Sp a (Hd a P p):=by
 obtain⟨u,i,f⟩:=rL a P λq => -mr p q;rw[show Hd a P p=u by funext j;unfold Hd;rw[f];grind];exact i
def G3:∀(l:List Nat) (f:Fm),(∀q∈l,a q=b q)->W a f l=W b f l
 | [],f,_=>rfl
 | q::l,f,h=>by
  simp only[W];rw[h q (by simp),G3 l _ λq i=>h q (m1 _ i)]
def di(P:List Nat)(f:Nat->Int):Int:=(P.map f).foldr (·+·) 0
def df:di (p::P) f=f p+di P f:=rfl
def G4(f:Fm)(l:List Nat)(a:Vc):∀Q:List Nat,W (λq=>di Q λp=>a p * mr p q) f l=di Q λp=>a p * W (mr p) f l
 | []=>ji _ _ _ λ_ _=>rfl
 | p::Q=>by
  have:=jq (a p) 1 (mr p) (λq=>di Q λp=>a p * mr p q) l f
  rw[show (λq=>di (p::Q) λp=>a p * mr p q)=λq=>a p * mr p q+1 * di Q λp=>a p * mr p q by funext q;rw[df];lia,this,G4 f l a Q,df];lia
def wS(nd:P.Nodup)(a:Vc)(q:Nat):(di P λp=>a p * mr p q)=if q∈P then a q else 0:=by
 induction P with
 | nil=>rfl
 | cons p P f =>
  rw[df,f (CU.mp nd).2];by_cases e:q=p
  .subst e;simp[mr,(CU.mp nd).1]
  .by_cases h:q∈P <;> simp[mr,e,h]
def BH:(di P λp => -f p) = -di P f:=by
 induction P with
 | nil=>rfl
 | cons p P a=>rw[df,df,a];lia
def oq(h:∀p∈P,f p=g p):di P f=di P g:=by
 induction P with
 | nil=>rfl
 | cons p P a=>rw[df,df,h p (by simp),a λq i=>h q (m1 _ i)]
def wf(s:Stg rs P)(nd:P.Nodup)(a:Vc)(j:Nat):Lf rs P a j=Dt rs P * a j - di P λp=>a p * Hd rs P p j:=by
 by_cases f:j∈P
 .rw[s.van a j f]
  have:(di P λp=>a p * Hd rs P p j)=di P λp=>(Dt rs P * a p) * mr p j:=oq λp _=>by rw[fU s f];grind
  rw[this,wS nd (λp=>Dt rs P * a p) j,d_ f];lia
 .have e1:Lf rs P a j=W (λq=>a j * mr j q+1 * di P λp=>a p * mr p q) (Dt rs) (j::P):=by
   refine G3 _ _ λq i=>?_;rw[wS nd a q];rcases ml.mp i with rfl|i
   .simp[mr,f]
   .have:q≠j:=λz=>f (z▸i)
    simp[mr,this,i]
  rw[e1,jq,G4];have e2:W (mr j) (Dt rs) (j::P)=Dt rs P:=by
   show mr j j * Dt rs P - W (mr j) _ P=_
   rw[ji (mr j) P _ λq i=>by
    have:q≠j:=λz=>f (z▸i)
    simp[mr,this]]
   simp[mr]
  rw[e2];have e3:(di P λp=>a p * Hd rs P p j)=di P λp => -(a p * W (mr p) (Dt rs) (j::P)):=oq λp l=>by
   have ne:¬j=p:=λz=>f (z▸l);have e4:Lf rs P (λq => -mr p q) j = -W (mr p) (Dt rs) (j::P):=by
    have:=jq (-1) 0 (mr p) (mr p) (j::P) (Dt rs)
    show W (λq => -mr p q) (Dt rs) (j::P)=_;rw[show (λq => -mr p q)=λq => -1 * mr p q+0 * mr p q by funext q;lia,this];lia
   unfold Hd;rw[e4];simp[mr,ne,Int.mul_neg]
  rw[e3,BH]
  have:a j * Dt rs P=Dt rs P * a j:=Qy _ _
  lia
def AD(a:∀q,(r q).natAbs<=M):∀(l:List Nat) (f:Fm) (N B:Nat),l.length<=N+1->(∀l,l.length<=N->(f l).natAbs<=B)->(W r f l).natAbs<=l.length * (M * B)
 | [],f,N,B,_,_=>by simp[W]
 | q::l,f,N,B,i,h=>by
  simp only[W,pk] at *;have j:(W r (λl=>f (q::l)) l).natAbs<=l.length * (M * B):=by
   cases N with
   | zero =>
    have:l=[]:=En.mp (by lia)
    subst this;simp[W]
   | succ N=>exact AD a l (λl=>f (q::l)) N B (by lia) λl i=>h (q::l) (by simp;lia)
  have u:(r q * f l).natAbs<=M * B:=by rw[DK];exact Gm (a q) (h l (by lia))
  have y:(l.length+1) * (M * B)=l.length * (M * B)+M * B:=by rw[Nat.add_mul,Nat.one_mul]
  lia
def mT:∀(a:List Vc),(∀r∈a,∀q,(r q).natAbs<=M)->∀l:List Nat,l.length<=16->(Dt a l).natAbs<=(16 * M) ^ a.length
 | [],_,l,_=>by
  show (one l).natAbs<=1;unfold one;split <;> decide
 | r::a,h,l,j=>by
  have f:=AD (h r (by simp)) l (Dt a) 16 ((16 * M) ^ a.length) (by lia) (mT a λx i=>h x (m1 _ i));refine yi f ?_;rw[pk,Qw]
  have:l.length * (M * (16 * M) ^ a.length)<=16 * (M * (16 * M) ^ a.length):=Hf _ j
  have e:16 * (M * (16 * M) ^ a.length)=(16 * M) ^ a.length * (16 * M):=by rw[<-Nat.mul_assoc,OO]
  lia
def wM(h:∀r∈rs,∀q,(r q).natAbs<=M)(i:∀q,(a q).natAbs<=M)(l:P.length<=15)(j:Nat):(Lf rs P a j).natAbs<=(16 * M) ^ (rs.length+1) :=
 mT (a::rs) (λr f=>by
  rcases ml.mp f with rfl|f
  .exact i
  .exact h r f) (j::P) (by simp;lia)
def FM(y:1<=M)(h:∀r∈rs,∀q,(r q).natAbs<=M)(i:P.length<=15)(j:Nat):(Hd rs P p j).natAbs<=2 * (16 * M) ^ (rs.length+1):=by
 have l:=wM (P:=P) (a:=λq => -mr p q) h (λq=>by unfold mr;split <;> simp <;> lia) i j;have f:=mT rs h P (by lia);have z:(16 * M) ^ rs.length<=(16 * M) ^ (rs.length+1):=Eo (by lia) (by lia);have u:(Dt rs P * mr p j).natAbs<=(16 * M) ^ rs.length:=by
  rw[DK]
  have:(mr p j).natAbs<=1:=by unfold mr;split <;> decide
  exact yi (Gm f this) (by lia)
 unfold Hd;lia
abbrev vc(l:List Int):Vc:=λj=>l.getD j 0
def tb(N:Nat)(v:Vc):List Int:=(List.range N).map v
def dN:(tb N v).length=N:=by simp[tb]
def jg(h:j<N):(tb N v).getD j 0=v j:=by
 rw[o_];simp[tb,h]
def N3(l:List Int):tb l.length (vc l)=l:=by
 apply Lm
 .simp[tb]
 .intro i f a;simp only[tb,Ln,List.getElem_range];show l.getD i 0=_;rw[o_,p_ a];rfl
def yD(f:p<N)(hd:d≠0)(h:∀j,d * u j=b p * a j - a p * b j):PQ (tb N a) (tb N b) p d=tb N u:=by
 unfold PQ;rw[jg f,jg f];unfold tb;rw[List.zip_map',oF];refine B_ λj _=>?_;show (b p * a j - a p * b j).fdiv d=u j;rw[<-h j,SX _ hd]
abbrev tD(N:Nat)(v:Vc):D:=iD (tb N v)
structure RI (M:Nat) (V:List Vc) (pl:Nat) (R:List Vc) (P:List Nat) (L:List Vc):Prop where
 st:Stg R P
 nd:P.Nodup
 lt:∀p∈P,p<pl
 len:R.length=P.length
 all:∀v,v∈V↔v∈R\/v∈L
 sz:∀v∈V,∀q,(v q).natAbs<=M
 off:∀q,q<pl->q∉P->∀a∈L,Lf R P a q=0
 ll:L.length<=V.length
 srt:P.Pairwise (·>·)
 low:∀p∈P,∀q,q<p->q∉P->Hd R P p q=0
def RI.pl{M:Nat}{pl:Nat}{P:List Nat}(i:RI M V pl R P L):P.length<=pl:=by
 have:=List.Nodup.length_le_of_subset i.nd (l₂:=List.range pl) λp a=>pa.mpr (i.lt p a)
 simpa using this
def RI.skip{M:Nat}{pl:Nat}{P:List Nat}(i:RI M V pl R P L)(h:∀a∈L,Lf R P a pl=0):RI M V (pl+1) R P L :=
 ⟨i.st,i.nd,λp l=>by have:=i.lt p l;lia,i.len,i.all,i.sz,λq r j a f=>by
  rcases Nat.lt_or_ge q pl with z|z
  .exact i.off q z j a f
  .have:q=pl:=by lia
   subst this;exact h a f,i.ll,i.srt,i.low⟩
def RI.take{M:Nat}{pl:Nat}{P:List Nat}(i:RI M V pl R P L){k:Nat}(u:k<L.length)(h:Lf R P L[k] pl≠0):RI M V (pl+1) (L[k]::R) (pl::P) (L.eraseIdx k):=by
 have B:∀v,v∈L↔v=L[k]\/v∈L.eraseIdx k:=λv=>by
  rw[List.mem_eraseIdx_iff_getElem?,KI];constructor
  .rintro⟨j,e⟩;by_cases z:j=k
   .subst z;rw[p_ u] at e;exact .inl (Option.some.inj e).symm
   .exact .inr ⟨j,z,e⟩
  .rintro (rfl|⟨j,_,e⟩)
   .exact⟨k,p_ u⟩
   .exact⟨j,e⟩
 refine⟨i.st.next h,CU.mpr ⟨λz=>by have:=i.lt _ z;lia,i.nd⟩,λp f=>?_,by simp[i.len],λv=>?_,i.sz,λq y r a E=>?_,?_,DG.mpr ⟨i.lt,i.srt⟩,λp f q y r=>?_⟩
 .rcases ml.mp f with rfl|f
  .lia
  .have:=i.lt p f;lia
 .rw[i.all v,B v,ml];constructor
  .rintro (z|z | z)
   .exact .inl (.inr z)
   .exact .inl (.inl z)
   .exact .inr z
  .rintro ((z|z)|z)
   .exact .inr (.inl z)
   .exact .inl z
   .exact .inr (.inr z)
 .have ne:q≠pl:=λz=>r (by simp[z]);have l:q∉P:=λz=>r (m1 _ z);have e:=i.st.step a L[k] q pl;rw[i.off q (by lia) l a ((B a).mpr (.inr E)),i.off q (by lia) l L[k] (CF u)] at e;have z:Dt R P * Lf (L[k]::R) (pl::P) a q=0:=by rw[e];simp
  exact (Qr.mp z).resolve_left i.st.ne
 .have:=i.ll
  rw[P7];split <;> lia
 .have C:Lf R P L[k] q=0:=by
   have l:q∉P:=λz=>r (m1 _ z);refine i.off q ?_ l _ (CF u);rcases ml.mp f with rfl|f
   .exact y
   .have:=i.lt p f;lia
  rcases ml.mp f with rfl|f
  .rw[zS λz=>by have:=i.lt _ z;lia];exact C
  .have e:=zQ i.st (b:=L[k]) (p:=p) (p':=pl) (λz=>by have:=i.lt p f;lia) q;rw[i.low p f q y λz=>r (m1 _ z),C] at e;have z:Dt R P * Hd (L[k]::R) (pl::P) p q=0:=by rw[e];simp
   exact (Qr.mp z).resolve_left i.st.ne
def nO{M m k c:Nat}{x:Int}(a:M<=2 ^ m)(f:k<=c)(u:x.natAbs<=2 * (16 * M) ^ k):x.natAbs<2 ^ (2+c * (4+m)):=by
 have i:(16 * M) ^ k<=(2 ^ (4+m)) ^ k:=Nat.pow_le_pow_left (by rw[OS];exact Nat.mul_le_mul_left 16 a) k;have j:(2 ^ (4+m)) ^ k<=2 ^ (c * (4+m)):=by
  rw[<-Nat.pow_mul];refine Eo (by decide) ?_;rw[OO];exact Hf _ f
 have r:2 ^ (2+c * (4+m))=4 * 2 ^ (c * (4+m)):=by rw[OS]
 have l:0<2 ^ (c * (4+m)):=Hk (by decide);lia
def RI.szL{M m c:Nat}{pl:Nat}{P:List Nat}(i:RI M V pl R P L)(z:pl<=13)(B:pl+1<=c)(u:M<=2 ^ m)(l:a∈V)(j:Nat):(Lf R P a j).natAbs<2 ^ (2+c * (4+m)):=by
 have y:=i.pl
 have:=wM (M:=M) (P:=P) (rs:=R) (a:=a) (λr f=>i.sz r ((i.all r).mpr (.inl f))) (i.sz a l) (by lia) j
 exact nO (k:=R.length+1) u (by rw[i.len];lia) (by lia)
def RI.szH{M m c:Nat}{pl:Nat}{P:List Nat}(i:RI M V pl R P L)(u:pl<=13)(z:pl+1<=c)(a:1<=M)(l:M<=2 ^ m)(p j:Nat):(Hd R P p j).natAbs<2 ^ (2+c * (4+m)):=by
 have y:=i.pl
 have:=FM (M:=M) (P:=P) (rs:=R) (p:=p) a (λr f=>i.sz r ((i.all r).mpr (.inl f))) (by lia) j
 exact nO (k:=R.length+1) l (by rw[i.len];lia) this
def rR(h:∀j,(v j).natAbs<2 ^ k):∀x∈tb N v,x.natAbs<2 ^ k:=λx a=>by
 obtain⟨j,_,rfl⟩:=mu.mp a;exact h j
def p5{f:Nat->D}{p:Nat}:∀{Q:List Nat},p∈Q->p7 (Q.map λ(p:Nat)=>(p:Int)) (Q.map f) (p:Int)=some (f p)
 | q::Q,h=>by
  rw[m3,m3,p7];by_cases e:q=p
  .subst e;rw[d_ rfl]
  .rw[g_ (by lia)];exact p5 ((ml.mp h).resolve_left λz=>e z.symm)
def nK{f:Nat->D}{p:Nat}:∀{Q:List Nat},p∉Q->p7 (Q.map λ(p:Nat)=>(p:Int)) (Q.map f) (p:Int)=none
 | [],h=>rfl
 | q::Q,h=>by
  rw[m3,m3,p7,g_ (λz=>h (by rw[show q=p by lia];simp))];exact nK λz=>h (m1 _ z)
def sn{f:Nat->D}{p:Nat}{v:D}:∀{Q:List Nat},Q.Nodup->p∈Q->jn (Q.map λ(p:Nat)=>(p:Int)) (Q.map f) (p:Int) v=(Q.map λ(p:Nat)=>(p:Int),Q.map λq=>if q=p then v else f q)
 | q::Q,nd,h=>by
  rw[m3,m3,jn];by_cases e:q=p
  .subst e;rw[d_ rfl,m3,d_ rfl]
   have:(Q.map λx=>if x=q then v else f x)=Q.map f:=B_ λx i=>g_ λ(z:x=q)=>(CU.mp nd).1 (z▸i)
   rw[this]
  .have a:=sn (f:=f) (v:=v) (CU.mp nd).2 ((ml.mp h).resolve_left λz=>e z.symm);rw[g_ (by lia),a,m3,g_ e]
def uV{f:Nat->D}{p:Nat}{v:D}:∀{Q:List Nat},p∉Q->jn (Q.map λ(p:Nat)=>(p:Int)) (Q.map f) (p:Int) v=((Q++[p]).map λ(p:Nat)=>(p:Int),Q.map f++[v])
 | [],h=>rfl
 | q::Q,h=>by
  have a:=uV (f:=f) (v:=v) (Q:=Q) λz=>h (m1 _ z);rw[m3,m3,jn,g_ (λz=>h (by rw[show q=p by lia];simp)),a];rfl
abbrev DX(fz:Bool)(Q:List Nat)(f:Nat->D):D:=.dic fz (Q.map λ(p:Nat)=>(p:Int)) (Q.map f)
abbrev bj(fz:Bool)(N:Nat)(R:List Vc)(P:List Nat):D:=DX fz P.reverse λp=>tD N (Hd R P p)
abbrev dZ(N:Nat)(R:List Vc)(P:List Nat)(L:List Vc):D:=.lst (L.map λa=>tD N (Lf R P a))
def vG{n0 r0 x3 x6:Option D}{N pl k:Nat}{c:Vc}{d:Int}{f g:Nat->Vc}{s:hB}(l:pl<N)(hN:N<=10000)(hd:d≠0)(E:k<=1000000)(B:∀j,(c j).natAbs<2 ^ k){a:List Nat}(nd:a.Nodup)(H:a.length<=1000)
  (F:∀p j,(f p j).natAbs<2 ^ k) (C:∀p∈a,∀j,d * g p j=c pl * f p j - f p pl * c j):∀(Q A:List Nat) (r:Option D),a=A++Q ->
  ∃i,C4 (ia 8:Xg [2,3]).p Sd.p (Q.map λ(p:Nat)=>D.int (p:Int)) [n0,r0,some (DX false a λp=>tD N (if p∈A then g p else f p)),x3,some (.int d),some (.int (pl:Int)),x6,some (tD N c),r] s=.nx [n0,r0,some (DX false a λp=>tD N (g p)),x3,some (.int d),some (.int (pl:Int)),x6,some (tD N c),i] s
 | [],A,r,e=>⟨r,by
   rw[DC] at e;subst e
   have:(a.map λp=>tD N (if p∈a then g p else f p))=a.map λp=>tD N (g p):=B_ λp l=>by rw[d_ l]
   show PS.nx _ s=_
   rw[DX,DX,this]⟩
 | q::Q,A,r,e=>by
  have u:q∈a:=by rw[e];simp
  have G:q∉A:=λz=>by
   rw[e,KO] at nd;exact nd.2.2 q z q (by simp) rfl
  obtain⟨i,J⟩:=vG (n0:=n0) (r0:=r0) (x3:=x3) (x6:=x6) (s:=s) l hN hd E B nd H F C Q (A++[q]) (some (.int (q:Int))) (by rw[e];simp);refine⟨i,?_⟩;have cl:=qA (row:=tb N (f q)) (ch:=tb N c) (p:=pl) (k:=k) (d:=d) (s:=s) (by rw[dN];exact l) (by rw[dN];exact l) (by rw[dN];exact hN) hd (rR (F q)) (rR B) E;rw[yD l hd (C q u)] at cl;have I:p7 (a.map λ(p:Nat)=>(p:Int)) (a.map λp=>tD N (if p∈A then g p else f p)) (q:Int)=some (tD N (f q)):=by
   rw[p5 (f:=λp=>tD N (if p∈A then g p else f p)) u,g_ G]
  have e1:Sd.p [n0,r0,some (DX false a λp=>tD N (if p∈A then g p else f p)),x3,some (.int d),some (.int (pl:Int)),x6,some (tD N c),some (.int (q:Int))] s=.nx [n0,r0,some (DX false a λp=>tD N (if p∈A++[q] then g p else f p)),x3,some (.int d),some (.int (pl:Int)),x6,some (tD N c),some (.int (q:Int))] s:=by
   rw[wA,t6 (v:=tD N (g q)) (s1:=s) (j:=(q:Int)) (s2:=s) (ks:=a.map λ(p:Nat)=>(p:Int)) (ds:=a.map λp=>tD N (if p∈A then g p else f p)) (by
    simp![aB,ag,au,ah];rw[show nI.p (DX false a λp=>tD N (if p∈A then g p else f p)) (.int (q:Int))=some (tD N (f q)) from I]
    simp only[Pf,Pb,cl]) (by simp only[ae,af]) rfl (by simp;lia)]
   rw[sn nd u]
   have:(a.map λx=>if x=q then tD N (g q) else tD N (if x∈A then g x else f x))=a.map λp=>tD N (if p∈A++[q] then g p else f p):=B_ λp _=>by
    by_cases z:p=q
    .subst z;simp
    .by_cases y:p∈A <;> simp[z,y]
   simp only[this,si,r_]
  rw[m3,d3 (env1:=[n0,r0,some (DX false a λp=>tD N (if p∈A then g p else f p)),x3,some (.int d),some (.int (pl:Int)),x6,some (tD N c),some (.int (q:Int))]) (by rfl),e1];exact J
abbrev Up:Xd [2,3]:=(aA (ug 7 CK 3 (aa (ac h8 (ab 6) (xC (.int 0))) a_))
 (aA (dI 3 (aO 1 [7,5,4] (aV (ab 3)) (ws':=[]) (ia 0) f_ (aj cL (aa (ab 0) (aa (ab 1) (aa (ab 2) (aa (ab 3) a_)))))))
 (aA (dj (aV (n_ oY (aa (ab 2) a_))) (ia 8) (kO 2 (ab 8) (aj cL (aa (ac nI (ab 2) (ab 8)) (aa (ab 7) (aa (ab 5) (aa (ab 4) a_)))))))
 (aA (kO 2 (ab 5) (ab 7))
 (aQ 4 (ac h8 (ab 7) (ab 5)))))))
abbrev TX:Xd [2,3]:=(aA (aQ 6 (aO 2 [5] (be iE (aa (ab 3) a_)) (ws':=[]) (w_ (n7 (ia 0) (n7 (ia 1) w9)) 2) (xB (ac vr (ac h8 (ab 1) (ab 2)) (xC (.int 0)))) (ab 0)))
 (va (Jn (ab 6)) Up i_))
def B2{α:Type}(f:α->D)(l:List α):rW (l.map f)=l.zipIdx.map λx=>.tup [.int ((x.2:Nat):Int),f x.1]:=by
 unfold rW;rw[List.zipIdx_map,oF];rfl
def AK(h:ks.length<=100000):oY.p [.dic fz ks ds]=some (iD ks):=d_ h
def Kd{hi hj hz}:(ug j o i a hi hj hz).p env s=Dp o i a.p env s λr env s=>.nx (env.set j (some r)) s:=rfl
def FN{a:List D}{k:Nat}{d:D}(h:a[k]?=some d)(f:k<=1000):CK.p a [.int (k:Int)]=some (d,a.eraseIdx k):=by
 have e:(0:Int)<=(k:Int)/\(k:Int)<2 ^ 62:=by lia
 unfold CK;dsimp only;rw[d_ e,v_,h];rfl
def li{α β:Type}(f:α->β)(l:List α)(k:Nat):(l.map f).eraseIdx k=(l.eraseIdx k).map f:=by
 induction l generalizing k with
 | nil=>rfl
 | cons a l i=>cases k with
  | zero=>rfl
  | succ k=>simp only[m3,List.eraseIdx_cons_succ,i]
def N4{x:D}{xs:List D}:nk (x::xs) 0=some x:=by
 have:=L2.cW (xs:=x::xs) (j:=0) (v:=x) rfl
 simpa using this
def FO{M m N pl c:Nat}{P:List Nat}(i:RI M V pl R P L)(C:pl<N)(al:pl<=12)(hN:N<=10000)(h1:1<=M)(hM:M<=2 ^ m)(hc:pl+1<=c)(kk:2+c * (4+m)<=1000000)(hV:V.length<=1000) :
  ∃S O L' Y X G,RI M V (pl+1) S O L'/\TX.p [n0,r0,some (bj false N R P),some (dZ N R P L),some (.int (Dt R P)),some (.int (pl:Int)),x6,x7,x8] s=.nx [n0,r0,some (bj false N S O),some (dZ N S O L'),some (.int (Dt S O)),some (.int (pl:Int)),Y,X,G] s:=by
 have ai:=i.ll;have hP:=i.pl;have c1:=eD (ws:=[2,3]) (ws':=[]) (env:=[n0,r0,some (bj false N R P),some (dZ N R P L),some (.int (Dt R P)),some (.int (pl:Int)),x6,x7,x8]) (s:=s) (s0:=s) (fm:=[5]) (i:=be iE (aa (ab 3) a_)) (t:=xB (ac vr (ac h8 (ab 1) (ab 2)) (xC (.int 0)))) (e:=ab 0) (l:=L.zipIdx) (λx=>D.int ((x.2:Nat):Int)) (λx=>tD N (Lf R P x.1)) (λx=>D.int ((x.2:Nat):Int)) (λx=>!decide (Lf R P x.1 pl=0))
  (by simp![bB,ag,ah,Rz,Pf,B2]) (by simp;lia) λx _=>⟨by
   show (xB _:Xt []).p [some (.int ((x.2:Nat):Int)),some (tD N (Lf R P x.1)),some (.int (pl:Int))] s=_
   simp![bO,au,bF,lJ (show pl<(tb N (Lf R P x.1)).length by rw[dN];exact C),jg C,Pf,aL,aD,cg,bE,if_true,PR.bl],λ_=>rfl⟩
 rw[av,aN,c1];simp![Pg,si,r_,PU.ak,ca,rH]
 cases ef:L.zipIdx.filter λx=>!decide (Lf R P x.1 pl=0) with
 | nil =>
  refine⟨R,P,L,some (.lst []),x7,x8,i.skip λa E=>?_,?_⟩
  .obtain⟨k,Q⟩:=KI.mp E
   have:(a,k)∈L.zipIdx:=Oq.mpr (by simpa using Q)
   have z:¬((a,k)∈L.zipIdx.filter λx=>!decide (Lf R P x.1 pl=0)):=by rw[ef];simp
   rw[y6] at z
   have:=λy=>z ⟨this,y⟩
   simpa using this
  .rw[Hj,show kK (.lst [])=some false from rfl];rfl
 | cons y B =>
  obtain⟨H,u⟩:=y;have hy:(H,u)∈L.zipIdx.filter λx=>!decide (Lf R P x.1 pl=0):=by rw[ef];simp
  rw[y6] at hy;obtain⟨hz,F⟩:=hy;have J:L[u]?=some H:=by simpa using Oq.mp hz
  obtain⟨Q,ea⟩:=tr.mp J;have F:Lf R P L[u] pl≠0:=by rw[ea];simpa using F
  have i2:=i.take Q F;have mv:∀a,a∈L->a∈V:=λa E=>(i.all a).mpr (.inr E);have bL:∀a,a∈L->∀j,(Lf R P a j).natAbs<2 ^ (2+c * (4+m)):=λa E j=>i.szL (by lia) hc hM (mv a E) j;have hb:L[u]∈L:=CF Q;have pp:CK.p (L.map λa=>tD N (Lf R P a)) [.int ((u:Nat):Int)]=some (tD N (Lf R P L[u]),(L.eraseIdx u).map λa=>tD N (Lf R P a)):=by
   rw[FN (d:=tD N (Lf R P H)) (by rw[tt,J];rfl) (by lia),li,ea]
  have c2:=bN (ws:=[2,3]) (ws':=[]) (env:=[n0,r0,some (bj false N R P),some (.lst ((L.eraseIdx u).map λa=>tD N (Lf R P a))),some (.int (Dt R P)),some (.int (pl:Int)),some (.lst (((H,u)::B).map λx=>D.int ((x.2:Nat):Int))),some (tD N (Lf R P L[u])),x8]) (s:=s) (s0:=s) (fm:=[7,5,4]) (i:=aV (ab 3)) (t:=f_) (e:=aj cL (aa (ab 0) (aa (ab 1) (aa (ab 2) (aa (ab 3) a_))))) (l:=L.eraseIdx u) (λa=>tD N (Lf R P a)) (λa=>tD N (Lf (L[u]::R) (pl::P) a)) (λ_=>true)
   (by simp![bI,bn,Pf]) (by rw[P7];split <;> lia) λa E=>⟨rfl,λ_=>by
    show (aj cL _:Xe []).p [some (tD N (Lf R P a)),some (tD N (Lf R P L[u])),some (.int (pl:Int)),some (.int (Dt R P))] s=_;have Z:=S1 E;have cl:=qA (row:=tb N (Lf R P a)) (ch:=tb N (Lf R P L[u])) (p:=pl) (d:=Dt R P) (s:=s) (by rw[dN];exact C) (by rw[dN];exact C) (by rw[dN];exact hN) i.st.ne (rR (bL a Z)) (rR (bL _ hb)) kk;rw[yD C i.st.ne (λj=>i.st.step a L[u] j pl)] at cl
    simp![aB,ag,ah,cl]⟩
  have T:P.reverse.Nodup:=S6.mpr (i.nd.imp Ne.symm);obtain⟨G,hh⟩:=vG (n0:=n0) (r0:=r0) (x3:=some (dZ N (L[u]::R) (pl::P) (L.eraseIdx u))) (x6:=some (.lst (((H,u)::B).map λx=>D.int ((x.2:Nat):Int)))) (N:=N) (pl:=pl) (c:=Lf R P L[u]) (d:=Dt R P) (f:=λp=>Hd R P p) (g:=λp=>Hd (L[u]::R) (pl::P) p) (s:=s) C hN i.st.ne kk (bL _ hb) T (by simp;lia) (λp j=>i.szH (by lia) hc h1 hM p j) (λp U j=>zQ i.st (λz=>by have:=i.lt p (by simpa using U);lia) j) P.reverse [] x8 rfl;refine⟨L[u]::R,pl::P,L.eraseIdx u,some (.lst (((H,u)::B).map λx=>D.int ((x.2:Nat):Int))),some (tD N (Lf R P L[u])),G,i2,?_⟩;rw[show kK (.lst (((H,u)::B).map λx=>D.int ((x.2:Nat):Int)))=some true from rfl];simp only[Pf,Pg,if_true]
  rw[av,Kd,uX (as:=[.int ((u:Nat):Int)]) (s1:=s) (ds:=L.map λa=>tD N (Lf R P a)) (r:=tD N (Lf R P L[u])) (ds':=(L.eraseIdx u).map λa=>tD N (Lf R P a)) (by
   simp![ag,au,aL,aD,bF,m3,N4,Pf,ah]) rfl pp]
  simp only[si,r_,PU.ak];rw[av,dQ,c2];dsimp![fD,if_true,aT];rw[av,cF,bI,bq];simp![ag,ah,AK (show (P.reverse.map λ(p:Nat)=>(p:Int)).length<=100000 by simp;lia),Pf,bn,Pg,oF];have e0:(P.reverse.map λp=>tD N (if p∈([]:List Nat) then Hd (L[u]::R) (pl::P) p else Hd R P p))=P.reverse.map λp=>tD N (Hd R P p):=B_ λp _=>by simp
  rw[DX,e0] at hh;refine (congrArg (λz:PS=>z.then _) hh).trans ?_;rw[PU.ak,av,wA,t6 (v:=tD N (Lf R P L[u])) (s1:=s) (j:=(pl:Int)) (s2:=s) (ks:=P.reverse.map λ(p:Nat)=>(p:Int)) (ds:=P.reverse.map λp=>tD N (Hd (L[u]::R) (pl::P) p)) (by simp only[ae,af]) (by simp only[ae,af]) rfl (by simp;lia)];have I:pl∉P.reverse:=λz=>by have:=i.lt pl (by simpa using z);lia
  rw[uV I];have eh:tD N (Hd (L[u]::R) (pl::P) pl)=tD N (Lf R P L[u]):=by
   rw[show Hd (L[u]::R) (pl::P) pl=Lf R P L[u] by funext j;exact zS (λz=>I (by simpa using z)) j]
  simp![si,r_,PU.ak,aN,au,bF,lJ (show pl<(tb N (Lf R P L[u])).length by rw[dN];exact C),jg C,Pf,Pg];have e5:bj false N (L[u]::R) (pl::P)=.dic false ((P.reverse++[pl]).map λ(p:Nat)=>(p:Int)) (P.reverse.map (λp=>tD N (Hd (L[u]::R) (pl::P) p))++[tD N (Lf R P L[u])]):=by
   unfold bj DX;rw[List.reverse_cons,Eg (f:=λp=>tD N (Hd (L[u]::R) (pl::P) p)),m3,Hj,eh]
  rw[e5];rfl
def q_(n:Nat)(a:List Rw):List Vc:=a.zipIdx.map λx=>vc (wr n a.length x.1 x.2)
def iB:v∈q_ n rs↔∃(k:Nat) (h:k<rs.length),v=vc (wr n rs.length rs[k] k):=by
 unfold q_;rw[mu];constructor
 .rintro⟨⟨r,k⟩,h,rfl⟩;have e:rs[k]?=some r:=by simpa using Oq.mp h
  obtain⟨a,rfl⟩:=tr.mp e;exact⟨k,a,rfl⟩
 .rintro⟨k,a,rfl⟩;exact⟨(rs[k],k),Oq.mpr (by simp[a]),rfl⟩
def An:Lf [] [] a=a:=by
 funext j;show a j * one [] - 0=a j;simp[one]
structure DY (n m:Nat) (rs:List Rw):Prop where
 row:∀r∈rs,jp n r
 sz:∀r∈rs,1+za (kr n r)<=m
def Ke(h:q∈kr n r):sz q<=za (kr n r):=sK (mu.mpr ⟨q,h,rfl⟩)
def N5(h:1+za (kr n r)<=m):∀x∈wr n y r k,x.natAbs<=2 ^ (2 * m):=λx a=>by
 have f:wx n r<2 ^ (1+za (kr n r)):=o4 _ 1 1 (by decide);have j:wx n r<2 ^ m:=xv f (Eo (by decide) h);have e2:2 ^ (2 * m)=2 ^ m * 2 ^ m:=by rw[<-OS];congr 1;lia
 unfold wr at a;rcases CZ.mp a with a|a
 .obtain⟨q,u,rfl⟩:=mu.mp a;have l:q.num.natAbs<2 ^ m:=xv (cD q) (Eo (by decide) (by have:=Ke u;lia));rw[DK,<-Qk,Hg,e2];exact Gm (Dm l) (yi (Lq _ _) (Dm j))
 .obtain⟨i,_,rfl⟩:=mu.mp a
  have:1<=2 ^ m:=Hk (by decide)
  have z:2 ^ m<=2 ^ m * 2 ^ m:=Nat.le_mul_of_pos_left _ this;split
  .rw[Hg,e2];lia
  .simp
def N6(h:∀x∈l,x.natAbs<=B)(q:Nat):(vc l q).natAbs<=B:=by
 show (l.getD q 0).natAbs<=B;rw[o_]
 cases e:l[q]? with
 | none=>simp
 | some x=>exact h x (KI.mpr ⟨q,e⟩)
def TY(h:DY n m rs):RI (2 ^ (2 * m)) (q_ n rs) 0 [] [] (q_ n rs):=by
 refine⟨Su,Qs,(λ_ h=>nomatch h),rfl,λv=>?_,λv hv=>?_,(λq f=>by lia),j_ _,.nil,λ_ h=>nomatch h⟩
 .simp
 .obtain⟨k,a,rfl⟩:=iB.mp hv;exact N6 (N5 (h.sz _ (CF a)))
def N7:dZ (n+1+rs.length) [] [] (q_ n rs)=.lst (rs.zipIdx.map λx=>iD (wr n rs.length x.1 x.2)):=by
 unfold dZ q_;rw[oF];congr 1;refine B_ λx _=>?_;show iD (tb (n+1+rs.length) (Lf [] [] (vc (wr n rs.length x.1 x.2))))=_;rw[An,<-Ka (n:=n) (m:=rs.length) (r:=x.1) (k:=x.2),N3]
def Ak{α:Type}(a:List α)(f:Nat->D)(g:α->Nat->D)(h:∀k (r:k<a.length),f k=g a[k] k):(List.range a.length).map f=a.zipIdx.map λx=>g x.1 x.2:=by
 apply Lm
 .simp
 .intro i j l;simp only[Ln,List.getElem_range,List.getElem_zipIdx];rw[h i (by simpa using j)];simp
def Aq(hn:n<=12)(T:rs.length<=1000)(h:DY n m rs)(hm:2+(n+1) * (4+2 * m)<=400000):∃R P L,RI (2 ^ (2 * m)) (q_ n rs) n R P L/\gI.p [.int (n:Int),k_ rs] s=.ok (.tup [bj true (n+1+rs.length) R P,dZ (n+1+rs.length) R P L]) s:=by
 have Z:m<=400000:=by
  have:1 * (4+2 * m)<=(n+1) * (4+2 * m):=Hf _ (by lia)
  lia
 rw[yc (by rfl)];unfold gL;rw[show mh 9 [D.int (n:Int),k_ rs]=[some (.int (n:Int)),some (k_ rs),none,none,none,none,none,none,none] from rfl];have Y:=bN (ws:=[2,3]) (ws':=[]) (env:=[some (.int (n:Int)),some (k_ rs),some (.dic false [] []),none,none,none,none,none,none]) (s:=s) (s0:=s) (fm:=[0,1]) (i:=be wh (aa (n_ cr (aa (ab 1) a_)) a_)) (t:=f_) (e:=aj dm (aa (ab 1) (aa (ab 2) (aa (ab 0) a_)))) (l:=List.range rs.length) (λ(j:Nat)=>D.int (j:Int)) (λj=>if a:j<rs.length then iD (wr n rs.length rs[j] j) else .non) (λ_=>true)
  (by simp![bB,ag,bq,ah,dJ,oI,Pf];rw[cI (by lia),v_,dC];rfl) (by simp;lia) λj a=>⟨rfl,λ_=>by
   have a:j<rs.length:=pa.mp a;show (aj dm _:Xe []).p [some (.int (j:Int)),some (.int (n:Int)),some (k_ rs)] s=_;have w:=vh (n:=n) (k:=j) (s:=s) (by lia) T a (h.row _ (CF a)) (by have:=h.sz _ (CF a);lia);rw[dif_pos a]
   simp![aB,ag,ah,w]⟩
 have e1:(List.range rs.length).map (λj=>if a:j<rs.length then iD (wr n rs.length rs[j] j) else .non)=rs.zipIdx.map λx=>iD (wr n rs.length x.1 x.2):=Ak rs _ (λr k=>iD (wr n rs.length r k)) λk hk=>by rw[dif_pos hk]
 rw[av,dQ,Jg];dsimp![Jj,if_true];rw[av,dQ,Y,aT,e1,<-N7];dsimp![fD,if_true];rw[av,aN,aL,Pg];simp only[aD,si,r_,PU.ak];obtain⟨J,u,Q,R,P,L,F,B,C,y,f,rfl,rfl⟩:=dA (g:=(ia 5:Xg [2,3]).p) (b:=TX.p) (λj env u=>∃R P L F B C y,RI (2 ^ (2 * m)) (q_ n rs) j R P L/\u=s/\env=[some (.int (n:Int)),some (k_ rs),some (bj false (n+1+rs.length) R P),some (dZ (n+1+rs.length) R P L),some (.int (Dt R P)),F,B,C,y]) (d6 0 n) 0 [some (.int (n:Int)),some (k_ rs),some (.dic false [] []),some (dZ (n+1+rs.length) [] [] (q_ n rs)),some (.int 1),none,none,none,none] s
  ⟨[],[],q_ n rs,none,none,none,none,TY h,rfl,rfl⟩ λj env u d ⟨R,P,L,F,B,C,y,f,S,M⟩ hd=>by
   subst S M;obtain⟨rfl,a⟩:=gn hd;rw[C0] at f ⊢;have ai:(j+1) * (4+2 * m)<=(n+1) * (4+2 * m):=Hf _ (by lia);obtain⟨X,U,O,H,E,G,I,e⟩:=FO (n0:=some (.int (n:Int))) (r0:=some (k_ rs)) (x6:=B) (x7:=C) (x8:=y) (N:=n+1+rs.length) (m:=2 * m) (c:=j+1) (s:=u) f (by lia) (by lia) (by lia) (Hk (by decide)) (j_ _) (by lia) (by lia) (by simp[q_];lia);exact⟨_,_,_,rfl,e,X,U,O,some (.int (j:Int)),H,E,G,I,rfl,rfl⟩
 rw[dh,C0] at f;refine⟨R,P,L,f,?_⟩;rw[av,cF,bB];simp only[ag,ae,Pb,ah];rw[cI (by lia),v_,Pf,Pg];refine (congrArg (λz:PS=>(z.then _).fin) Q).trans ?_
 rw[PU.ak,Jt (ks:=P.reverse.map λ(p:Nat)=>(p:Int)) (ds:=P.reverse.map λp=>tD (n+1+rs.length) (Hd R P p)) rfl (Na (d:=.tup [bj true (n+1+rs.length) R P,dZ (n+1+rs.length) R P L]) (s':=u) rfl (by
  simp![si,r_,bA,bH,ag,ah,pk,tx,show (0+1+1:Nat)<=100000 by decide,if_true,Pg]))]
 rfl
def xy(r:l.length<=10000)(f:b≠0)(j:b.natAbs<2 ^ k)(a:k<=950000):c8.p [iD l,.int b] s=.ok (lD (l.map λw=>Rat.divInt w b)) s:=by
 rw[vm (by rfl)];unfold fG;rw[show mh 2 [iD l,.int b]=[some (iD l),some (.int b)] from rfl,bA];have c:=bN (ws:=[]) (ws':=[]) (env:=[some (iD l),some (.int b)]) (s:=s) (s0:=s) (fm:=[1]) (i:=aV (ab 0)) (t:=f_) (e:=aj bW (aa (ab 0) (aa (ab 1) a_))) (l:=l) D.int (λw=>qD (Rat.divInt w b)) (λ_=>true)
  (by simp only[bI,ae,Pb,bn,Pf]) (by lia) λw _=>⟨rfl,λ_=>by
   show (aj bW _:Xe []).p [some (.int w),some (.int b)] s=_
   simp![aB,ag,ah,jB f j a]⟩
 rw[c];simp only[aT,Pg,PU.bi];simp[lD,oF,Function.comp_def]
def Sv{α:Type}(l:List α)(f:α->D)(k:Nat):jI (l.map f) (some (k:Int)) none=(l.drop k).map f:=by
 have e:HT.mw (l.map f).length 0 (some (k:Int))=min k (l.map f).length:=HT.we _ _ k;unfold jI;rw[e,HT.tV,oI,<-ON,<-OM];congr 1;by_cases z:k<=l.length
 .rw[Qo z,Lc (by simp)]
 .rw[Nat.min_eq_right (by lia),S5 (j_ _),S5 (by lia)];simp
def FP:(tb (n+1+m) v).drop (n+1)=(List.range m).map λk=>v (n+1+k):=by
 unfold tb;rw[<-ON,P6,List.drop_range',List.range'_eq_map_range,oF];rw[show n+1+m - (n+1)=m by lia];refine B_ λk _=>?_;show v (0+(n+1) * 1+k)=_;congr 1;lia
def FQ{n N:Nat}{v:Vc}{f j i u l r:Option D}{s:hB}(a:n<N)(h:v n=0):Se.p [some (.int (n:Int)),f,j,i,some (tD N v),u,l,r] s=.nx [some (.int (n:Int)),f,j,i,some (tD N v),u,l,r] s:=by
 simp![ca,bO,au,bF,lJ (show n<(tb N v).length by rw[dN];exact a),jg a,h,Pf,aL,aD,cg,bE,if_true,PR.bl,decide_true,C_,Pg,su,if_false,ce]
def ls(g:Rw->Rat)(f:Nat->Rat):List Rw->Nat->Rat
 | [],_=>0
 | r::a,k=>g r * f k+ls g f a (k+1)
def oV:∀(i:List Rw) (k:Nat),ls g (λk=>a * f k+b * h k) i k=a * ls g f i k+b * ls g h i k
 | [],k=>by simp only[ls];grind
 | r::i,k=>by simp only[ls];rw[oV i (k+1)];grind
def yP:∀(a:List Rw) (k:Nat),i<k->ls g (λk=>if k=i then c else 0) a k=0
 | [],k,_=>rfl
 | r::a,k,h=>by simp only[ls];rw[yP a (k+1) (by lia),g_ (by lia)];grind
def Ag:∀(a:List Rw) (k j:Nat) (h:j<a.length),ls g (λi=>if i=k+j then c else 0) a k=g a[j] * c
 | r::a,k,0,h=>by simp only[ls];rw[yP a (k+1) (by lia)];simp;grind
 | r::a,k,j+1,h=>by
  simp only[ls];rw[g_ (by lia)]
  have:=Ag (g:=g) (c:=c) a (k+1) j (by simpa using h)
  rw[show k+1+j=k+(j+1) by lia] at this;rw[this,List.getElem_cons_succ];grind
def Av:∀(i:List Rw) (k:Nat) (a:Rat),bT a ((i.zip ((List.range' k i.length).map f)).map λp=>(g p.1,p.2))=a+ls g f i k
 | [],k,a=>by show a=a+0;grind
 | r::i,k,a=>by
  rw[pk,Qh,m3,KL,m3];show bT (a+g r * f k) _=_;rw[Av i (k+1)];simp only[ls];grind
def sI:∀(a:List Rw) (k:Nat),(∀i,k<=i->i<k+a.length->f i=h i)->ls g f a k=ls g h a k
 | [],k,_=>rfl
 | r::a,k,e=>by
  simp only[ls];rw[e k (j_ _) (by simp),sI a (k+1) λi j l=>e i (by lia) (by simp only[pk];lia)]
abbrev nm(n j:Nat)(r:Rw):Rat:=(kr n r).getD j 0
def Lin(n:Nat)(a:List Rw)(v:Vc):Prop:=∀j,j<=n->((v j:Int):Rat)=ls (nm n j) (λk=>((v (n+1+k):Int):Rat)) a 0
def Lin.comb(l:Lin n rs u)(hv:Lin n rs v)(a b:Int):Lin n rs λq=>a * u q+b * v q:=λj i=>by
 have e:=oV (g:=nm n j) (f:=λk=>((u (n+1+k):Int):Rat)) (h:=λk=>((v (n+1+k):Int):Rat)) (a:=(a:Rat)) (b:=(b:Rat)) rs 0;rw[<-l j i,<-hv j i] at e;simp only[Rat.intCast_add,Rat.intCast_mul];exact e.symm
def FR(h:q∈kr n r):((q.num * ((wx n r:Int) / (q.den:Int)):Int):Rat)=q * ((wx n r:Nat):Int):=by
 obtain⟨c,l⟩:=(p9 (kr n r) 1).2 q h;have hd:(q.den:Int)≠0:=by have:=q.den_nz;lia
 have e:((wx n r:Nat):Int)=(q.den:Int) * (c:Int):=by
  show ((gT 1 (kr n r):Nat):Int)=_;rw[l];exact OI _ _
 rw[e,SY _ hd,Rat.intCast_mul,Rat.intCast_mul];have j:(q.num:Rat)=q * ((q.den:Int):Rat):=by
  have f:=Rat.num_divInt_den q;rw[Rat.divInt_eq_div] at f;have i:=Rat.div_mul_cancel (a:=(q.num:Rat)) (b:=((q.den:Int):Rat)) (λe=>hd (by exact_mod_cast e));rw[f] at i;exact i.symm
 rw[j];grind
def m4(f:j<=n):((vc (wr n m r k) j:Int):Rat)=nm n j r * ((wx n r:Nat):Int):=by
 have a:j<(kr n r).length:=by rw[gu];lia
 have e:vc (wr n m r k) j=(kr n r)[j].num * ((wx n r:Int) / ((kr n r)[j].den:Int)):=by
  show (wr n m r k).getD j 0=_;unfold wr;rw[o_,xu (by simpa using a),tt,p_ a];rfl
 rw[e,FR (CF a)];show _=(kr n r).getD j 0 * _;rw[o_,p_ a];rfl
def G5(a:i<m):vc (wr n m r k) (n+1+i)=if i=k then (wx n r:Int) else 0:=by
 show (wr n m r k).getD (n+1+i) 0=_;unfold wr;rw[o_,C5 (by simp[gu])];rw[oI,gu,show n+1+i - (n+1)=i by lia,tt,KJ a];rfl
def FS(f:k<rs.length):Lin n rs (vc (wr n rs.length rs[k] k)):=λj l=>by
 rw[m4 l]
 have:=Ag (g:=nm n j) (c:=(((wx n rs[k]:Nat):Int):Rat)) rs 0 k f
 rw[<-this,C0];refine sI rs 0 λi _ a=>?_;rw[C0] at a;rw[G5 a]
 split <;> rfl
def Sp.lin(h:∀r∈R,Lin n rs r)(s:Sp R v):Lin n rs v:=by
 induction s with
 | nil =>
   intro j l
   have:=oV (g:=nm n j) (f:=λ_=>0) (h:=λ_=>0) (a:=0) (b:=0) rs 0
   simp only[Rat.zero_mul,Rat.add_zero] at this;exact this.symm
 | @add v r c _ m i =>
  have:=i.comb (h r m) 1 c
  rw[show (λq=>v q+c * r q)=λq=>1 * v q+c * r q by funext q;lia];exact this
def oK(h:j<n):nm n j r=e_ r.1 j:=by
 show (kr n r).getD j 0=_;unfold kr;rw[o_,xu (by simpa using h),tt,KJ h];rfl
def FT:nm n n r=r.2:=by
 show (kr n r).getD n 0=_;unfold kr;rw[o_,C5 (by simp)];simp
def Kf(ok:∀r∈a,jp n r)(f:j<=n):(x_ n a ms).getD j 0=bT 0 ((a.zip ms).map λp=>(nm n j p.1,p.2)):=by
 rcases Nat.lt_or_ge j n with z|z
 .rw[zh ok z];show bT 0 (mx a ms j)=_;unfold mx;congr 1;exact B_ λp _=>by rw[oK z]
 .have:j=n:=by lia
  subst this;rw[Bp ok];show bT 0 (rg a ms)=_;unfold rg;congr 1;exact B_ λp _=>by rw[FT]
def sQ(P:List Nat)(f:Nat->Rat):Rat:=(P.map f).foldr (·+·) 0
def bg:sQ (p::P) f=f p+sQ P f:=rfl
def bP:∀(P:List Nat),(∀p∈P,f p=g p)->sQ P f=sQ P g
 | [],_=>rfl
 | p::P,h=>by rw[bg,bg,h p (by simp),bP P λq a=>h q (m1 _ a)]
def j6:∀(P:List Nat),(sQ P λp=>f p * c)=sQ P f * c
 | []=>by show (0:Rat)=0 * c;grind
 | p::P=>by rw[bg,bg,j6 P];grind
def qa:∀P:List Nat,((di P f:Int):Rat)=sQ P λp=>((f p:Int):Rat)
 | []=>rfl
 | p::P=>by rw[df,bg,Rat.intCast_add,qa P]
def pP{N:Nat}{P:List Nat}{p:Nat}(h:p∈P):p7 (P.reverse.map λ(p:Nat)=>(p:Int)) (P.reverse.map λp=>tD N (Hd R P p)) (p:Int)=some (tD N (Hd R P p)):=p5 (Hh.mpr h)
def yq{N p c k:Nat}{R:List Vc}{P:List Nat}{s:hB}(h:p∈P)(f:p<N)(i:c<N)(l:Hd R P p p≠0)(r:(Hd R P p p).natAbs<2 ^ k)(a:k<=950000):cb.p [bj true N R P,.int (p:Int),.int (c:Int)] s=.ok (qD (Rat.divInt (Hd R P p c) (Hd R P p p))) s:=by
 have j:=jB (t:=Hd R P p c) (b:=Hd R P p p) (s:=s) l r a;have e1:(nB true).p (.int (p:Int)) (bj true N R P)=some (.bl false):=by
  show some (D.bl (!(p7 (P.reverse.map λ(p:Nat)=>(p:Int)) (P.reverse.map λp=>tD N (Hd R P p)) (p:Int)).isSome))=_;rw[pP h];rfl
 have e2:nI.p (bj true N R P) (.int (p:Int))=some (tD N (Hd R P p)):=pP h;rw[nr (by rfl)];unfold eL;rw[show mh 3 [bj true N R P,.int (p:Int),.int (c:Int)]=[some (bj true N R P),some (.int (p:Int)),some (.int (c:Int))] from rfl];simp![av,ca,bO,au,e1,Pf,PR.bl,Pg,su,if_false,ce,PU.ak,bA,aB,ag,e2,bF,lJ (show p<(tb N (Hd R P p)).length by rw[dN];exact f),lJ (show c<(tb N (Hd R P p)).length by rw[dN];exact i),jg f,jg i,ah,j,PU.bi]
def Sw:Je (tD (n+1+m) v) (some ((n:Int)+1)) none=some (iD ((List.range m).map λk=>v (n+1+k))):=by
 have:=Sv (tb (n+1+m) v) D.int (n+1)
 show some (D.lst (jI _ _ _))=_;rw[show ((n:Int)+1)=((n+1:Nat):Int) by lia,this,FP]
def fR(n m:Nat)(v:Vc)(p:Nat):List Rat:=(List.range m).map λk=>Rat.divInt (v (n+1+k)) (v p)
def uR:∀(a:List Vc) (f:Option D),(∀v∈a,v n=0)->∃i,C4 (ia 4:Xg []).p Se.p (a.map (tD (n+1+m))) [some (.int (n:Int)),x1,x2,x3,f,x5,x6,x7] s=.nx [some (.int (n:Int)),x1,x2,x3,i,x5,x6,x7] s
 | [],f,_=>⟨f,rfl⟩
 | u::a,f,h=>by
  rw[m3,d3 (env1:=[some (.int (n:Int)),x1,x2,x3,some (tD (n+1+m) u),x5,x6,x7]) (by rfl),FQ (by lia) (h u (by simp))];exact uR a _ λv hv=>h v (m1 _ hv)
def uh:∀Q:List Nat,gU ((Q.map λ(p:Nat)=>(p:Int)).map .int) (Q.map f)=Q.map λp=>.tup [.int (p:Int),f p]:=λQ=>by
 rw[oF,im]
 have:Q.zip Q=Q.map λx=>(x,x):=by
  induction Q with
  | nil=>rfl
  | cons q Q a=>rw[KL,a];rfl
 rw[this,oF];rfl
def lQ{a b:Rat}{x y h:Nat->Rat}:∀P:List Nat,(sQ P λp=>(a * x p+b * y p) * h p)=a * (sQ P λp=>x p * h p)+b * (sQ P λp=>y p * h p)
 | []=>by show (0:Rat)=a * 0+b * 0;grind
 | p::P=>by rw[bg,bg,bg,lQ P];grind
def fY:∀P:List Nat,(∀p∈P,f p=0)->sQ P f=0
 | [],_=>rfl
 | p::P,h=>by rw[bg,h p (by simp),fY P λq a=>h q (m1 _ a)];grind
def gM:∀{P:List Nat},P.Nodup->p∈P->(∀q∈P,q≠p->f q=0)->sQ P f=f p
 | q::P,nd,j,h=>by
  obtain⟨i,l⟩:=CU.mp nd;rw[bg];by_cases e:q=p
  .subst e;rw[fY P λx a=>h x (m1 _ a) λz=>i (z▸a)];grind
  .rw[h q (by simp) e,gM l ((ml.mp j).resolve_left λz=>e z.symm) λx a=>h x (m1 _ a)];grind
def Sol(n:Nat)(X:Nat->Rat)(v:Vc):Prop:=((v n:Int):Rat)=sQ (List.range n) λj=>((v j:Int):Rat) * X j
def Sol.comb(f:Sol n X u)(hv:Sol n X v)(a b:Int):Sol n X λq=>a * u q+b * v q:=by
 unfold Sol at *;have e:=lQ (a:=(a:Rat)) (b:=(b:Rat)) (x:=λj=>((u j:Int):Rat)) (y:=λj=>((v j:Int):Rat)) (h:=X) (List.range n);rw[<-f,<-hv] at e;simp only[Rat.intCast_add,Rat.intCast_mul];exact e.symm
def FU(h:r.2=sQ (List.range n) λj=>e_ r.1 j * X j):Sol n X (vc (wr n m r k)):=by
 unfold Sol;rw[m4 (j_ n),FT,h,<-j6];refine bP _ λj a=>?_;have a:=pa.mp a;rw[m4 (Dm a),oK a];grind
def Sp.sol(h:∀r∈R,Sol n X r)(s:Sp R v):Sol n X v:=by
 induction s with
 | nil=>exact (fY _ λj _=>by show ((0:Int):Rat) * X j=0;grind).symm
 | @add v r c _ m a =>
  have:=a.comb (h r m) 1 c
  rw[show (λq=>v q+c * r q)=λq=>1 * v q+c * r q by funext q;lia];exact this
def Lf.sol(h:∀r∈R,Sol n X r)(i:Sol n X a):Sol n X (Lf R P a):=by
 obtain⟨u,f,e⟩:=rL R P a
 have:=i.comb (f.sol h) (Dt R P) 1
 rw[show Lf R P a=λj=>Dt R P * a j+1 * u j by funext j;rw[e];lia];exact this
def RI.vsol{M n pl:Nat}{P:List Nat}(_i:RI M (q_ n a) pl R P L)(h:∀r∈a,r.2=sQ (List.range n) λj=>e_ r.1 j * X j):∀v∈q_ n a,Sol n X v:=λv hv=>by
 obtain⟨k,f,rfl⟩:=iB.mp hv;exact FU (h _ (CF f))
def RI.flat0{M n:Nat}{y:List Rw}{R:List Vc}{P:List Nat}{L:List Vc}{X:Nat->Rat}(i:RI M (q_ n y) n R P L)(h:∀r∈y,r.2=sQ (List.range n) λj=>e_ r.1 j * X j):∀a∈L,Lf R P a n=0:=λa u=>by
 have hv:=i.vsol h;have s:=Lf.sol (P:=P) (λr z=>hv r ((i.all r).mpr (.inl z))) (hv a ((i.all a).mpr (.inr u)));unfold Sol at s
 rw[fY _ λj f=>by
  have f:=pa.mp f
  rw[show Lf R P a j=0 by
   by_cases l:j∈P
   .exact i.st.van a j l
   .exact i.off j f l a u]
  show ((0:Int):Rat) * X j=0
  grind] at s
 exact_mod_cast s
def AT(ok:∀r∈a,jp n r)(f:j<=n)(hv:Lin n a v):(x_ n a (fR n a.length v p)).getD j 0=((v j:Int):Rat) / ((v p:Int):Rat):=by
 rw[Kf ok f];have e:fR n a.length v p=(List.range' 0 a.length).map λk=>(((v p:Int):Rat)⁻¹ * ((v (n+1+k):Int):Rat)+0 * 0):=by
  unfold fR;rw[P6];refine B_ λk _=>?_;rw[Rat.divInt_eq_div,Rat.div_def];grind
 rw[e,Av,oV (g:=nm n j) (h:=λ_=>0),<-hv j f,Rat.div_def];grind
def RI.linH{M n pl p:Nat}{P:List Nat}(i:RI M (q_ n rs) pl R P L):Lin n rs (Hd R P p):=(yB R P p).lin λr a=>by
 obtain⟨k,f,rfl⟩:=iB.mp ((i.all r).mpr (.inl a));exact FS f
def Ch(l:0<k)(h:∀j,(v j).natAbs<2 ^ k)(a:v p≠0):∀q∈fR n m v p,sz q<=k:=λq f=>by
 obtain⟨i,_,rfl⟩:=mu.mp f;rw[pX a];refine iO (by lia) l ?_ (h p)
 have:=h (n+1+i)
 split
 .rwa [KR]
 .exact this
def FV(h:sz q<=900000):fX.p [.tup [.int 0,.int 1],qD q] s=.ok (qD (-q)) s:=by
 have y:=cD q;have f:=bC q;have l:=jB (t:=-q.num) (b:=(q.den:Int)) (k:=sz q) (s:=s) (by have:=q.den_nz;lia) (by simpa using f) (by lia);have e:Rat.divInt (-q.num) (q.den:Int) = -q:=by
  have:=Rat.num_divInt_den (-q)
  rwa [Rat.neg_num,Rat.neg_den] at this
 rw[e] at l;have r:=cQ (a:=0) (b:=(q.den:Int)) (j:=1) (k:=sz q) (by decide) (by simpa using f) (by decide) (by lia);have u:=cQ (a:=q.num) (b:=1) (j:=sz q) (k:=1) y (by decide) (by lia) (by decide);have i:=cQ (a:=1) (b:=(q.den:Int)) (j:=1) (k:=sz q) (by decide) (by simpa using f) (by decide) (by lia);rw[Int.zero_mul] at r;rw[KU] at u;rw[Int.one_mul] at i;rw[Ci (by rfl)];unfold jK;rw[show mh 2 [D.tup [.int 0,.int 1],qD q]=[some (.tup [.int 0,.int 1]),some (qD q)] from rfl];simp![bA,aB,ag,au,aL,aD,bz,z0,z1,Pf,r,u,i,dR,Qz,ah,l,Pg,PU.bi]
def val(R:List Vc)(P:List Nat)(p c:Nat):Rat:=if p∈P then Rat.divInt (Hd R P p c) (Hd R P p p) else 0
def vF(f:p<N)(l:c<N)(j:p∈P->Hd R P p p≠0)(i:(Hd R P p p).natAbs<2 ^ k)(a:k<=950000):cb.p [bj true N R P,.int (p:Int),.int (c:Int)] s=.ok (qD (val R P p c)) s:=by
 by_cases h:p∈P
 .rw[yq h f l (j h) i a];unfold val;rw[d_ h]
 .have e1:(nB true).p (.int (p:Int)) (bj true N R P)=some (.bl true):=by
   show some (D.bl (!(p7 (P.reverse.map λ(p:Nat)=>(p:Int)) (P.reverse.map λp=>tD N (Hd R P p)) (p:Int)).isSome))=_;rw[nK λz=>h (Hh.mp z)];rfl
  rw[nr (by rfl)];unfold eL;rw[show mh 3 [bj true N R P,.int (p:Int),.int (c:Int)]=[some (bj true N R P),some (.int (p:Int)),some (.int (c:Int))] from rfl];simp![av,ca,bO,au,e1,Pf,PR.bl,Pg,if_true,bA,rF,PU.md,PU.bi];unfold val;rw[g_ h];rfl
def aY(n:Nat)(R:List Vc)(P:List Nat)(f:Nat):List Rat:=((List.range n).map λp => -(val R P p f)).set f 1
def N8{n N f k:Nat}{R:List Vc}{P:List Nat}{s:hB}(C:n<=100)(hN:n<N)(hf:f<n)(a:∀p,p∈P->Hd R P p p≠0)(r:∀p c:Nat,(Hd R P p c).natAbs<2 ^ k)(y:0<k)(z:k<=900000):dP.p [.int (n:Int),bj true N R P,.int (f:Int)] s=.ok (lD (aY n R P f)) s:=by
 have B:∀p,sz (val R P p f)<=k:=λp=>by
  unfold val;split
  .rename_i h
   rw[pX (a p h)];refine iO (by have:=a p h;lia) y ?_ (r p p)
   have:=r p f
   split
   .rwa [KR]
   .exact this
  .rw[DW];exact y
 have c:=bN (ws:=[3]) (ws':=[]) (env:=[some (.int (n:Int)),some (bj true N R P),some (.int (f:Int)),none]) (s:=s) (s0:=s) (fm:=[1,2]) (i:=be wh (aa (ab 0) a_)) (t:=f_) (e:=aj fX (aa (Fg 0 1) (aa (aj cb (aa (ab 1) (aa (ab 0) (aa (ab 2) a_)))) a_))) (l:=List.range n) (λ(p:Nat)=>D.int (p:Int)) (λp=>qD (-(val R P p f))) (λ_=>true)
  (by simp only[bB,ag,ae,Pb,ah];rw[cI (by lia),v_,dC];rfl) (by simp;lia) λp u=>⟨rfl,λ_=>by
   have u:=pa.mp u;show (aj fX _:Xe []).p [some (.int (p:Int)),some (bj true N R P),some (.int (f:Int))] s=_;have v:=vF (p:=p) (c:=f) (s:=s) (N:=N) (by lia) (by lia) (a p) (r p p) (by lia);have m:=FV (q:=val R P p f) (s:=s) (by have:=B p;lia)
   simp![aB,ag,rF,ah,v,m]⟩
 rw[uS (by rfl)];unfold e8;rw[show mh 4 [D.int (n:Int),bj true N R P,.int (f:Int)]=[some (.int (n:Int)),some (bj true N R P),some (.int (f:Int)),none] from rfl];rw[av,dQ,c];dsimp![fD,if_true,aT];rw[av,lU,iw (v:=qD 1) (s1:=s) (j:=(f:Int)) (s2:=s) (ds:=(List.range n).map λp=>qD (-(val R P p f))) (n:=f) (by rw[rF];rfl) (by simp only[ae,af]) rfl (fZ (by simp;exact hf)),PU.ak]
 rw[l0 (d:=lD (aY n R P f)) (by
  show some (some (D.lst (((List.range n).map λp=>qD (-(val R P p f))).set f (qD 1))))=_;unfold aY lD;rw[Qx,oF]
  rfl),PU.bi]
abbrev frees(n:Nat)(P:List Nat):List Nat:=(List.range n).filter λj=>!decide (j∈P)
abbrev nJ(n m:Nat)(R:List Vc)(P:List Nat):D:=.lst (P.reverse.map λp=>lD (fR n m (Hd R P p) p))
abbrev bD(n:Nat)(R:List Vc)(P:List Nat):List Rat:=(List.range n).map λp=>val R P p n
def Kg(n m:Nat)(R:List Vc)(P:List Nat):D:=if frees n P=[] then .tup [.str "one",lD (bD n R P),nJ n m R P] else .tup [.str "many",lD (bD n R P),(.lst ((frees n P).map λ(f:Nat)=>.tup [.int (f:Int),lD (aY n R P f)])),nJ n m R P]
def yF{n m:Nat}{r:List Rw}{s:hB}(M:n<=12)(I:r.length<=1000)(h:DY n m r)(S:2+(n+1) * (4+2 * m)<=400000)
  (hL:∀R P L,RI (2 ^ (2 * m)) (q_ n r) n R P L->∀a∈L,Lf R P a n=0) :
  ∃R P L,RI (2 ^ (2 * m)) (q_ n r) n R P L/\fg.p [.int (n:Int),k_ r] s=.ok (Kg n r.length R P) s:=by
 obtain⟨R,P,L,y,q⟩:=Aq (s:=s) M I h S;obtain⟨C,G⟩:=uR (n:=n) (m:=r.length) (x1:=some (k_ r)) (x2:=some (.tup [bj true (n+1+r.length) R P,dZ (n+1+r.length) R P L])) (x3:=some (bj true (n+1+r.length) R P)) (x5:=none) (x6:=none) (x7:=none) (s:=s) (L.map λa=>Lf R P a) none λv hv=>by
  obtain⟨a,H,rfl⟩:=mu.mp hv;exact hL R P L y a H
 have pp:∀p,p∈P->Hd R P p p≠0:=λp u=>by
  rw[fU y.st u]
  have:=y.st.ne
  simpa [mr] using this
 have E:∀p c:Nat,(Hd R P p c).natAbs<2 ^ (2+(n+1) * (4+2 * m)):=λp c=>y.szH (by lia) (j_ _) (Hk (by decide)) (j_ _) p c;have J:=bN (ws:=[]) (ws':=[]) (env:=[some (.int (n:Int)),some (k_ r),some (.tup [bj true (n+1+r.length) R P,dZ (n+1+r.length) R P L]),some (bj true (n+1+r.length) R P),C,none,none,none]) (s:=s) (s0:=s) (fm:=[3,0]) (i:=be wh (aa (ab 0) a_)) (t:=f_) (e:=aj cb (aa (ab 1) (aa (ab 0) (aa (ab 2) a_)))) (l:=List.range n) (λ(j:Nat)=>D.int (j:Int)) (λp=>qD (val R P p n)) (λ_=>true)
  (by simp only[bB,ag,ae,Pb,ah];rw[cI (by lia),v_,dC];rfl) (by simp;lia) λp u=>⟨rfl,λ_=>by
   have u:=pa.mp u;show (aj cb _:Xe []).p [some (.int (p:Int)),some (bj true (n+1+r.length) R P),some (.int (n:Int))] s=_
   have:=vF (N:=n+1+r.length) (p:=p) (c:=n) (s:=s) (by lia) (by lia) (pp p) (E p p) (by lia)
   simp![aB,ag,ah,this]⟩
 have Q:=eD (ws:=[]) (ws':=[]) (env:=[some (.int (n:Int)),some (k_ r),some (.tup [bj true (n+1+r.length) R P,dZ (n+1+r.length) R P L]),some (bj true (n+1+r.length) R P),C,some (lD (bD n R P)),none,none]) (s:=s) (s0:=s) (fm:=[0]) (i:=uK (ab 3)) (t:=f_) (e:=aj c8 (aa (Jf (ab 1) (Jd (ac bS (ab 2) (xC (.int 1)))) Jc) (aa (ac h8 (ab 1) (ab 0)) a_))) (l:=P.reverse) (λ(p:Nat)=>D.int (p:Int)) (λp=>tD (n+1+r.length) (Hd R P p)) (λp=>lD (fR n r.length (Hd R P p) p)) (λ_=>true)
  (by simp![Js,uh]) (by rw[List.length_reverse];have:=y.pl;lia) λp u=>⟨rfl,λ_=>by
   have B:=Hh.mp u;have u:=y.lt p B;have F:=xy (l:=(List.range r.length).map λk=>Hd R P p (n+1+k)) (b:=Hd R P p p) (s:=s) (by simp;lia) (pp p B) (E p p) (by lia);rw[oF] at F;show (aj c8 _:Xe []).p [some (.int (p:Int)),some (tD (n+1+r.length) (Hd R P p)),some (.int (n:Int))] s=_;simp![aB,ag,GQ,GP,GO,au,aL,aD,cN,Sw,Pf,bF,lJ (show p<(tb (n+1+r.length) (Hd R P p)).length by rw[dN];lia),jg (show p<n+1+r.length by lia),ah,F]
   rfl⟩
 have O:=bN (ws:=[]) (ws':=[]) (env:=[some (.int (n:Int)),some (k_ r),some (.tup [bj true (n+1+r.length) R P,dZ (n+1+r.length) R P L]),some (bj true (n+1+r.length) R P),C,some (lD (bD n R P)),some (nJ n r.length R P),none]) (s:=s) (s0:=s) (fm:=[0,3]) (i:=be wh (aa (ab 0) a_)) (t:=xB (ac (nB true) (ab 0) (ab 2))) (e:=aU (aa (ab 0) (aa (aj dP (aa (ab 1) (aa (ab 2) (aa (ab 0) a_)))) a_))) (l:=List.range n) (λ(j:Nat)=>D.int (j:Int)) (λf=>.tup [.int (f:Int),lD (aY n R P f)]) (λj=>!decide (j∈P))
  (by simp only[bB,ag,ae,Pb,ah];rw[cI (by lia),v_,dC];rfl) (by simp;lia) λp u=>⟨by
   show (xB _:Xt []).p [some (.int (p:Int)),some (.int (n:Int)),some (bj true (n+1+r.length) R P)] s=_;have e1:(nB true).p (.int (p:Int)) (bj true (n+1+r.length) R P)=some (.bl (!decide (p∈P))):=by
    show some (D.bl (!(p7 (P.reverse.map λ(p:Nat)=>(p:Int)) (P.reverse.map λp=>tD (n+1+r.length) (Hd R P p)) (p:Int)).isSome))=_;by_cases z:p∈P
    .rw[pP z,decide_eq_true z];rfl
    .rw[nK λq=>z (Hh.mp q),decide_eq_false z];rfl
   simp![bO,au,e1,Pf,PR.bl],λz=>by
   have u:=pa.mp u;show (aU _:Xe []).p [some (.int (p:Int)),some (.int (n:Int)),some (bj true (n+1+r.length) R P)] s=_;have w:=N8 (n:=n) (N:=n+1+r.length) (f:=p) (s:=s) (by lia) (by lia) u pp E (by lia) (by lia)
   simp![bH,ag,aB,ah,w,pk,tx,show (0+1+1:Nat)<=100000 by decide,if_true]⟩
 refine⟨R,P,L,y,?_⟩;rw[ze (by rfl)];unfold i5;rw[show mh 8 [D.int (n:Int),k_ r]=[some (.int (n:Int)),some (k_ r),none,none,none,none,none,none] from rfl];rw[av,aN];simp![aB,ag,ah,q,Pg,si,r_,PU.ak];rw[av,aN];simp![au,aL,aD,bz,z0,Pf,Pg,si,r_,PU.ak];rw[av,cF];simp![bI,au,aL,aD,bz,z1,Pf,bn,Pg];rw[oF] at G;refine (congrArg (λz:PS=>(z.then _).fin) G).trans ?_;rw[PU.ak,av,aN,J];dsimp![aT];rw[show D.lst ((List.range n).map λp=>qD (val R P p n))=lD (bD n R P) by unfold bD lD;rw[oF];rfl,av,aN,Q];dsimp![aT];rw[av,aN,O];dsimp![PU.ak];unfold Kg;by_cases z:frees n P=[]
 .rw[d_ z];rw[show (List.range n).filter (λj=>!decide (j∈P))=[] from z];simp![Hj,av,ca,rH,kK,List.isEmpty_nil,C_,Pf,Pg,su,if_false,ce,PU.ak,bA,bH,ag,aL,uq,ah,pk,tx,show (0+1+1+1:Nat)<=100000 by decide,if_true,PU.bi]
 .rw[g_ z];have ne:((frees n P).map λ(f:Nat)=>D.tup [.int (f:Int),lD (aY n R P f)]).isEmpty=false:=by
   cases e:frees n P with
   | nil=>exact absurd e z
   | cons a b=>rfl
  simp![av,ca,rH,kK,ne,OK,Pf,Pg,if_true,bA,bH,ag,aL,uq,ah,pk,tx,show (0+1+1+1+1:Nat)<=100000 by decide,PU.md,PU.bi]
def ly:∀P:List Nat,(∀p∈P,c p=false->f p=0)->sQ P f=sQ (P.filter c) f
 | [],_=>rfl
 | p::P,h=>by
  have a:=ly (f:=f) (c:=c) P λq i=>h q (m1 _ i);rw[List.filter_cons,bg,a]
  cases e:c p with
  | true=>rw[d_ rfl,bg]
  | false=>rw[g_ (by decide),h p (by simp) e];grind
def lG:∀(P Q:List Nat),P.Pairwise (·>·)->Q.Pairwise (·>·)->(∀x,x∈P↔x∈Q)->P=Q
 | [],[],_,_,_=>rfl
 | [],q::Q,_,_,h=>by have:=(h q).mpr (by simp);cases this
 | p::P,[],_,_,h=>by have:=(h p).mp (by simp);cases this
 | p::P,q::Q,j,l,h=>by
  obtain⟨i,u⟩:=DG.mp j;obtain⟨f,C⟩:=DG.mp l;have e:p=q:=by
   have r:=(h p).mp (by simp);have B:=(h q).mpr (by simp);rcases ml.mp r with z|z
   .exact z
   .rcases ml.mp B with y|y
    .exact y.symm
    .have:=f p z
     have:=i q y
     lia
  subst e
  rw[lG P Q u C λx=>by
   constructor
   .intro a;rcases ml.mp ((h x).mp (m1 _ a)) with z|z
    .have:=i x a;lia
    .exact z
   .intro a;rcases ml.mp ((h x).mpr (m1 _ a)) with z|z
    .have:=f x a;lia
    .exact z]
def TZ(V:List Vc)(Q:List Nat)(q:Nat):Prop:=∃h:Nat->Rat,∀v∈V,((v q:Int):Rat)=sQ Q λp=>((v p:Int):Rat) * h p
def RI.dep(i:RI M V n R P L)(y:q<n)(a:q∉P):TZ V (P.filter (·<q)) q:=by
 have hd:((Dt R P:Int):Rat)≠0:=λe=>i.st.ne (by exact_mod_cast e);refine⟨λp=>((Hd R P p q:Int):Rat) * ((Dt R P:Int):Rat)⁻¹,λv hv=>?_⟩;have z:Lf R P v q=0:=by
  rcases (i.all v).mp hv with h|h
  .exact rM _ R h _
  .exact i.off q y a _ h
 rw[wf i.st i.nd] at z;have r:=congrArg (λx:Int=>(x:Rat)) z;simp only[Rat.intCast_sub,Rat.intCast_mul,qa] at r;have l:((0:Int):Rat)=0:=rfl;rw[l] at r
 rw[<-ly (f:=λp=>((v p:Int):Rat) * (((Hd R P p q:Int):Rat) * ((Dt R P:Int):Rat)⁻¹)) P λp j u=>by
  have u:¬p<q:=by simpa using u
  have ne:p≠q:=λz=>a (z▸j);rw[i.low p j q (by lia) a,l]
  grind]
 rw[bP (g:=λp=>(((v p:Int):Rat) * ((Hd R P p q:Int):Rat)) * ((Dt R P:Int):Rat)⁻¹) P λp _=>by grind,j6]
 have:=Rat.mul_inv_cancel _ hd
 grind
def Sp.dep{V R:List Vc}{Q:List Nat}{q:Nat}{h:Nat->Rat}(i:∀r∈R,((r q:Int):Rat)=sQ Q λp=>((r p:Int):Rat) * h p){v:Vc}(s:Sp R v):((v q:Int):Rat)=sQ Q λp=>((v p:Int):Rat) * h p:=by
 induction s with
 | nil=>exact (fY _ λp _=>by show ((0:Int):Rat) * h p=0;grind).symm
 | @add v r c _ m f =>
  have e:=lQ (a:=1) (b:=(c:Rat)) (x:=λp=>((v p:Int):Rat)) (y:=λp=>((r p:Int):Rat)) (h:=h) Q;rw[<-f,<-i r m] at e;simp only[Rat.intCast_add,Rat.intCast_mul];rw[bP (g:=λp=>(1 * ((v p:Int):Rat)+(c:Rat) * ((r p:Int):Rat)) * h p) Q λp _=>by grind,e]
  grind
def RI.indep{M n q:Nat}{V R L:List Vc}{P:List Nat}(i:RI M V n R P L)(u:q∈P):¬TZ V (P.filter (·<q)) q:=λ⟨h,e⟩=>by
 have s:=(yB R P q).dep (V:=V) (Q:=P.filter (·<q)) (q:=q) (h:=h) λr l=>e r ((i.all r).mpr (.inl l))
 rw[fY _ λp j=>by
  obtain⟨f,a⟩:=y6.mp j;have a:p<q:=by simpa using a
  rw[fU i.st f,show mr q p=0 by simp[mr];lia,QA];show ((0:Int):Rat) * h p=0
  grind,fU i.st u,show mr q q=1 by simp[mr],KU] at s
 exact i.st.ne (by exact_mod_cast s)
def RI.uniq(i:RI M V n R P L)(f:RI M' V n R' P' L'):P=P':=by
 have key:∀q,q<n->(q∈P↔q∈P'):=λq=>by
  induction q using Nat.strongRecOn with
  | _ q u =>
   intro y;have e:P.filter (·<q)=P'.filter (·<q):=by
    refine lG _ _ (i.srt.filter _) (f.srt.filter _) λx=>?_;rw[y6,y6];constructor
    .rintro⟨j,a⟩;have r:x<q:=by simpa using a
     exact⟨(u x r (by lia)).mp j,a⟩
    .rintro⟨j,a⟩;have r:x<q:=by simpa using a
     exact⟨(u x r (by lia)).mpr j,a⟩
   constructor
   .intro h;refine Classical.byContradiction λl=>i.indep h ?_;rw[e];exact f.dep y l
   .intro h;refine Classical.byContradiction λl=>f.indep h ?_;rw[<-e];exact i.dep y l
 refine lG _ _ i.srt f.srt λx=>?_;constructor
 .exact λh=>(key x (i.lt x h)).mp h
 .exact λh=>(key x (f.lt x h)).mpr h
def rV{D:Nat}(h:0<D):(((D:Nat):Int):Rat)≠0:=λe=>by
 have:((D:Nat):Int)=0:=by exact_mod_cast e
 lia
def pW(q:Rat):(q.num:Rat)=q * ((q.den:Int):Rat):=by
 have f:=Rat.num_divInt_den q;rw[Rat.divInt_eq_div] at f;have i:=Rat.div_mul_cancel (a:=(q.num:Rat)) (b:=((q.den:Int):Rat)) (rV (OC q.den_nz));rw[f] at i;exact i.symm
def kW(F:b≠0)(H:b.natAbs<2 ^ k)(I:k<=950000):aK.p [.int t,.int b] s=.ok (qD (Rat.divInt t b)) s:=by
 have f:b.natAbs≠0:=by lia
 have u:0<Nat.gcd t.natAbs b.natAbs:=P2 _ (by lia);have l:((b.natAbs:Nat):Int)<2 ^ k:=by
  have:=OQ.mpr H
  simpa using this
 rw[pX F];obtain⟨e1,e2⟩:=mR (if b<0 then -t else t) b.natAbs f;have B:(if b<0 then -t else t).natAbs=t.natAbs:=by split <;> simp
 rw[B] at e1 e2;rw[nt (by rfl)];unfold eJ;have G:mh 4 [D.int t,.int b]=[some (.int t),some (.int b),none,none]:=rfl;have q:=wI (x:=some (.int t)) (y:=some (.int b)) (s:=s) k 2000000 (t.natAbs:Int) (b.natAbs:Int) (by lia) (by lia) l (by lia);rw[G];simp![av,y0,ag,ah,bq,t8,Pf,Pg,si,r_,PU.ak];rw[yx lT];refine (congrArg (λz:PS=>(z.then _).fin) q).trans ?_;rw[S3];have C:(Nat.gcd t.natAbs b.natAbs:Int) ∣ t:=OB.mpr (Nat.gcd_dvd_left _ _);have E:(Nat.gcd t.natAbs b.natAbs:Int) ∣ b:=OB.mpr (Nat.gcd_dvd_right _ _);by_cases z:b<0
 .have j:C8.p (.int t) (.int (-(Nat.gcd t.natAbs b.natAbs:Int)))=some (.int ((-t) / (Nat.gcd t.natAbs b.natAbs:Int))):=by rw[jN (by lia),pd u C]
  have r:C8.p (.int b) (.int (-(Nat.gcd t.natAbs b.natAbs:Int)))=some (.int ((-b) / (Nat.gcd t.natAbs b.natAbs:Int))):=by rw[jN (by lia),pd u E]
  have e3:(-b:Int)=(b.natAbs:Nat):=by lia
  have i:tS.p (.int (Nat.gcd t.natAbs b.natAbs:Int))=some (.int (-(Nat.gcd t.natAbs b.natAbs:Int))):=rfl;rw[qD,e1,e2,d_ z];simp[PR.bl,z,j,r,e3,i]
 .have j:=fu (a:=t) (b:=(Nat.gcd t.natAbs b.natAbs:Int)) (by lia);have r:=fu (a:=b) (b:=(Nat.gcd t.natAbs b.natAbs:Int)) (by lia);have e3:((b.natAbs:Nat):Int)=b:=by lia
  rw[qD,e1,e2,g_ z];simp[PR.bl,z,j,r,e3]
def rr(f:Nat)(R:List Vc)(P:List Nat)(i:Vc->Int)(a:Vc):List Rat:=(List.range f).map λj=>((Lf R P a j:Int):Rat) / ((i a * Dt R P:Int):Rat)
def jQ:(rr nn R P sc a).length=nn:=by simp[rr]
def gG(h:j<nn):(rr nn R P sc a).getD j 0=((Lf R P a j:Int):Rat) / ((sc a * Dt R P:Int):Rat):=by
 rw[o_];simp[rr,h]
def pH(h:j<nn)(f:sc a≠0)(st:Stg R P):((rr nn R P sc a).getD j 0).num=0↔Lf R P a j=0:=by
 rw[gG h,Rat.num_eq_zero];have i:((sc a * Dt R P:Int):Rat)≠0:=λe=>by
  have:sc a * Dt R P=0:=by exact_mod_cast e
  exact KQ f st.ne this
 constructor
 .intro e;rw[Rat.div_def] at e
  have:((Lf R P a j:Int):Rat)=0:=(Rat.mul_eq_zero.mp e).resolve_right (by
   intro z
   have:=Rat.mul_inv_cancel _ i
   rw[z] at this
   grind)
  exact_mod_cast this
 .intro e;rw[e,Rat.div_def];show ((0:Int):Rat) * _=0
  grind
def FW(y:j<nn)(r:pl<nn)(st:Stg R P)(F:sc a≠0)(E:sc b≠0)(f:Lf R P b pl≠0) :
  (rr nn R P sc a).getD j 0+((rr nn R P sc a).getD pl 0 * Rat.divInt (0 - (((rr nn R P sc b).getD pl 0).den:Int)) ((rr nn R P sc b).getD pl 0).num) * (rr nn R P sc b).getD j 0=(rr nn (b::R) (pl::P) sc a).getD j 0:=by
 have hd:((Dt R P:Int):Rat)≠0:=λe=>st.ne (by exact_mod_cast e);have M:((sc a:Int):Rat)≠0:=λe=>F (by exact_mod_cast e);have L:((sc b:Int):Rat)≠0:=λe=>E (by exact_mod_cast e);have T:((Lf R P b pl:Int):Rat)≠0:=λe=>f (by exact_mod_cast e);have u:(rr nn R P sc b).getD pl 0≠0:=λe=>f ((pH r E st).mp (by rw[e];rfl));have l:Rat.divInt (0 - (((rr nn R P sc b).getD pl 0).den:Int)) ((rr nn R P sc b).getD pl 0).num = -((rr nn R P sc b).getD pl 0)⁻¹:=by
  generalize (rr nn R P sc b).getD pl 0=q at u;rw[Rat.divInt_eq_div];have e:=pW q;have G:(((q.den:Nat):Int):Rat)≠0:=rV (OC q.den_nz);rw[Qz,Rat.intCast_neg,Rat.div_def,e];have X:=Rat.mul_inv_cancel _ u
  have Y:=Rat.mul_inv_cancel (q * ((q.den:Int):Rat)) (λz=>by
   rcases Rat.mul_eq_zero.mp z with z|z
   .exact u z
   .exact G z)
  grind
 rw[l,gG y,gG r,gG y,gG r,gG y];have stp:=congrArg (λx:Int=>(x:Rat)) (st.step a b j pl);simp only[Rat.intCast_sub,Rat.intCast_mul] at stp;show _=((Lf (b::R) (pl::P) a j:Int):Rat) / ((sc a * Lf R P b pl:Int):Rat);simp only[Rat.intCast_mul,Rat.div_def];generalize ((Lf R P a j:Int):Rat)=Q at *;generalize ((Lf R P a pl:Int):Rat)=O at *;generalize ((Lf R P b j:Int):Rat)=S at *;generalize ((Lf R P b pl:Int):Rat)=B at *;generalize ((Lf (b::R) (pl::P) a j:Int):Rat)=U at *;generalize ((Dt R P:Int):Rat)=d at *;generalize ((sc a:Int):Rat)=i at *;generalize ((sc b:Int):Rat)=C at *;have I:(i * d)⁻¹=i⁻¹ * d⁻¹:=by grind
 have H:(C * d)⁻¹=C⁻¹ * d⁻¹:=by grind
 have J:(i * B)⁻¹=i⁻¹ * B⁻¹:=by grind
 rw[I,H,J]
 grind
def jZ(i:b≠0)(j:0<k)(a:t.natAbs<2 ^ k)(f:b.natAbs<2 ^ k):sz (Rat.divInt t b)<=k:=by
 rw[pX i];refine iO (by lia) j ?_ f;split
 .rwa [KR]
 .exact a
def FX{pl i S:Nat}{lf:List D}{row lead:List Rat}{x0 x1 x3 x5 x8:Option D}{s:hB}(z:lf[i]?=some (lD row))(X:pl<row.length)(I:pl<lead.length)(O:row.length<=1000)(B:(lead.getD pl 0).num≠0)(Y:0<S)(hS:S<=200000)(r:∀j,sz (row.getD j 0)<=S)(E:∀j,sz (lead.getD j 0)<=S) :
  ∃u,Sj.p [x0,x1,some (.lst lf),x3,some (.int (pl:Int)),x5,some (lD lead),some (.int (i:Int)),x8] s=.nx [x0,x1,some (.lst (lf.set i (lD ((row.zip lead).map λp=>p.1+(row.getD pl 0 * Rat.divInt (0 - ((lead.getD pl 0).den:Int)) (lead.getD pl 0).num) * p.2)))),x3,some (.int (pl:Int)),x5,some (lD lead),some (.int (i:Int)),u] s:=by
 have f:i<lf.length:=(tr.mp z).1;have C:nk lf (i:Int)=some (lD row):=L2.cW z;have n1:=cD (lead.getD pl 0);have n2:=bC (lead.getD pl 0);have n3:2 ^ sz (lead.getD pl 0)<=2 ^ S:=Eo (by decide) (E pl);have low:=kW (t:=0 - ((lead.getD pl 0).den:Int)) (b:=(lead.getD pl 0).num) (k:=S) (s:=s) B (by lia) (by lia);have L:sz (Rat.divInt (0 - ((lead.getD pl 0).den:Int)) (lead.getD pl 0).num)<=S:=jZ B Y (by lia) (by lia);generalize Rat.divInt (0 - ((lead.getD pl 0).den:Int)) (lead.getD pl 0).num=a at low L;have T:=io (p:=row.getD pl 0) (q:=a) (s:=s) (by have:=r pl;lia);have tz:=eA (row.getD pl 0) a;have U:=r pl;have J:nk (row.map qD) (pl:Int)=some (qD (row.getD pl 0)):=eU X;have F:nk (lead.map qD) (pl:Int)=some (qD (lead.getD pl 0)):=eU I;have y:∀{l:List Rat} {q:Rat},(∀j,sz (l.getD j 0)<=S)->q∈l->sz q<=S:=λ{l q} h Q=>by
  obtain⟨j,R,rfl⟩:=P8.mp Q
  have:=h j
  rwa [o_,p_ R] at this
 have c:=eD (ws:=[2]) (ws':=[]) (env:=[x0,x1,some (.lst lf),x3,some (.int (pl:Int)),x5,some (lD lead),some (.int (i:Int)),some (qD (row.getD pl 0 * a))]) (s:=s) (s0:=s) (fm:=[8]) (i:=be iZ (aa (ac h8 (ab 2) (ab 7)) (aa (ab 6) a_))) (t:=f_) (e:=aj aZ (aa (ab 0) (aa (aj bv (aa (ab 2) (aa (ab 1) a_))) a_))) (l:=row.zip lead) (λp=>qD p.1) (λp=>qD p.2) (λp=>qD (p.1+(row.getD pl 0 * a) * p.2)) (λ_=>true)
  (by simp![bB,ag,au,ah,bF,C,Pf,oW,im]) (mU (by lia)) λp P=>⟨rfl,λ_=>by
   obtain⟨H,Z⟩:=DI P;have z1:=y r H;have z2:=y E Z;have z3:=eA (row.getD pl 0 * a) p.2;have M:=io (p:=row.getD pl 0 * a) (q:=p.2) (s:=s) (by lia);have G:=j8 (p:=p.1) (q:=(row.getD pl 0 * a) * p.2) (s:=s) (by lia);show (aj aZ _:Xe []).p [some (qD p.1),some (qD p.2),some (qD (row.getD pl 0 * a))] s=_
   simp![aB,ag,ah,M,G]⟩
 refine⟨some (qD (row.getD pl 0 * a)),?_⟩;show ((aA _ _:Xd [2]).p _ _)=_;rw[av,aN];simp![aB,ag,au,ah,bF,C,J,F,Pf,aL,aD,bz,z0,z1,dR,low,T,Pg,si,r_,PU.ak]
 rw[lU,iw (v:=lD ((row.zip lead).map λp=>p.1+(row.getD pl 0 * a) * p.2)) (s1:=s) (j:=(i:Int)) (s2:=s) (ds:=lf) (n:=i) (by
  rw[c,aT];unfold lD
  rw[oF];rfl) (by simp only[ae,af]) rfl (fZ f)]
 rfl
def Kh(l:pl<nn)(st:Stg R P)(r:sc a≠0)(u:sc b≠0)(i:Lf R P b pl≠0) :
  ((rr nn R P sc a).zip (rr nn R P sc b)).map (λp=>p.1+((rr nn R P sc a).getD pl 0 * Rat.divInt (0 - (((rr nn R P sc b).getD pl 0).den:Int)) ((rr nn R P sc b).getD pl 0).num) * p.2)=rr nn (b::R) (pl::P) sc a:=by
 have e:∀j,j<nn->_:=λj f=>FW (sc:=sc) f l st r u i;generalize (rr nn R P sc a).getD pl 0 * Rat.divInt (0 - (((rr nn R P sc b).getD pl 0).den:Int)) ((rr nn R P sc b).getD pl 0).num=part at *;rw[show rr nn R P sc a=(List.range nn).map λj=>(rr nn R P sc a).getD j 0 from (B_ λj f=>by rw[gG (pa.mp f)]),show rr nn R P sc b=(List.range nn).map λj=>(rr nn R P sc b).getD j 0 from (B_ λj f=>by rw[gG (pa.mp f)]),List.zip_map',oF];refine (B_ λj f=>?_).trans (B_ (g:=λj=>((Lf (b::R) (pl::P) a j:Int):Rat) / ((sc a * Dt (b::R) (pl::P):Int):Rat)) λj f=>gG (pa.mp f));exact e j (pa.mp f)
abbrev zj(rows:List (List Rat)):D:=.lst (rows.map lD)
def oU:∀a:List (List Rat),AS (a.map lD)=some (a.map λxs=>.list (xs.map pq))
 | []=>rfl
 | xs::a=>by rw[m3,AS,oT,oU a];rfl
def FY:fV 60 (zj rows):=nW (k:=59) λd hd=>by
 obtain⟨xs,_,rfl⟩:=mu.mp hd;exact j9 (k:=57)
def N9(a:List (List Rat)):py (zj a)=some (.list (a.map λxs=>.list (xs.map pq))):=by rw[py,oU];rfl
def Ki:AZ true (zj rows) (.lst [])=some (.bl (!rows.isEmpty)):=by
 rw[kc (b:=.lst []) FY (nW (k:=59) (λd hd=>nomatch hd)) (N9 rows) rfl]
 cases rows with
 | nil=>simp[PyData.eqv,PyData.eqvAll]
 | cons a b=>simp[PyData.eqv,PyData.eqvAll]
def N_{rows:List (List Rat)}{lead:List Rat}(h:lead∈rows):∃(j:Nat) (i:j<rows.length),rows[j]=lead/\B6.p (rows.map lD) [lD lead]=some (.non,(rows.eraseIdx j).map lD):=by
 obtain⟨a,l,C,r,_⟩:=nX (k:=59) (ds:=rows.map lD) λd hd=>by
  obtain⟨xs,_,rfl⟩:=mu.mp hd;exact j9 (k:=57)
 obtain⟨v,f,E,y,_⟩:=j9 (k:=58) (xs:=lead);rw[oU] at l;cases l;rw[oT] at f;cases f;have B:(rows.map λxs=>PyData.list (xs.map pq)).findIdx? (λe=>PyData.eqv e (.list (lead.map pq)))=rows.findIdx? λxs=>decide (xs=lead):=by
  rw[List.findIdx?_map];congr 1;funext xs;show PyData.eqv (.list (xs.map pq)) (.list (lead.map pq))=_;simp only[PyData.eqv,uC]
 cases e:rows.findIdx? λxs=>decide (xs=lead) with
 | none =>
  have:=SV.mp e lead h
  simp at this
 | some j =>
  obtain⟨i,z,_⟩:=PZ.mp e;refine⟨j,i,by simpa using z,?_⟩
  show (match py (lD lead),AS (rows.map lD) with
   | some u,some a=>if (dep (lD lead)<=60/\q7 (rows.map lD)<=60)/\u.canLay0=true/\PyData.canLayAll0 a=true then (a.findIdx? (λe=>PyData.eqv e u)).map λj=>(D.non,(rows.map lD).eraseIdx j) else none
   | _,_=>none)=_
  rw[oT,oU];dsimp only;rw[d_ ⟨⟨by ext,by ext⟩,y,r⟩,B,e];show some (D.non,(rows.map lD).eraseIdx j)=_;rw[li]
def FZ{α:Type}(l:List α)(f g:α->List Rat){m:Nat}(a:m<l.length):(((l.take m).map f++(l.drop m).map g).map lD).set m (lD (f l[m]))=((l.take (m+1)).map f++(l.drop (m+1)).map g).map lD:=by
 have i:((l.take m).map f).length=m:=by rw[oI,Er];ext
 rw[<-Qx,List.set_append_right _ _ (by ext),i,Nat.sub_self,Ot a,P0 a,m3,r_,Eg (f:=f),Lk];rfl
def F0{f pl S M:Nat}{P:List Nat}(i:RI M V pl R P L)(H:pl<f)(ao:f<=1000)(hV:V.length<=1000)(Z:∀a∈V,sc a≠0)(h0:0<S)(hS:S<=200000)(hz:∀a∈V,∀j,sz ((rr f R P sc a).getD j 0)<=S) :
  ∃R' Y L' U Q C u,RI M V (pl+1) R' Y L'/\Sk.p [x0,x1,some (zj (L.map (rr f R P sc))),some (.int (P.length:Int)),some (.int (pl:Int)),x5,x6,x7,x8] s=.nx [x0,x1,some (zj (L'.map (rr f R' Y sc))),some (.int (Y.length:Int)),some (.int (pl:Int)),U,Q,C,u] s:=by
 have ar:=i.ll;have mv:∀a,a∈L->a∈V:=λa X=>(i.all a).mpr (.inr X);have c1:=bN (ws:=[2]) (ws':=[]) (env:=[x0,x1,some (zj (L.map (rr f R P sc))),some (.int (P.length:Int)),some (.int (pl:Int)),x5,x6,x7,x8]) (s:=s) (s0:=s) (fm:=[4]) (i:=aV (ab 2)) (t:=xB (ac vr (ac h8 (ac h8 (ab 0) (ab 1)) (xC (.int 0))) (xC (.int 0)))) (e:=ab 0) (l:=L) (λa=>lD (rr f R P sc a)) (λa=>lD (rr f R P sc a)) (λa=>!decide (((rr f R P sc a).getD pl 0).num=0))
  (by simp![bI,bn,Pf,oF];rfl) (by ext) λa _=>⟨by
   show (xB _:Xt []).p [some (lD (rr f R P sc a)),some (.int (pl:Int))] s=_
   simp![bO,au,bF,eU (show pl<(rr f R P sc a).length by rw[jQ];exact H),Pf,aL,aD,bz,z0,cg,bE,if_true,PR.bl],λ_=>rfl⟩
 show ∃R' Y L' U Q C u,_/\((aA _ _:Xd [2]).p _ _)=_;rw[av,aN,c1];have an:D.lst ((L.filter λa=>!decide (((rr f R P sc a).getD pl 0).num=0)).map λa=>lD (rr f R P sc a))=zj ((L.filter λa=>!decide (((rr f R P sc a).getD pl 0).num=0)).map (rr f R P sc)):=by
  unfold zj;rw[oF];rfl
 rw[an];simp![Pg,si,r_,PU.ak,ca,bO,au,eE,ah,tx,Cz,if_true,cg,Ki,Pf,PR.bl]
 cases ef:L.filter λa=>!decide (((rr f R P sc a).getD pl 0).num=0) with
 | nil =>
  refine⟨R,P,L,some (.lst []),x6,x7,x8,i.skip λa X=>?_,rfl⟩;have z:¬(a∈L.filter λa=>!decide (((rr f R P sc a).getD pl 0).num=0)):=by rw[ef];simp
  rw[y6] at z;have z2:((rr f R P sc a).getD pl 0).num=0:=Classical.byContradiction λy=>z ⟨X,by rw[decide_eq_false y];rfl⟩;exact (pH H (Z a (mv a X)) i.st).mp z2
 | cons b F =>
  have hb:b∈L.filter λa=>!decide (((rr f R P sc a).getD pl 0).num=0):=by rw[ef];simp
  rw[y6] at hb;obtain⟨ai,B⟩:=hb;have B:((rr f R P sc b).getD pl 0).num≠0:=by simpa using B
  obtain⟨j,hj,T,er⟩:=N_ (rows:=L.map (rr f R P sc)) (lead:=rr f R P sc b) (mu.mpr ⟨b,ai,rfl⟩);have J:j<L.length:=by simpa using hj
  have T:rr f R P sc L[j]=rr f R P sc b:=by simpa using T
  have E:=mv _ (CF J);have I:Lf R P L[j] pl≠0:=λz=>B (by rw[<-T];exact (pH H (Z _ E) i.st).mpr z);have i2:=i.take J I;rw[<-T] at er B;have e6:nk ((rr f R P sc b::F.map (rr f R P sc)).map lD) 0=some (lD (rr f R P sc L[j])):=by rw[T,m3];exact N4
  obtain⟨ap,G,eg,C,u,rfl,rfl⟩:=dA (g:=(ia 7:Xg [2]).p) (b:=Sj.p)
   (λm env G=>∃x7 x8,G=s/\env=[x0,x1,some (zj (((L.eraseIdx j).take m).map (rr f (L[j]::R) (pl::P) sc)++((L.eraseIdx j).drop m).map (rr f R P sc))),some (.int ((P.length:Int)+1)),some (.int (pl:Int)),some (zj (rr f R P sc b::F.map (rr f R P sc))),some (lD (rr f R P sc L[j])),x7,x8])
   (d6 0 (L.eraseIdx j).length) 0 [x0,x1,some (zj ((L.eraseIdx j).map (rr f R P sc))),some (.int ((P.length:Int)+1)),some (.int (pl:Int)),some (zj (rr f R P sc b::F.map (rr f R P sc))),some (lD (rr f R P sc L[j])),x7,x8] s ⟨x7,x8,rfl,by simp⟩ λm env G d ⟨x7,x8,es,ee⟩ hd=>by
    subst es ee;rw[C0];obtain⟨rfl,hm⟩:=gn hd;have O:(L.eraseIdx j)[m]∈V:=mv _ (S1 (CF hm));have hA:(((L.eraseIdx j).take m).map (rr f (L[j]::R) (pl::P) sc)).length=m:=by rw[oI,Er];ext
    have al:(L.eraseIdx j).drop m=(L.eraseIdx j)[m]::(L.eraseIdx j).drop (m+1):=Ot hm
    obtain⟨u,q⟩:=FX (pl:=pl) (i:=m) (S:=S) (lf:=(((L.eraseIdx j).take m).map (rr f (L[j]::R) (pl::P) sc)++((L.eraseIdx j).drop m).map (rr f R P sc)).map lD) (row:=rr f R P sc (L.eraseIdx j)[m]) (lead:=rr f R P sc L[j]) (x0:=x0) (x1:=x1) (x3:=some (.int ((P.length:Int)+1))) (x5:=some (zj (rr f R P sc b::F.map (rr f R P sc)))) (x8:=x8) (s:=G) (by
     rw[tt,C5 (by ext),hA,Nat.sub_self,al];rfl) (by rw[jQ];exact H) (by rw[jQ];exact H) (by rw[jQ];exact ao) B h0 hS (hz _ O) (hz _ E)
    rw[Kh H i.st (Z _ O) (Z _ E) I] at q;refine⟨_,_,G,rfl,q,some (.int (m:Int)),u,rfl,?_⟩;have e:=FZ (L.eraseIdx j) (rr f (L[j]::R) (pl::P) sc) (rr f R P sc) hm;rw[e]
  rw[C0,dh,OG,Qc,Hj,DC] at eg;refine⟨L[j]::R,pl::P,L.eraseIdx j,some (zj (rr f R P sc b::F.map (rr f R P sc))),some (lD (rr f R P sc L[j])),C,u,i2,?_⟩;have ee:(L.map (rr f R P sc)).eraseIdx j=(L.eraseIdx j).map (rr f R P sc):=li _ _ _;rw[ee] at er;simp only[m3,List.isEmpty_cons,OK,Pg,if_true];rw[av,aN];simp![au,aL,aD,bF];rw[show nk (List.map lD (rr f R P sc b::F.map (rr f R P sc))) 0=some (lD (rr f R P sc L[j])) from e6];dsimp![Pf]
  rw[av,mV (s1:=G) (as:=[lD (rr f R P sc L[j])]) (ds:=(L.map (rr f R P sc)).map lD) (ds':=((L.eraseIdx j).map (rr f R P sc)).map lD) (r:=.non) (by
   simp![ag,ah]) rfl er,PU.ak,av,aN]
  simp![si,r_,au,aL,aD,cN,Pf,Pg,PU.ak];rw[cF,bB];simp![ag,bq,ah,dJ,oI,Pf];have ax:(L.eraseIdx j).length<=1000:=by rw[P7];split <;> ext
  rw[cI (by ext),v_,Pf,Pg];refine eg.trans ?_;rw[pk,Qq];rfl
def Kj(J:nn<=1000)(hV:V.length<=1000)(i0:RI M V 0 [] [] V)(hs:∀a∈V,sc a≠0)(h0:0<S)(hS:S<=200000)(hz:∀pl R P L,pl<=nn->RI M V pl R P L->∀a∈V,∀j,sz ((rr nn R P sc a).getD j 0)<=S) :
  ∃R P L,RI M V nn R P L/\fh.p [.int (nn:Int),zj (V.map (rr nn [] [] sc))] s=.ok (.int (P.length:Int)) s:=by
 rw[Ab (by rfl)];unfold iU;rw[show mh 9 [D.int (nn:Int),zj (V.map (rr nn [] [] sc))]=[some (.int (nn:Int)),some (zj (V.map (rr nn [] [] sc))),none,none,none,none,none,none,none] from rfl];have c1:=bN (ws:=[2]) (ws':=[]) (env:=[some (.int (nn:Int)),some (zj (V.map (rr nn [] [] sc))),none,none,none,none,none,none,none]) (s:=s) (s0:=s) (fm:=[]) (i:=aV (ab 1)) (t:=f_) (e:=n_ jc (aa (ab 0) a_)) (l:=V) (λa=>lD (rr nn [] [] sc a)) (λa=>lD (rr nn [] [] sc a)) (λ_=>true)
  (by simp![bI,bn,Pf,oF];rfl) (by lia) λa _=>⟨rfl,λ_=>by
   show (n_ jc _:Xe []).p [some (lD (rr nn [] [] sc a))] s=_
   simp only[bq,ag,ae,Pb,ah,pM (show ((rr nn [] [] sc a).map qD).length<=100000 by rw[oI,jQ];lia),Pf]⟩
 obtain⟨Q,r,X,R,P,L,E,y,u,B,C,f,rfl,rfl⟩:=dA (g:=(ia 4:Xg [2]).p) (b:=Sk.p)
  (λpl env r=>∃R P L E y u B C,RI M V pl R P L/\r=s/\env=[some (.int (nn:Int)),some (zj (V.map (rr nn [] [] sc))),some (zj (L.map (rr nn R P sc))),some (.int (P.length:Int)),E,y,u,B,C])
  (d6 0 nn) 0 [some (.int (nn:Int)),some (zj (V.map (rr nn [] [] sc))),some (zj (V.map (rr nn [] [] sc))),some (.int 0),none,none,none,none,none] s ⟨[],[],V,none,none,none,none,none,i0,rfl,rfl⟩ λpl env r d ⟨R,P,L,E,y,u,B,C,f,Y,T⟩ hd=>by
   subst Y T;rw[C0] at f ⊢;obtain⟨rfl,hp⟩:=gn hd;obtain⟨R',Z,U,O,H,F,G,I,q⟩:=F0 (x0:=some (.int (nn:Int))) (x1:=some (zj (V.map (rr nn [] [] sc)))) (x5:=y) (x6:=u) (x7:=B) (x8:=C) (s:=r) f hp J hV hs h0 hS (hz pl R P L (by lia) f);exact⟨_,_,r,rfl,q,R',Z,U,some (.int (pl:Int)),O,H,F,G,I,rfl,rfl⟩
 rw[C0,dh] at f;refine⟨R,P,L,f,?_⟩;rw[av,dQ,c1,aT];dsimp![fD,if_true];rw[show D.lst (V.map λa=>lD (rr nn [] [] sc a))=zj (V.map (rr nn [] [] sc)) by unfold zj;rw[oF];rfl,av,aN];dsimp![aL,aD];rw[av,cF,bB];simp only[ag,ae,Pb,ah];rw[cI (by lia),v_,Pf,Pg];refine (congrArg (λz:PS=>(z.then _).fin) X).trans ?_;simp only[PU.ak,bA,ae,af,Pg,PU.bi]
def K9(n m:Nat)(a:Vc):Int:=di (List.range m) λi=>a (n+1+i)
def qk(C:k<m):K9 n m (vc (wr n m r k))=(wx n r:Int):=by
 unfold K9
 have:∀(l:List Nat),l.Nodup->(∀i∈l,i<m)->di l (λi=>vc (wr n m r k) (n+1+i))=if k∈l then (wx n r:Int) else 0:=λl=>by
  induction l with
  | nil=>intro _ _;rfl
  | cons x l B =>
   intro nd f;obtain⟨j,u⟩:=CU.mp nd;rw[df,B u λi a=>f i (m1 _ a),G5 (f x (by simp))];by_cases e:x=k
   .subst e;rw[d_ rfl,g_ j,d_ (by simp)];lia
   .rw[g_ e];by_cases z:k∈l
    .rw[d_ z,d_ (by simp[z])];lia
    .rw[g_ z,g_ λq=>(ml.mp q).elim (λy=>e y.symm) z];lia
 rw[this _ DH λi a=>pa.mp a,d_ (pa.mpr C)]
def Sx(f:k<m)(i:nn<=n+1):rr nn [] [] (K9 n m) (vc (wr n m r k))=(List.range nn).map λj=>nm n j r:=by
 unfold rr;refine B_ λj a=>?_;have a:=pa.mp a;rw[An,m4 (by lia),qk f,show Dt [] []=1 from rfl,KU]
 have:=rV (mG (n:=n) (r:=r))
 rw[Rat.div_def];have h:=Rat.mul_inv_cancel _ this
 grind
def RI.szD{M m c:Nat}{pl:Nat}{P:List Nat}(i:RI M V pl R P L)(l:pl<=13)(y:pl+1<=c)(j:1<=M)(f:M<=2 ^ m):(Dt R P).natAbs<2 ^ (2+c * (4+m)):=by
 have u:=i.pl
 have:=mT (M:=M) R (λr a=>i.sz r ((i.all r).mpr (.inl a))) P (by lia)
 exact nO (k:=R.length) f (by rw[i.len];lia) (by lia)
def Kk(h:1+za (kr n r)<=m):wx n r<2 ^ m:=xv (o4 _ 1 1 (by decide)) (Eo (by decide) h)
def Oa{n m f pl:Nat}{P:List Nat}(h:DY n m l)(G:f<=12)(H:pl<=f)(i:RI (2 ^ (2 * m)) (q_ n l) pl R P L):∀a∈q_ n l,∀j,sz ((rr f R P (K9 n l.length) a).getD j 0)<=m+(2+(f+1) * (4+2 * m)):=λa u j=>by
 by_cases B:j<f
 .obtain⟨k,y,rfl⟩:=iB.mp u;have C:=h.sz _ (CF y);have z:=i.szL (by lia) (show pl+1<=f+1 by lia) (j_ _) u j;have F:=i.szD (by lia) (show pl+1<=f+1 by lia) (Hk (by decide)) (j_ _);rw[gG B,<-Rat.divInt_eq_div,qk y];have E:((wx n l[k]:Int) * Dt R P).natAbs<2 ^ (m+(2+(f+1) * (4+2 * m))):=by
   rw[DK,Hg];exact cM (Kk C) F
  refine jZ ?_ (by lia) ?_ E
  .have:=mG (n:=n) (r:=l[k])
   exact KQ (by lia) i.st.ne
  .exact xv z (Eo (by decide) (by lia))
 .rw[o_,Ed (by rw[jQ];lia),OE,DW];lia
def Kl:∀a∈q_ n f,K9 n f.length a≠0:=λa i=>by
 obtain⟨k,j,rfl⟩:=iB.mp i;rw[qk j]
 have:=mG (n:=n) (r:=f[k])
 lia
def Km(f:nn<=n+1):(q_ n rs).map (rr nn [] [] (K9 n rs.length))=rs.map λr=>(List.range nn).map λj=>nm n j r:=by
 apply Lm
 .simp[q_]
 .intro i u l;have a:i<rs.length:=by simpa using l
  rw[Ln,Ln]
  have:(q_ n rs)[i]'(by simpa [q_] using a)=vc (wr n rs.length rs[i] i):=by simp[q_]
  rw[this,Sx a f]
def Kn(n:Nat)(R:List Vc)(P:List Nat)(L:List Vc):Prop:=∃a∈L,Lf R P a n≠0
def u8(h:sz q<=950000):cA.p [qD q] s=.ok (.bl true) s:=by
 have l:=kg (t:=q.num) (b:=q.den) (s:=s) q.den_nz (bC q) h;rw[Rat.num_divInt_den] at l;have hd:(0:Int)<(q.den:Int):=by have:=q.den_nz;lia
 have e:=xZ (neg:=false) (a:=q) (b:=q);rw[decide_eq_true rfl] at e;rw[pT (by rfl)];unfold dM;rw[show mh 2 [qD q]=[some (qD q),none] from rfl];have b:∀(i:Int) (f:Option D),(va (CO (dH (xB (BV (dr ["int"]) (ab 1)))) (xB (BV (dr ["bool"]) (ab 1)))) (aX (xC (.bl false))) i_:Xd []).p [some (qD q),some (.int i)] s=.nx [some (qD q),some (.int i)] s:=λi f=>rfl;have g:C4 (ia 1:Xg []).p (va (CO (dH (xB (BV (dr ["int"]) (ab 1)))) (xB (BV (dr ["bool"]) (ab 1)))) (aX (xC (.bl false))) i_:Xd []).p [.int q.num,.int (q.den:Int)] [some (qD q),none] s=.nx [some (qD q),some (.int (q.den:Int))] s:=by
  rw[d3 (env1:=[some (qD q),some (.int q.num)]) (by rfl),b _ none];rw[PU.vE];rw[d3 (env1:=[some (qD q),some (.int (q.den:Int))]) (by rfl),b _ none];rfl
 have j:(va (CO (dH (xB (BV (dr ["tuple"]) (ab 0)))) (xB (ac vr (n_ cr (aa (ab 0) a_)) (xC (.int 2))))) (aX (xC (.bl false))) i_:Xd []).p [some (qD q),none] s=.nx [some (qD q),none] s:=by
  simp only[ca,g8,fy,bO,jl,ae,Pb,iT,sX,DJ,Pf,PR.bl,au,bq,ag,ah,o9,aL,aD,cg,bE,pk,tx];rfl
 rw[av,j,PU.ak,av,cF];simp only[bI,ae,Pb,qY,Pf,Pg];refine (congrArg (λz:PS=>(z.then _).fin) g).trans ?_;simp only[PU.ak,bA,mj,au,ae,Pb,aL,aD,bz,z0,z1,Pf,o3,decide_eq_true hd,PR.bl,if_true,aB,ag,ah,l,eM,e,su,if_false,Pg,PU.bi]
def lY(j:qs.length<=1000)(h:∀q∈qs,sz q<=950000):cK.p [lD qs,.int (qs.length:Int)] s=.ok (.bl true) s:=by
 rw[ud (by rfl)];unfold eW;rw[show mh 2 [lD qs,.int (qs.length:Int)]=[some (lD qs),some (.int (qs.length:Int))] from rfl,bA];have c:=bN (ws:=[]) (ws':=[]) (env:=[some (lD qs),some (.int (qs.length:Int))]) (s:=s) (s0:=s) (fm:=[]) (i:=aV (ab 0)) (t:=f_) (e:=aj cA (aa (ab 0) a_)) (l:=qs) qD (λ_=>.bl true) (λ_=>true)
  (by simp only[bI,ae,Pb,bn,Pf]) (by lia) λq f=>⟨rfl,λ_=>by
   show (aj cA _:Xe []).p [some (qD q)] s=_
   simp only[aB,ag,ae,Pb,ah,u8 (h q f)]⟩
 have a:=BO (qs.map λ_=>true);rw[oF,show ((qs.map λ_=>true).all id)=true by simp] at a;simp![mj,jl,iT,uE,DJ,Pf,PR.bl,au,bq,ag,ah,dJ,oI,eM,bE,su,if_false,decide_true,c,aT,aL,M5,GR];rw[show GN true (.bl false) (.lst (qs.map λ_=>D.bl true))=some (.bl true) from a];rfl
abbrev y4(ps:List Nat):D:=.lst (ps.map λ(p:Nat)=>D.int (p:Int))
def F1(L:n<=100)(G:f.length<=1000)(ok:∀r∈f,jp n r)(z:a.length=f.length)(O:∀q∈a,sz q<=950000)(W:TW (f.zip a)<=880000)(C:∀j∈Q,j<n)(I:Q.length<=1000)(E:∀j,j∈Q->(x_ n f a).getD j 0=if j=p then 1 else 0) :
  ∃u,Si.p [some (.int (n:Int)),some (k_ f),x2,x3,some (y4 Q),some (.int (p:Int)),some (lD a),x7] s=.nx [some (.int (n:Int)),some (k_ f),x2,x3,some (y4 Q),some (.int (p:Int)),some (lD a),u] s:=by
 have B:=lY (qs:=a) (s:=s) (by lia) O;rw[z] at B;have F:=oB (n:=n) (rs:=f) (ms:=a) (s:=s) L G z.symm ok W;have J:=bN (ws:=[]) (ws':=[]) (env:=[some (.int (n:Int)),some (k_ f),x2,x3,some (y4 Q),some (.int (p:Int)),some (lD a),some (lD (x_ n f a))]) (s:=s) (s0:=s) (fm:=[7]) (i:=aV (ab 4)) (t:=f_) (e:=ac h8 (ab 1) (ab 0)) (l:=Q) (λ(p:Nat)=>D.int (p:Int)) (λj=>qD (if j=p then 1 else 0)) (λ_=>true)
  (by simp![bI,bn,Pf]) (by lia) λj y=>⟨rfl,λ_=>by
   have H:=C j y;show (ac h8 _ _:Xe []).p [some (.int (j:Int)),some (lD (x_ n f a))] s=_
   simp![au,bF,eU (show j<(x_ n f a).length by rw[wV];lia),Pf,E j y]⟩
 have M:=bN (ws:=[]) (ws':=[]) (env:=[some (.int (n:Int)),some (k_ f),x2,x3,some (y4 Q),some (.int (p:Int)),some (lD a),some (lD (x_ n f a))]) (s:=s) (s0:=s) (fm:=[5]) (i:=aV (ab 4)) (t:=f_) (e:=aU (aa (n_ jz (aa (ac CV (ab 0) (ab 1)) a_)) (aa (xC (.int 1)) a_))) (l:=Q) (λ(p:Nat)=>D.int (p:Int)) (λj=>qD (if j=p then 1 else 0)) (λ_=>true)
  (by simp![bI,bn,Pf]) (by lia) λj y=>⟨rfl,λ_=>by
   show (aU _:Xe []).p [some (.int (j:Int)),some (.int (p:Int))] s=_;simp![bH,ag,bq,au,ah,eM,bE,su,if_false,Pf,j3,aL,aD,pk,tx,show (0+1+1:Nat)<=100000 by decide,if_true];by_cases e:j=p
   .subst e;simp
   .have:¬(j:Int)=(p:Int):=by lia
    simp[e,this]⟩
 have e2:=uP (neg:=true) (xs:=Q.map λj=>if j=p then 1 else 0) (ys:=Q.map λj=>if j=p then 1 else 0);rw[decide_eq_true rfl,lD,oF] at e2;refine⟨some (lD (x_ n f a)),?_⟩;show ((aA _ _:Xd []).p _ _)=_;rw[av,ca];simp![fy,bO,aB,ag,bq,ah,dJ,oI,Pf,B,PR.bl,C_,Pg,su,if_false,ce,PU.ak];rw[av,aN];simp![aB,ag,ah,F,Pg,si,r_,PU.ak];rw[ca,bO,au,J];simp only[Pb,aT];rw[M];simp only[Pb,aT,cg];rw[show AZ true (.lst (Q.map λj=>qD (if j=p then 1 else 0))) (.lst (Q.map λj=>qD (if j=p then 1 else 0)))=some (.bl false) from e2];rfl
def Ob(Q:List Nat):gU (Q.map λ(p:Nat)=>D.int (p:Int)) (Q.map f)=Q.map λp=>.tup [.int (p:Int),f p]:=by
 have:=uh (f:=f) Q
 rw[oF] at this;exact this
def F2{j:Nat}{free:List Nat}:GN true (.int (j:Int)) (y4 free)=some (.bl (!decide (j∈free))):=by
 have e:(free.map λ(j:Nat)=>D.int (j:Int))=(free.map λ(j:Nat)=>(j:Int)).map D.int:=by rw[oF];rfl
 have:=Jm (neg:=true) (x:=(j:Int)) (d:=y4 free) (xs:=free.map λ(j:Nat)=>(j:Int)) (by show (D.lst _).items=_;rw[e];rfl)
 rw[this]
 have e2:decide ((j:Int)∈free.map λ(j:Nat)=>(j:Int))=decide (j∈free):=decide_eq_decide.mpr ⟨λh=>by
  obtain⟨k,a,e⟩:=mu.mp h
  rwa [show j=k by lia],λh=>mu.mpr ⟨j,h,rfl⟩⟩
 rw[e2];rfl
def rA{n:Nat}{rs:List Rw}{mf:Nat->List Rat}{free Q:List Nat}{s:hB}(R:n<=100)(P:rs.length<=1000)(ok:∀r∈rs,jp n r)(C:Q=(List.range n).filter λj=>!decide (j∈free))(h:∀p,p∈Q->(mf p).length=rs.length/\(∀q∈mf p,sz q<=950000)/\TW (rs.zip (mf p))<=880000/\∀j,j∈Q->(x_ n rs (mf p)).getD j 0=if j=p then 1 else 0) :
  cy.p [.int (n:Int),k_ rs,y4 free,.lst (Q.map λp=>lD (mf p))] s=.ok (.bl true) s:=by
 have L:∀j∈Q,j<n:=λj F=>by rw[C] at F;exact pa.mp (y6.mp F).1
 have u:Q.length<=1000:=by
  have:=Oy (λj=>!decide (j∈free)) (List.range n)
  rw[<-C,List.length_range] at this;lia
 rw[nS (by rfl)];unfold cZ;rw[show mh 8 [D.int (n:Int),k_ rs,y4 free,.lst (Q.map λp=>lD (mf p))]=[some (.int (n:Int)),some (k_ rs),some (y4 free),some (.lst (Q.map λp=>lD (mf p))),none,none,none,none] from rfl];have H:=bN (ws:=[]) (ws':=[]) (env:=[some (.int (n:Int)),some (k_ rs),some (y4 free),some (.lst (Q.map λp=>lD (mf p))),none,none,none,none]) (s:=s) (s0:=s) (fm:=[2]) (i:=be wh (aa (ab 0) a_)) (t:=xB (ac (MZ true) (ab 0) (ab 1))) (e:=ab 0) (l:=List.range n) (λ(p:Nat)=>D.int (p:Int)) (λ(p:Nat)=>D.int (p:Int)) (λj=>!decide (j∈free))
  (by simp only[bB,ag,ae,Pb,ah];rw[cI (by lia),v_,dC];rfl) (by simp;lia) λj F=>⟨by
   show (xB _:Xt []).p [some (.int (j:Int)),some (y4 free)] s=_
   simp![bO,au,GR,F2,Pf,PR.bl],λ_=>rfl⟩
 rw[<-C] at H;obtain⟨I,a,M,G,B,f,rfl,rfl⟩:=dA (g:=(w_ (n7 (ia 5) (n7 (ia 6) w9)) 2:Xg []).p) (b:=Si.p) (λj env a=>∃G B f,a=s/\env=[some (.int (n:Int)),some (k_ rs),some (y4 free),some (.lst (Q.map λp=>lD (mf p))),some (y4 Q),G,B,f]) (Q.map λ(p:Nat)=>.tup [.int (p:Int),lD (mf p)]) 0 [some (.int (n:Int)),some (k_ rs),some (y4 free),some (.lst (Q.map λp=>lD (mf p))),some (y4 Q),none,none,none] s ⟨none,none,none,rfl,rfl⟩ λj env a d ⟨G,B,f,O,J⟩ hd=>by
   subst O J;rw[tt,Bv] at hd;obtain⟨p,y,rfl⟩:=hd;have y:p∈Q:=Ee y;obtain⟨T,U,S,X⟩:=h p y;obtain⟨E,q⟩:=F1 (p:=p) (x2:=some (y4 free)) (x3:=some (.lst (Q.map λp=>lD (mf p)))) (x7:=f) (s:=a) R P ok T U S L u X;exact⟨_,_,_,rfl,q,some (.int (p:Int)),some (lD (mf p)),E,rfl,rfl⟩
 rw[av,aN,H];dsimp![PU.ak];rw[av,ca];simp![g8,fy,bO,jl,iT,uE,DJ,Pf,PR.bl,au,bq,ag,ah,dJ,oI,cg,bE,show (["list"].any (eT "list"))=true from rfl,C_,su,if_false,decide_true,if_true,Pg,ce,PU.ak];rw[av,cF];simp![bB,ag,ah,oW,Pf,Pg,Ob];refine (congrArg (λz:PS=>(z.then _).fin) M).trans ?_;rw[PU.ak,bA,aL,Pg,PU.bi];rfl
abbrev e1(j:Nat):Nat->Rat:=λq=>if q=j then 1 else 0
def oA:∀(ps:List Pt) (a:Rat),(ps.map (·.1)).Nodup->(∀p∈ps,p.1<n)->bT a (oy ps xs)=a+sQ (List.range n) λj=>e_ ps j * xs.getD j 0
 | [],a,_,_=>by
  show a=_;rw[fY _ λj _=>by show (0:Rat) * _=0;grind];grind
 | p::ps,a,nd,lt=>by
  rw[m3,CU] at nd;have i:=oA (n:=n) (xs:=xs) ps (a+p.2 * xs.getD p.1 0) nd.2 λq l=>lt q (m1 _ l);have e:=lQ (a:=1) (b:=p.2) (x:=e_ ps) (y:=e1 p.1) (h:=λj=>xs.getD j 0) (List.range n);rw[gM (f:=λj=>e1 p.1 j * xs.getD j 0) (p:=p.1) DH (pa.mpr (lt p (by simp))) λq _ ne=>by show (if q=p.1 then 1 else 0) * _=(0:Rat);rw[g_ ne];grind] at e
  rw[bP (g:=λj=>(1 * e_ ps j+p.2 * e1 p.1 j) * xs.getD j 0) (List.range n) λj _=>by
   rw[ft];by_cases z:p.1=j
   .subst z;rw[d_ rfl,dE nd.1];show p.2 * _=(1 * 0+p.2 * (if p.1=p.1 then 1 else 0)) * _;rw[d_ rfl];grind
   .rw[g_ z];show e_ ps j * _=(1 * e_ ps j+p.2 * (if j=p.1 then 1 else 0)) * _;rw[g_ λq=>z q.symm];grind,e]
  show bT (a+p.2 * xs.getD p.1 0) (oy ps xs)=_;rw[i];show _=a+(1 * _+p.2 * ((if p.1=p.1 then 1 else 0) * _));rw[d_ rfl];grind
def wq(h:P.Perm Q):sQ P f=sQ Q f:=by
 induction h with
 | nil=>rfl
 | cons x _ j=>rw[bg,bg,j]
 | swap x y l=>rw[bg,bg,bg,bg];grind
 | trans _ _ a i=>exact a.trans i
def RI.pp{M n pl p:Nat}{P:List Nat}(i:RI M V pl R P L)(a:p∈P):Hd R P p p=Dt R P:=by
 rw[fU i.st a];simp[mr]
def xW{M n c:Nat}{f:List Rw}{R:List Vc}{P:List Nat}{L:List Vc}(i:RI M (q_ n f) n R P L)(B:c<=n)(hL:∀a∈L,Lf R P a c=0){r:Rw}(G:r∈f):nm n c r=sQ (List.range n) λj=>e_ r.1 j * val R P j c:=by
 obtain⟨k,H,rfl⟩:=P8.mp G;have E:vc (wr n f.length f[k] k)∈q_ n f:=iB.mpr ⟨k,H,rfl⟩;have z:Lf R P (vc (wr n f.length f[k] k)) c=0:=by
  rcases (i.all _).mp E with h|h
  .exact rM _ R h _
  .exact hL _ h
 rw[wf i.st i.nd] at z;have u:=congrArg (λx:Int=>(x:Rat)) z;simp only[Rat.intCast_sub,Rat.intCast_mul,qa] at u;rw[m4 B,bP (g:=λp=>(e_ f[k].1 p * ((Hd R P p c:Int):Rat)) * (((wx n f[k]:Nat):Int):Rat)) P (λp l=>by rw[m4 (Dm (i.lt p l)),oK (i.lt p l)];grind),j6] at u;have F:(((wx n f[k]:Nat):Int):Rat)≠0:=rV mG;have hd:((Dt R P:Int):Rat)≠0:=λe=>i.st.ne (by exact_mod_cast e);have C:((0:Int):Rat)=0:=rfl;rw[C] at u;have key:(((Dt R P:Int):Rat) * nm n c f[k] - sQ P λp=>e_ f[k].1 p * ((Hd R P p c:Int):Rat)) * (((wx n f[k]:Nat):Int):Rat)=0:=by rw[<-u];grind
 have key:=(Rat.mul_eq_zero.mp key).resolve_right F;have e1:(sQ (List.range n) λj=>e_ f[k].1 j * val R P j c)=sQ P λj=>e_ f[k].1 j * val R P j c:=by
  rw[ly (c:=λj=>decide (j∈P)) (List.range n) λj _ y=>by
   have y:j∉P:=by simpa using y
   unfold val;rw[g_ y];grind]
  refine wq ((La (DH.filter _) i.nd).mpr λj=>?_);rw[y6,pa];constructor
  .rintro⟨_,h⟩;simpa using h
  .intro h;exact⟨i.lt j h,by simpa using h⟩
 rw[e1,bP (g:=λp=>(e_ f[k].1 p * ((Hd R P p c:Int):Rat)) * ((Dt R P:Int):Rat)⁻¹) P λp l=>by
  unfold val
  rw[d_ l,i.pp l (n:=n),Rat.divInt_eq_div,Rat.div_def];grind,j6]
 have:=Rat.mul_inv_cancel _ hd
 grind
def pE(h:j<n):(bD n R P).getD j 0=val R P j n:=by
 rw[o_];simp[bD,h]
def Ko(i:RI M (q_ n l) n R P L)(ok:∀r∈l,jp n r)(hL:¬Kn n R P L)(f:r∈l):se (oy r.1 (bD n R P))=r.2:=by
 have e:=xW i (j_ n) (λa u=>Classical.byContradiction λz=>hL ⟨a,u,z⟩) f;rw[FT] at e;show bT 0 (oy r.1 (bD n R P))=r.2;rw[oA (n:=n) r.1 0 (ok r f).nd (ok r f).lt,e,bP (g:=λj=>e_ r.1 j * val R P j n) (List.range n) λj y=>by rw[pE (pa.mp y)]]
 grind
def t9(a:j<n)(hf:f<n):(aY n R P f).getD j 0=if j=f then 1 else -(val R P j f):=by
 unfold aY;by_cases e:j=f
 .subst e;rw[d_ rfl,o_,Cw (by simp;exact hf)];rfl
 .rw[g_ e,o_,o0 (λz=>e z.symm)];simp[a]
def Cl(i:RI M (q_ n B) n R P L)(ok:∀r∈B,jp n r)(hf:f<n)(u:f∉P)(l:r∈B):se (oy r.1 (aY n R P f))=0:=by
 have e:=xW i (Dm hf) (λa C=>i.off f hf u a C) l;rw[oK hf] at e;show bT 0 (oy r.1 (aY n R P f))=0;rw[oA (n:=n) r.1 0 (ok r l).nd (ok r l).lt];have t:=lQ (a:=1) (b:=-1) (x:=λj=>e_ r.1 j * e1 f j) (y:=λj=>e_ r.1 j * val R P j f) (h:=λ_=>1) (List.range n);rw[gM (f:=λj=>(e_ r.1 j * e1 f j) * 1) (p:=f) DH (pa.mpr hf) λq _ ne=>by show (e_ r.1 q * (if q=f then 1 else 0)) * 1=(0:Rat);rw[g_ ne];grind] at t;have E:(sQ (List.range n) λj=>(e_ r.1 j * val R P j f) * 1)=e_ r.1 f:=by rw[e];exact bP _ λj _=>by grind
 rw[E] at t
 rw[bP (g:=λj=>(1 * (e_ r.1 j * e1 f j) + -1 * (e_ r.1 j * val R P j f)) * 1) (List.range n) λj F=>by
  rw[t9 (pa.mp F) hf];by_cases z:j=f
  .subst z;have v:val R P j j=0:=g_ u;rw[d_ rfl,v];show _=(1 * (e_ r.1 j * (if j=j then 1 else 0)) + -1 * (e_ r.1 j * 0)) * 1;rw[d_ rfl];grind
  .rw[g_ z];show _=(1 * (e_ r.1 j * (if j=f then 1 else 0)) + -1 * (e_ r.1 j * val R P j f)) * 1;rw[g_ z];grind,t]
 show 0+(1 * ((e_ r.1 f * (if f=f then 1 else 0)) * 1) + -1 * e_ r.1 f)=0;rw[d_ rfl];grind
def tF:∀P:List Nat,(sQ P λp=>f p+g p)=sQ P f+sQ P g
 | []=>by show (0:Rat)=0+0;grind
 | p::P=>by rw[bg,bg,bg,tF P];grind
abbrev tQ(n:Nat)(rs:List Rw)(X:Nat->Rat):Prop:=∀r∈rs,r.2=sQ (List.range n) λj=>e_ r.1 j * X j
def jj(R:List Vc)(P:List Nat)(f j:Nat):Rat:=if j=f then 1 else -(val R P j f)
def Cr(nd:P.Nodup)(lt:∀p∈P,p<n):sQ (List.range n) f=sQ P f+sQ (frees n P) f:=by
 have i:(List.range n).Perm (P++frees n P):=(La DH (by
  rw[KO];refine⟨nd,DH.filter _,λa j b r e=>?_⟩;subst e
  have:=(y6.mp r).2
  simp[j] at this)).mpr λx=>by
   rw[CZ,y6,pa];constructor
   .intro h;by_cases z:x∈P
    .exact .inl z
    .exact .inr ⟨h,by simpa using z⟩
   .rintro (h|h)
    .exact lt x h
    .exact h.1
 rw[wq i]
 have:∀(a b:List Nat),sQ (a++b) f=sQ a f+sQ b f:=λa b=>by
  induction a with
  | nil=>show sQ b f=0+sQ b f;grind
  | cons p a l=>rw[Qd,bg,bg,l];grind
 exact this _ _
def RI.meet(i:RI M (q_ n rs) n R P L)(h:tQ n rs X)(B:j<n):X j=val R P j n+sQ (frees n P) λf=>X f * jj R P f j:=by
 by_cases a:j∈P
 .have hv:=i.vsol h;have s:=(yB R P j).sol λr C=>hv r ((i.all r).mpr (.inl C));unfold Sol at s
  rw[Cr i.nd i.lt,gM (p:=j) i.nd a λq u ne=>by
   rw[fU i.st u,show mr j q=0 by simp[mr,ne],QA];show ((0:Int):Rat) * X q=0
   grind] at s
  have y:((Hd R P j j:Int):Rat)≠0:=λe=>by
   have:Hd R P j j=0:=by exact_mod_cast e
   rw[fU i.st a] at this;have ne:=i.st.ne;exact ne (by simpa [mr] using this)
  have e:(sQ (frees n P) λf=>X f * jj R P f j)=sQ (frees n P) (λf=>((Hd R P j f:Int):Rat) * X f) * (-((Hd R P j j:Int):Rat)⁻¹):=by
   rw[<-j6];refine bP _ λf hf=>?_;have l:f∉P:=by have:=(y6.mp hf).2;simpa using this
   unfold jj val;rw[g_ λ(z:j=f)=>l (z▸a),d_ a,Rat.divInt_eq_div,Rat.div_def];grind
  rw[e];unfold val;rw[d_ a,Rat.divInt_eq_div,Rat.div_def,s]
  have:=Rat.mul_inv_cancel _ y
  grind
 .have hf:j∈frees n P:=y6.mpr ⟨pa.mpr B,by simpa using a⟩;have v:∀c,val R P j c=0:=λc=>g_ a;rw[v,gM (p:=j) (DH.filter _) hf λq _ ne=>by unfold jj;rw[g_ λ(z:j=q)=>ne z.symm,v];grind];unfold jj;rw[d_ rfl];grind
def RI.fits(i:RI M (q_ n rs) n R P L)(f:¬Kn n R P L):tQ n rs λj=>val R P j n:=λr l=>by
 have:=xW i (j_ n) (λa u=>Classical.byContradiction λz=>f ⟨a,u,z⟩) l
 rwa [FT] at this
def RI.inc_iff(i:RI M (q_ n rs) n R P L):¬Kn n R P L↔∃X,tQ n rs X:=⟨λh=>⟨_,i.fits h⟩,λ⟨X,h⟩ ⟨a,f,z⟩=>z (i.flat0 h a f)⟩
def mm(n:Nat):Nat:=if n<=7 then 4740 else 2310
def VV(n:Nat):Nat:=2+(n+1) * (4+2 * mm n)
def uM:∀n,n<13->(n+1) * (VV n+mm n+10)<=880000/\10 * (VV n+mm n+10)<=860000:=by decide +kernel
def wZ(a b:List Rat):za (a++b)=za a+za b:=by simp[za]
def xI:∀{qs:List Rat},q∈qs->sz q<=za qs
 | p::qs,h=>by
  rw[nV];rcases ml.mp h with rfl|h
  .lia
  .have:=xI h;lia
structure Rl (n:Nat) (rs:List Rw):Prop where
 n6:n<=12
 l8:rs.length<=10
 row:∀r∈rs,jp n r
 sz:∀r∈rs,1+za (kr n r)<=mm n
def Rl.ok(h:Rl n rs):DY n (mm n) rs:=⟨h.row,h.sz⟩
def Rl.hv(h:Rl n rs):VV n+mm n+10<=86000:=by
 have:=(uM n (by have:=h.n6;lia)).2
 lia
def Rl.ps(h:Rl n i):∀r∈i,∀p∈r.1,Law.sz p.2<=mm n:=λr a p f=>by
 have:=xI (q:=p.2) (qs:=kr n r) (by
  unfold kr;rw[<-iq (h.row r a).nd f]
  exact Gj _ (mu.mpr ⟨p.1,pa.mpr ((h.row r a).lt p f),rfl⟩))
 have:=h.sz r a
 lia
def Rl.rt(h:Rl n f):∀r∈f,Law.sz r.2<=mm n:=λr a=>by
 have:=xI (q:=r.2) (qs:=kr n r) (by unfold kr;simp)
 have:=h.sz r a
 lia
def wY(h:jp n r):r.1.length<=n:=by
 have:=List.Nodup.length_le_of_subset h.nd (l₂:=List.range n) λp a=>by
  obtain⟨q,f,rfl⟩:=mu.mp a;exact pa.mpr (h.lt q f)
 simpa using this
def Rl.cw(h:Rl n rs)(i:∀q∈a,Law.sz q<=VV n):TW (rs.zip a)<=870000:=by
 have:=xl (c:=mm n+VV n+1) (rs:=rs) (us:=a) λr f q j=>cw_le (A:=mm n) (B:=VV n) (h.ps r f) (h.rt r f) (i q j)
 have hv:=h.hv;have l:rs.length * (mm n+VV n+1)<=10 * 86000:=Gm h.l8 (by lia);lia
structure Oc (xs:List Rat) (r:Rw):Prop where
 lt:∀p∈r.1,p.1<xs.length
 tot:tot (oy r.1 xs)<=880000
def Rl.fits(h:Rl n y)(z:xs.length=n)(u:∀q∈xs,Law.sz q<=VV n):∀r∈y,Oc xs r:=λr i=>by
 have o:=h.row r i;refine⟨λp f=>by rw[z];exact o.lt p f,?_⟩;have t:=uB (l:=oy r.1 xs) (c:=mm n+VV n+1) (m:=n) (by unfold oy;rw[oI];exact wY o) λp f=>by
  obtain⟨a,j,rfl⟩:=mu.mp f;have B:=h.ps r i a j;have C:=f9 u (show 1<=VV n by unfold VV;lia) a.1;show Law.sz a.2+Law.sz (xs.getD a.1 0)+1<=_;lia
 have v:=(uM n (by have:=h.n6;lia)).1
 have:n * (mm n+VV n+1)<=(n+1) * (VV n+mm n+10):=Gm (by lia) (by lia)
 lia
def Ay(i:RI (2 ^ (2 * m)) V n R P L)(l:n<=12):sz (val R P p c)<=2+(n+1) * (4+2 * m):=by
 unfold val;split
 .rename_i f
  have j:Hd R P p p≠0:=by
   rw[fU i.st f]
   have:=i.st.ne
   simpa [mr] using this
  have a:∀q,(Hd R P p q).natAbs<2 ^ (2+(n+1) * (4+2 * m)):=λq=>i.szH (by lia) (j_ _) (Hk (by decide)) (j_ _) p q;rw[pX j];refine iO (by lia) (by lia) ?_ (a p)
  have:=a c
  split
  .rwa [KR]
  .exact this
 .rw[DW];lia
def Rl.szX(h:Rl n rs)(i:RI (2 ^ (2 * mm n)) V n R P L):∀q∈bD n R P,Law.sz q<=VV n:=λq a=>by
 obtain⟨p,_,rfl⟩:=mu.mp a;exact Ay i h.n6
def Rl.szW(h:Rl n rs)(i:RI (2 ^ (2 * mm n)) V n R P L):∀q∈aY n R P f,Law.sz q<=VV n:=λq a=>by
 rcases SW a with a|rfl
 .obtain⟨p,_,rfl⟩:=mu.mp a
  have:=Ay i (p:=p) (c:=f) h.n6
  rw[J4];exact this
 .rw[Um];unfold VV;lia
def iz:(aY n R P f).length=n:=by simp[aY]
def Rl.mixes(h:Rl n rs)(i:RI (2 ^ (2 * mm n)) (q_ n rs) n R P L)(a:p∈P) :
  (fR n rs.length (Hd R P p) p).length=rs.length/\(∀q∈fR n rs.length (Hd R P p) p,Law.sz q<=VV n)/\∀j,j∈P->(x_ n rs (fR n rs.length (Hd R P p) p)).getD j 0=if j=p then 1 else 0:=by
 refine⟨by simp[fR],λq l=>?_,λj f=>?_⟩
 .have:=Ch (k:=VV n) (by unfold VV;lia) (λj=>i.szH (by have:=h.n6;lia) (j_ _) (Hk (by decide)) (j_ _) p j) (by
   rw[fU i.st a]
   have:=i.st.ne
   simpa [mr] using this) q l
  lia
 .rw[AT h.row (Dm (i.lt j f)) i.linH,fU i.st f,fU i.st a,show mr p p=1 by simp[mr],KU];have r:((Dt R P:Int):Rat)≠0:=λe=>i.st.ne (by exact_mod_cast e);by_cases e:j=p
  .subst e;rw[d_ rfl,show mr j j=1 by simp[mr],KU,Rat.div_def,Rat.mul_inv_cancel _ r]
  .rw[g_ e,show mr p j=0 by simp[mr];lia,QA,Rat.div_def];show ((0:Int):Rat) * _=0
   grind
def Kp(a:(PyData.str x).canLay0=true):fV k (.str x):=⟨_,rfl,by simp[dep],a,by simp[PyData.depth]⟩
def G6:fV k (.str "many"):=Kp (by decide +kernel)
def G7:AZ neg (.lst []) (.lst [])=some (.bl (!neg)):=by
 have:=uk (neg:=neg) (xs:=[]) (ys:=[])
 rw[decide_eq_true rfl] at this;cases neg <;> exact this
def yS(i:RI M V n R P L):(frees n P).length+P.length=n:=by
 have h:=List.length_eq_countP_add_countP (l:=List.range n) λj=>decide (j∈P);rw[List.length_range,SK,SK,show ((List.range n).filter λa=>decide ¬decide (a∈P)=true)=frees n P from List.filter_congr λj _=>by by_cases z:j∈P <;> simp[z]] at h;have p:((List.range n).filter λj=>decide (j∈P)).Perm P:=(La (DH.filter _) i.nd).mpr λj=>by
  rw[y6,pa];constructor
  .rintro⟨_,h⟩;simpa using h
  .intro h;exact⟨i.lt j h,by simpa using h⟩
 have:=p.length_eq
 lia
def Uq{a b c d:D}:nk [a,b,c,d] 0=some a:=rfl
def PX{a b c d:D}:nk [a,b,c,d] 1=some b:=rfl
def Od{a b c d:D}:nk [a,b,c,d] 2=some c:=rfl
def Ur{a b c d:D}:nk [a,b,c,d] 3=some d:=rfl
abbrev Oe(n:Nat)(R:List Vc)(P:List Nat)(f:Nat):D:=.tup [.int (f:Int),lD (aY n R P f)]
abbrev ic(n:Nat)(R:List Vc)(P:List Nat):D:=.lst ((frees n P).map (Oe n R P))
abbrev CT(n m:Nat)(R:List Vc)(P:List Nat):D:=.tup [.str "many",lD (bD n R P),ic n R P,nJ n m R P]
def gO(h:f∈frees n P):f<n/\f∉P:=by
 obtain⟨a,b⟩:=y6.mp h;exact⟨pa.mp a,by simpa using b⟩
def oO:((frees n P).map λ(f:Nat)=>(f:Int)).Pairwise (·<·):=by
 rw[Dv];exact ((P4 (n:=n)).filter _).imp λh=>by lia
def oo:(frees n P).length<=n:=by
 have:=Oy (λj=>!decide (j∈P)) (List.range n)
 simpa [frees] using this
def F3(h:Rl n rs)(i:RI (2 ^ (2 * mm n)) (q_ n rs) n R P L)(hf:f∈frees n P) :
  Sl.p [some (.int (n:Int)),some (k_ rs),some (CT n rs.length R P),some (y4 (frees n P)),some (.int (f:Int)),some (lD (aY n R P f)),x6] s=.nx [some (.int (n:Int)),some (k_ rs),some (CT n rs.length R P),some (y4 (frees n P)),some (.int (f:Int)),some (lD (aY n R P f)),some (.bl false)] s:=by
 obtain⟨fn,I⟩:=gO hf;have S:=h.l8;have X:=h.n6;have hv:=h.hv;have H:=h.szW i (f:=f);have E:=lY (qs:=aY n R P f) (s:=s) (by rw[iz];lia) λq B=>by have:=H q B;lia
 rw[iz] at E;have U:=oo (n:=n) (P:=P);have u:=xZ (neg:=true) (a:=0) (b:=0);rw[decide_eq_true rfl] at u;have J:=eD (ws:=[]) (ws':=[]) (env:=[some (.int (n:Int)),some (k_ rs),some (CT n rs.length R P),some (y4 (frees n P)),some (.int (f:Int)),some (lD (aY n R P f)),x6]) (s:=s) (s0:=s) (fm:=[5]) (i:=aV (ab 1)) (t:=xB (ac vr (aj bw (aa (ab 0) (aa (ab 2) a_))) (aU (aa (xC (.int 0)) (aa (xC (.int 1)) a_))))) (e:=ab 0) (l:=rs) (λr=>pD r.1) (λr=>qD r.2) (λr=>pD r.1) (λ_=>false)
  (by rfl) (by lia) λr G=>⟨by
   have o:=h.fits iz (λq B=>by have:=H q B;lia) r G;have c:=mM (ps:=r.1) (xs:=aY n R P f) (s:=s) o.lt (by have:=o.tot;lia);rw[Cl i h.row fn I G] at c;show (xB _:Xt []).p [some (pD r.1),some (qD r.2),some (lD (aY n R P f))] s=_;have c:bw.p [pD r.1,lD (aY n R P f)] s=.ok (.tup [.int 0,.int 1]) s:=c;have u:AZ true (.tup [.int 0,.int 1]) (.tup [.int 0,.int 1])=some (.bl false):=u
   simp![bO,au,aB,ag,bH,ah,c,aL,aD,pk,tx,show (0+1+1:Nat)<=100000 by decide,if_true,cg,u,Pf,PR.bl],λz=>nomatch z⟩
 have O:=bN (ws:=[]) (ws':=[]) (env:=[some (.int (n:Int)),some (k_ rs),some (CT n rs.length R P),some (y4 (frees n P)),some (.int (f:Int)),some (lD (aY n R P f)),x6]) (s:=s) (s0:=s) (fm:=[5]) (i:=aV (ab 3)) (t:=f_) (e:=ac h8 (ab 1) (ab 0)) (l:=frees n P) (λ(p:Nat)=>D.int (p:Int)) (λj=>qD (if j=f then 1 else 0)) (λ_=>true)
  (by simp![bI,bn,Pf]) (by lia) λj F=>⟨rfl,λ_=>by
   obtain⟨C,T⟩:=gO F;show (ac h8 _ _:Xe []).p [some (.int (j:Int)),some (lD (aY n R P f))] s=_;have e:(aY n R P f).getD j 0=if j=f then 1 else 0:=by
    rw[t9 C fn];by_cases z:j=f
    .rw[d_ z,d_ z]
    .rw[g_ z,g_ z];unfold val;rw[g_ T];rfl
   simp![au,bF,eU (show j<(aY n R P f).length by rw[iz];exact C),Pf,e]⟩
 have M:=bN (ws:=[]) (ws':=[]) (env:=[some (.int (n:Int)),some (k_ rs),some (CT n rs.length R P),some (y4 (frees n P)),some (.int (f:Int)),some (lD (aY n R P f)),x6]) (s:=s) (s0:=s) (fm:=[4]) (i:=aV (ab 3)) (t:=f_) (e:=aU (aa (n_ jz (aa (ac CV (ab 0) (ab 1)) a_)) (aa (xC (.int 1)) a_))) (l:=frees n P) (λ(p:Nat)=>D.int (p:Int)) (λj=>qD (if j=f then 1 else 0)) (λ_=>true)
  (by simp![bI,bn,Pf]) (by lia) λj F=>⟨rfl,λ_=>by
   show (aU _:Xe []).p [some (.int (j:Int)),some (.int (f:Int))] s=_;simp![bH,ag,bq,au,ah,eM,bE,su,if_false,Pf,j3,aL,aD,pk,tx,show (0+1+1:Nat)<=100000 by decide,if_true];by_cases e:j=f
   .subst e;simp
   .have:¬(j:Int)=(f:Int):=by lia
    simp[e,this]⟩
 have e2:=uP (neg:=true) (xs:=(frees n P).map λj=>if j=f then 1 else 0) (ys:=(frees n P).map λj=>if j=f then 1 else 0);rw[decide_eq_true rfl,lD,oF] at e2;have e2:AZ true (.lst ((frees n P).map λj=>qD (if j=f then 1 else 0))) (.lst ((frees n P).map λj=>qD (if j=f then 1 else 0)))=some (.bl false):=e2;have Q:(bD n R P).getD f 0=0:=by rw[pE fn];exact g_ I
 have y:=eU (xs:=bD n R P) (i:=f) (show f<(bD n R P).length by simp[bD];exact fn);rw[Q] at y;have y:nk ((bD n R P).map qD) (f:Int)=some (.tup [.int 0,.int 1]):=y;have u:AZ true (.tup [.int 0,.int 1]) (.tup [.int 0,.int 1])=some (.bl false):=u;show ((aA _ _:Xd []).p _ _)=_;rw[av,ca];simp![g8,fy,bO,aB,ag,ah,E,PR.bl,C_,su,if_false,jl,iT,Jl,DJ,Pf,show (["bool"].any (eT "int"))=false from rfl,Pg,ce,PU.ak];rw[av,ca,bO,au,J,show rs.filter (λ_=>false)=[] by simp];simp only[Hj,Pb,eE,ah,tx,Cz,if_true,cg,G7,C_,Pf,PR.bl,Pg,su,if_false,ce,PU.ak];rw[av,aN,au,O];simp only[Pb,aT];rw[M];dsimp![Pb,aT,cg,e2,Pf];rw[ca];simp![g8,rH,kK,Pf,su,if_false,bO,au,bH,ag,aL,aD,ah,bz,PX,bF,y,pk,tx,show (0+1+1:Nat)<=100000 by decide,if_true,cg,u,PR.bl,Pg,ce]
def tI(h:Rl n rs)(i:RI (2 ^ (2 * mm n)) (q_ n rs) n R P L)(hi:¬Kn n R P L)(hf:frees n P≠[]):cO.p [.int (n:Int),k_ rs,CT n rs.length R P] s=.ok (.bl true) s:=by
 have ai:=h.l8;have hn:=h.n6;have hv:=h.hv;have G:=h.szX i;have lx:(bD n R P).length=n:=by simp[bD]
 have U:=lY (qs:=bD n R P) (s:=s) (by lia) λq C=>by have:=G q C;lia
 rw[lx] at U;have fl:=oo (n:=n) (P:=P)
 have O:=rA (n:=n) (rs:=rs) (mf:=λp=>fR n rs.length (Hd R P p) p) (free:=frees n P) (Q:=P.reverse) (s:=s) (by lia) (by lia) h.row (by
   have X:P.reverse.Pairwise (·<·):=S6.mpr i.srt;have H:((List.range n).filter λj=>!decide (j∈frees n P)).Pairwise (·<·):=(P4 (n:=n)).filter _;refine List.Perm.eq_of_pairwise (λa b _ _ x y=>by lia) X H ((La (X.imp λh=>s_ h) (DH.filter _)).mpr λj=>?_);rw[Hh,y6,pa];constructor
   .intro F
    exact⟨i.lt j F,by
     rw[Qb,decide_eq_false_iff_not]
     exact λz=>(gO z).2 F⟩
   .rintro⟨h1,h2⟩;refine Classical.byContradiction λz=>?_
    have:j∈frees n P:=y6.mpr ⟨pa.mpr h1,by simpa using z⟩
    rw[Qb,decide_eq_false_iff_not] at h2
    exact h2 this) λp hp=>by
  obtain⟨a,b,c⟩:=h.mixes i (Hh.mp hp);exact⟨a,λq C=>by have:=b q C;lia,by have:=h.cw b;lia,λj F=>c j (Hh.mp F)⟩
 have O:cy.p [.int (n:Int),k_ rs,y4 (frees n P),nJ n rs.length R P] s=.ok (.bl true) s:=O;have S:=bN (ws:=[]) (ws':=[]) (env:=[some (.int (n:Int)),some (k_ rs),some (CT n rs.length R P),none,none,none,none]) (s:=s) (s0:=s) (fm:=[]) (i:=aV (ac h8 (ab 2) (xC (.int 2)))) (t:=qj (xB (BV (dr ["tuple"]) (ab 0))) (xB (ac CV (n_ cr (aa (ab 0) a_)) (xC (.int 2))))) (e:=ac h8 (ab 0) (xC (.int 0))) (l:=frees n P) (Oe n R P) (λ(p:Nat)=>D.int (p:Int)) (λ_=>true)
  (by simp![bI,au,aL,aD,bz,Od,Pf,bn]) (by lia) λf hf=>⟨by
   show (qj _ _:Xt []).p [some (Oe n R P f)] s=_;simp only[Jh,bO,jl,ae,Pb,iT,sX,DJ,Pf,PR.bl,show (["tuple"].any (eT "tuple"))=true from rfl,if_true,au,bq,ag,ah,o9,pk,tx,aL,aD,eM,bE,su,if_false]
   rfl,λ_=>rfl⟩
 rw[aT] at S;have Z:(frees n P).map (λ(p:Nat)=>D.int (p:Int))=((frees n P).map λ(p:Nat)=>(p:Int)).map D.int:=by rw[oF];rfl
 have B:=Nc (ns:=(frees n P).map λ(p:Nat)=>(p:Int)) ⟨by rw[oI];lia,λx G=>by
  obtain⟨f,hf,rfl⟩:=mu.mp G
  have:=(gO hf).1
  lia⟩
 rw[zY oO,yM oO] at B;rw[<-Z] at B;have u:=uk (neg:=true) (xs:=(frees n P).map λ(p:Nat)=>(p:Int)) (ys:=(frees n P).map λ(p:Nat)=>(p:Int));rw[decide_eq_true rfl,<-Z] at u;have u:AZ true (y4 (frees n P)) (y4 (frees n P))=some (.bl false):=u;have B:PL.p [y4 (frees n P)]=some (y4 (frees n P)):=B;have c2:=eD (ws:=[]) (ws':=[]) (env:=[some (.int (n:Int)),some (k_ rs),some (CT n rs.length R P),some (y4 (frees n P)),none,none,none]) (s:=s) (s0:=s) (fm:=[2]) (i:=aV (ab 1)) (t:=xB (ac vr (aj bw (aa (ab 0) (aa (ac h8 (ab 2) (xC (.int 1))) a_))) (ab 1))) (e:=ab 1) (l:=rs) (λr=>pD r.1) (λr=>qD r.2) (λr=>qD r.2) (λ_=>false)
  (by rfl) (by lia) λr hr=>⟨by
   have o:=h.fits lx (λq C=>by have:=G q C;lia) r hr;have c:=mM (ps:=r.1) (xs:=bD n R P) (s:=s) o.lt (by have:=o.tot;lia);rw[Ko i h.row hi hr] at c;have c:bw.p [pD r.1,lD (bD n R P)] s=.ok (qD r.2) s:=c;have T:=xZ (neg:=true) (a:=r.2) (b:=r.2);rw[decide_eq_true rfl] at T;show (xB _:Xt []).p [some (pD r.1),some (qD r.2),some (CT n rs.length R P)] s=_
   simp![bO,au,aB,ag,ah,aL,aD,bz,PX,Pf,c,cg,T,if_true,PR.bl,C_],λz=>nomatch z⟩
 obtain⟨Y,J,er,I,M,E,rfl,rfl⟩:=dA (g:=(w_ (n7 (ia 4) (n7 (ia 5) w9)) 2:Xg []).p) (b:=Sl.p) (λj env J=>∃I M E,J=s/\env=[some (.int (n:Int)),some (k_ rs),some (CT n rs.length R P),some (y4 (frees n P)),I,M,E]) ((frees n P).map (Oe n R P)) 0 [some (.int (n:Int)),some (k_ rs),some (CT n rs.length R P),some (y4 (frees n P)),none,none,none] s ⟨none,none,none,rfl,rfl⟩ λj env J d ⟨I,M,E,u,ee⟩ hd=>by
   subst u ee;rw[tt,Bv] at hd;obtain⟨f,hf,rfl⟩:=hd;exact⟨_,_,_,rfl,F3 (x6:=E) h i (Ee hf),some (.int (f:Int)),some (lD (aY n R P f)),some (.bl false),rfl,rfl⟩
 rw[oz (by rfl)];unfold dB;rw[show mh 7 [D.int (n:Int),k_ rs,CT n rs.length R P]=[some (.int (n:Int)),some (k_ rs),some (CT n rs.length R P),none,none,none,none] from rfl,av,ca];simp![g8,fy,bO,jl,iT,sX,DJ,Pf,PR.bl,show (["tuple"].any (eT "tuple"))=true from rfl,C_,su,if_false,au,bq,ag,ah,o9,pk,tx,aL,aD,cg,bE,if_true,show decide ((((0+1+1+1+1:Nat)):Int)=4)=true from rfl,aB,bz,PX,U,Pg,ce,PU.ak];rw[av,aN,S];dsimp![PU.ak];rw[av,ca];simp![g8,fy,bO,jl,au,bq,ag,aL,aD,bz,Od,Pf,iT,uE,DJ,PR.bl,show (["list"].any (eT "list"))=true from rfl,C_,su,if_false,ah,dJ,oI,cg,bE,if_true,decide_true,B,u,Pg,ce,PU.ak];rw[av,ca,bO,au,c2,show rs.filter (λ_=>false)=[] by simp];simp only[Hj,Pb,eE,ah,tx,Cz,if_true,cg,G7,C_,Pf,PR.bl,Pg,su,if_false,ce,PU.ak];rw[av,cF];simp![bI,au,aL,aD,bz,Od,Pf,bn,Pg];refine (congrArg (λz:PS=>(z.then _).fin) er).trans ?_;have f0:decide ((0:Int)<((frees n P).length:Int))=true:=decide_eq_true (by have:=List.length_pos_iff.mpr hf;lia);simp![PU.ak,bA,mj,au,bq,aB,ag,ah,dJ,oI,Pf,aL,aD,o3,f0,PR.bl,if_true,bz,Ur,O,Pg,PU.bi]
def pV:∀P:List Nat,sQ (P++[q]) f=sQ P f+f q
 | []=>by show f q+0=0+f q;grind
 | p::P=>by rw[Qd,bg,bg,pV P];grind
def G8(h:Rl n rs0)(i:RI (2 ^ (2 * mm n)) V n R P L)(hY:Y.length=n)(hs:∀q∈Y,sz q<=8)(hm:∀j,j<n->Y.getD j 0=val R P j n+sQ (frees n P) λf=>Y.getD f 0 * jj R P f j) :
  fk.p [.tup [.str "many",lD (bD n R P),ic n R P,m],lD Y] s=.ok (.bl true) s:=by
 have hn:=h.n6;have hv:=h.hv;have vv:=(uM n (by lia)).1;rw[Eh] at vv;have hx:=h.szX i;have lx:(bD n R P).length=n:=by simp[bD]
 rw[Cf (by rfl)];unfold jO;rw[show mh 5 [.tup [.str "many",lD (bD n R P),ic n R P,m],lD Y]=[some (.tup [.str "many",lD (bD n R P),ic n R P,m]),some (lD Y),none,none,none] from rfl];obtain⟨T,r,er,c,E,F,S,u,_,rfl,rfl⟩:=dA (g:=(w_ (n7 (ia 3) (n7 (ia 4) w9)) 2:Xg []).p) (b:=(aQ 2 (aO 2 [1,3] (be iZ (aa (ab 2) (aa (ab 4) a_))) (ws':=[]) (w_ (n7 (ia 0) (n7 (ia 1) w9)) 2) f_ (aj aZ (aa (ab 0) (aa (aj bv (aa (ac h8 (ab 2) (ab 3)) (aa (ab 1) a_))) a_)))):Xd []).p)
  (λk env r=>∃(c:List Rat) (E F:Option D),c.length=n/\(∀j,j<n->c.getD j 0=val R P j n+sQ ((frees n P).take k) λf=>Y.getD f 0 * jj R P f j)/\(∀q∈c,sz q<=VV n+k * (VV n+9))/\r=s/\env=[some (.tup [.str "many",lD (bD n R P),ic n R P,m]),some (lD Y),some (lD c),E,F]) ((frees n P).map (Oe n R P)) 0
  [some (.tup [.str "many",lD (bD n R P),ic n R P,m]),some (lD Y),some (lD (bD n R P)),none,none] s ⟨bD n R P,none,none,lx,λj y=>by rw[pE y];show _=_+(0:Rat);grind,λq H=>by have:=hx q H;lia,rfl,rfl⟩ λk env r d ⟨c,E,F,S,u,I,es,Z⟩ hd=>by
   subst es Z;rw[C0] at u I ⊢;rw[tt,Bv] at hd;obtain⟨f,hf,rfl⟩:=hd;obtain⟨hk,ef⟩:=tr.mp hf;have O:f∈frees n P:=Ee hf;have fn:=(gO O).1;have kl:=oo (n:=n) (P:=P);have U:=h.szW i (f:=f);have ai:sz (Y.getD f 0)<=8:=f9 hs (by decide) f;have q:=eD (ws:=[]) (ws':=[]) (env:=[some (.tup [.str "many",lD (bD n R P),ic n R P,m]),some (lD Y),some (lD c),some (.int (f:Int)),some (lD (aY n R P f))]) (s:=r) (s0:=r) (fm:=[1,3]) (i:=be iZ (aa (ab 2) (aa (ab 4) a_))) (t:=f_) (e:=aj aZ (aa (ab 0) (aa (aj bv (aa (ac h8 (ab 2) (ab 3)) (aa (ab 1) a_))) a_))) (l:=c.zip (aY n R P f)) (λp=>qD p.1) (λp=>qD p.2) (λp=>qD (p.1+Y.getD f 0 * p.2)) (λ_=>true)
    (by simp![bB,ag,ah,oW,Pf,im]) (by have:=mU (ys:=aY n R P f) (show c.length<=100 by lia);lia) λp G=>⟨rfl,λ_=>by
     obtain⟨Q,C⟩:=DI G;have a1:=I p.1 Q;have a2:=U p.2 C;have k6:(k+1) * (VV n+9)<=n * (VV n+mm n+10):=Gm (by lia) (by lia);rw[Eh] at k6;have t:=io (p:=Y.getD f 0) (q:=p.2) (s:=r) (by lia);have a3:=eA (Y.getD f 0) p.2;have pl:=j8 (p:=p.1) (q:=Y.getD f 0 * p.2) (s:=r) (by lia);show (aj aZ _:Xe []).p [some (qD p.1),some (qD p.2),some (lD Y),some (.int (f:Int))] r=_
     simp![aB,ag,au,ah,bF,eU (show f<Y.length by lia),Pf,t,pl]⟩
   rw[aT] at q;have el:((c.zip (aY n R P f)).map λp=>p.1+Y.getD f 0 * p.2).length=n:=by simp[S,aY]
   refine⟨_,[some (.tup [.str "many",lD (bD n R P),ic n R P,m]),some (lD Y),some (lD ((c.zip (aY n R P f)).map λp=>p.1+Y.getD f 0 * p.2)),some (.int (f:Int)),some (lD (aY n R P f))],r,rfl,?_,(c.zip (aY n R P f)).map λp=>p.1+Y.getD f 0 * p.2,_,_,el,λj y=>?_,λq H=>?_,rfl,rfl⟩
   .show (aQ 2 _:Xd []).p [some (.tup [.str "many",lD (bD n R P),ic n R P,m]),some (lD Y),some (lD c),some (.int (f:Int)),some (lD (aY n R P f))] r=_;rw[aN,q];simp only[Pg,si,r_];have em:((c.zip (aY n R P f)).map λp=>qD (p.1+Y.getD f 0 * p.2))=((c.zip (aY n R P f)).map λp=>p.1+Y.getD f 0 * p.2).map qD:=by rw[oF];rfl
    rw[em]
   .have J:j<c.length:=by lia
    have M:j<(aY n R P f).length:=by rw[iz];exact y
    have X:=t9 (R:=R) (P:=P) y fn;have B:=u j y;rw[o_,p_ J,Es] at B;rw[o_,p_ M,Es] at X;have et:(frees n P).take (k+1)=(frees n P).take k++[f]:=by rw[Qu,hf];rfl
    rw[o_,p_ (by lia),Es,Ln,Qj,B,X,et,pV];show _+_ * (if j=f then 1 else -(val R P j f))=_;unfold jj
    grind
   .obtain⟨p,G,rfl⟩:=mu.mp H;obtain⟨Q,C⟩:=DI G;have a1:=I p.1 Q;have a2:=U p.2 C;have a3:=eA (Y.getD f 0) p.2;have a4:=iX p.1 (Y.getD f 0 * p.2);rw[Eh];lia
 rw[C0,oI] at u;have B:c=Y:=by
  apply Lm
  .lia
  .intro j J M;have a:=u j (by lia);rw[OG,<-hm j (by lia),o_,p_ J,Es,o_,p_ M,Es] at a;exact a
 have e2:=uP (neg:=false) (xs:=Y) (ys:=Y);rw[decide_eq_true rfl] at e2;rw[av,aN];simp![bq,ag,au,aL,aD,bz,PX,Pf,ah,pM (show ((bD n R P).map qD).length<=100000 by simp;lia),Pg,si,r_,PU.ak];rw[av,cF];simp![bI,au,aL,aD,bz,Od,Pf,bn,Pg];refine (congrArg (λz:PS=>(z.then _).fin) er).trans ?_;rw[B];simp![PU.ak,bA,au,eM,e2,su,if_false,Pf,Pg,PU.bi]
abbrev ky(p:Pt):Int:=(p.1:Int)
def Kq(nd:(l.map (·.1)).Nodup)(ok:SortT.d8 (l.map ky))(i:l.length<64):lN.p [.tup (l.map rz)]=some (.lst ((aP ky l).map rz)):=by
 have f:(l.map rz).map CP=l.map ky:=by rw[oF];rfl
 have a:((l.map rz).map CP).Nodup:=by
  rw[f];rw[List.Nodup,Dv] at nd ⊢;exact nd.imp λh e=>h (by show _=_;exact Int.ofNat.inj e)
 simp only[lN,show (D.tup (l.map rz)).items=some (l.map rz) from rfl,Ll];rw[d_ ⟨λd hd=>by obtain⟨p,_,rfl⟩:=mu.mp hd;rfl,a,f▸ok,by simpa using i⟩,jb];rfl
def qV(h:ps.Perm qs)(nd:(qs.map (·.1)).Nodup):e_ ps j=e_ qs j:=by
 have a:(ps.map (·.1)).Nodup:=((h.map (·.1)).nodup_iff).mpr nd;by_cases z:j∈qs.map (·.1)
 .obtain⟨p,f,rfl⟩:=mu.mp z;rw[iq nd f,iq a (h.mem_iff.mpr f)]
 .rw[dE z,dE λy=>z ((h.map (·.1)).mem_iff.mp y)]
def gW(c a:Rat):Rat:=Rat.divInt (0 - c.num * (a.den:Int)) ((c.den:Int) * a.num)
def wN(l:a.num≠0):c+gW c a * a=0:=by
 have f:(c.den:Int)≠0:=by have:=c.den_nz;lia
 have hd:(a.den:Int)≠0:=by have:=a.den_nz;lia
 have r:(c.den:Int) * a.num≠0:=KQ f l;have e:gW c a * (((c.den:Int) * a.num:Int):Rat)=((0 - c.num * (a.den:Int):Int):Rat):=by
  unfold gW;have y:(((c.den:Int) * a.num:Int):Rat)≠0:=λz=>r (by exact_mod_cast z);rw[Rat.divInt_eq_div,Rat.div_def]
  have:=Rat.inv_mul_cancel _ y
  grind
 have e1:=pW c;have e2:=pW a;have i:(((c.den:Nat):Int):Rat)≠0:=λz=>f (by exact_mod_cast z);have j:(((a.den:Nat):Int):Rat)≠0:=λz=>hd (by exact_mod_cast z);rw[Rat.intCast_mul,Rat.intCast_sub,Rat.intCast_mul,e1,e2] at e;have u:((0:Int):Rat)=0:=rfl;rw[u] at e;have k:(c+gW c a * a) * ((((c.den:Nat):Int):Rat) * (((a.den:Nat):Int):Rat))=0:=by grind
 rcases Rat.mul_eq_zero.mp k with k|k
 .exact k
 .rcases Rat.mul_eq_zero.mp k with k|k
  .exact absurd k i
  .exact absurd k j
def wB(f:a.num≠0):sz (gW c a)<=sz c+sz a:=by
 have i:(c.den:Int) * a.num≠0:=KQ (by have:=c.den_nz;lia) f;refine jZ i (by have:=zc c;lia) ?_ ?_
 .rw[Qz,KR,DK];exact cM (cD c) (by simpa using bC a)
 .rw[DK];exact cM (by simpa using bC c) (cD a)
def Kr(f:a.num≠0)(h:(gW c a).num=0):c=0:=by
 have e:=wN (c:=c) f;rw[show gW c a=0 from Rat.num_eq_zero.mp h] at e
 grind
def cG(ps:List Pt)(f:List Rat)(a:Nat):List Pt:=ps.filter (λp=>!decide (p.1=a))++if (gW (se (oy (ps.filter λp=>!decide (p.1=a)) f)) (f.getD a 0)).num=0 then [] else [(a,gW (se (oy (ps.filter λp=>!decide (p.1=a)) f)) (f.getD a 0))]
section
variable {n A a:Nat} {ps:List Pt} {ap:List Rat}
def lZ(h:(ps.map (·.1)).Pairwise (·<·)):((ps.filter λp=>!decide (p.1=a)).map (·.1)).Pairwise (·<·):=by
 rw[Dv] at h ⊢;exact h.filter _
def eN(i:p∈ps.filter λp=>!decide (p.1=a)):p∈ps/\p.1≠a:=by
 obtain⟨f,j⟩:=y6.mp i;exact⟨f,by simpa using j⟩
def BE(l:(ps.map (·.1)).Pairwise (·<·))(u:∀p∈ps,p.1<n)(r:a<n):(ps.filter λp=>!decide (p.1=a)).length+1<=n:=by
 have:=List.Nodup.length_le_of_subset (l₁:=a::(ps.filter λp=>!decide (p.1=a)).map (·.1)) (l₂:=List.range n) (by
  refine CU.mpr ⟨λz=>?_,(lZ l).imp λh=>s_ h⟩;obtain⟨p,f,e⟩:=mu.mp z
  exact (eN f).2 e) λj i=>by
  rcases ml.mp i with rfl|i
  .exact pa.mpr r
  .obtain⟨p,f,rfl⟩:=mu.mp i;exact pa.mpr (u p (eN f).1)
 simpa using this
def sW(j:(ps.map (·.1)).Pairwise (·<·)):((cG ps ap a).map (·.1)).Nodup:=by
 have f:((ps.filter λp=>!decide (p.1=a)).map (·.1)).Nodup:=(lZ j).imp λh=>s_ h;unfold cG;split
 .rw[DC];exact f
 .rw[Eg];refine KO.mpr ⟨f,by simp,λx r y l=>?_⟩;obtain⟨p,i,rfl⟩:=mu.mp r
  have:y=a:=by simpa using l
  rw[this];exact (eN i).2
def Ks(j:(ps.map (·.1)).Pairwise (·<·))(l:ps.length<=12):SortT.d8 ((cG ps ap a).map ky)/\(cG ps ap a).length<64:=by
 have hL:(ps.filter λp=>!decide (p.1=a)).length<=ps.length:=Oy _ _;have f:((ps.filter λp=>!decide (p.1=a)).map ky).Pairwise (·<·):=by
  have:=lZ (a:=a) j
  rw[Dv] at this ⊢;exact this.imp λh=>by show _<_;exact OQ.mpr h
 unfold cG;split
 .rw[DC];exact⟨SortT.Fz f (by simp;lia),by lia⟩
 .rw[Eg,Dj];refine⟨SortT.JW f (λz=>?_) (by simp;lia),by simp;lia⟩;obtain⟨p,i,e⟩:=mu.mp z;exact (eN i).2 (Int.ofNat.inj e)
def Of(f:(ap.getD a 0).num≠0):se (oy (cG ps ap a) ap)=0:=by
 unfold cG;split
 .rename_i z
  rw[DC];exact Kr f z
 .have e:∀(l:List Pt) (p:Pt),oy (l++[p]) ap=oy l ap++[(p.2,ap.getD p.1 0)]:=λl p=>by simp[oy]
  rw[e];exact ui.trans (wN f)
def v5(j:(ps.map (·.1)).Pairwise (·<·))(z:∀p∈ps,p.1<n)(r:a<n)(u:∀p∈ps,sz p.2<=A)(i:∀q∈ap,sz q<=2):sz (se (oy (ps.filter λp=>!decide (p.1=a)) ap))<=1+(n - 1) * (A+3)/\tot (oy (ps.filter λp=>!decide (p.1=a)) ap)<=(n - 1) * (A+3):=by
 have t:=uB (l:=oy (ps.filter λp=>!decide (p.1=a)) ap) (c:=A+3) (m:=n - 1) (by
  have:=BE j z r
  unfold oy;rw[oI];lia) λp f=>by
  obtain⟨q,y,rfl⟩:=mu.mp f;have B:=u q (eN y).1;have C:=f9 i (by decide) q.1;show sz q.2+sz (ap.getD q.1 0)+1<=_;lia
 have:=zN (oy (ps.filter λp=>!decide (p.1=a)) ap)
 exact⟨by lia,t⟩
def Kt(F:1<=A)(u:(ps.map (·.1)).Pairwise (·<·))(E:∀p∈ps,p.1<n)(B:a<n)(l:(ap.getD a 0).num≠0)(y:∀p∈ps,sz p.2<=A)(r:∀q∈ap,sz q<=2):∀j,sz (e_ (cG ps ap a) j)<=if j=a then 3+(n - 1) * (A+3) else A:=λj=>by
 rcases oZ (ps:=cG ps ap a) (j:=j) with h|⟨p,i,h⟩
 .rw[h,DW];split <;> lia
 .have nd:=sW (ap:=ap) (a:=a) u;by_cases z:j∈(cG ps ap a).map (·.1)
  .obtain⟨p,i,rfl⟩:=mu.mp z;rw[iq nd i];have C:=v5 u E B y r;have f:=wB (c:=se (oy (ps.filter λp=>!decide (p.1=a)) ap)) l
   have:=f9 r (by decide) a
   unfold cG at i;rcases CZ.mp i with q|q
   .rw[g_ (eN q).2];exact y p (eN q).1
   .split at q
    .cases q
    .rw[C9.mp q,d_ rfl];show sz (gW _ _)<=_;lia
  .rw[dE z,DW];split <;> lia
end
def Og(h:x.length+y.length<=100000):xY.p (.tup x) (.tup y)=some (.tup (x++y)):=by
 cases x with
 | nil=>rfl
 | cons a x =>
  show (if x.length+1+y.length<=100000 then some (D.tup (a::x++y)) else none)=_;rw[d_ (by simpa using h)]
def Ku:mK.p (.tup [x]) (.int 1)=some (.tup [x]):=by
 simp[mK]
def Kv:mK.p (.tup [x]) (.int 0)=some (.tup []):=by
 simp[mK]
def AL{n A:Nat}{ps:List Pt}{f:List Rat}{s:hB}(hn:n<=12)(hA:A<=100)(G:(ps.map (·.1)).Pairwise (·<·))(J:∀p∈ps,p.1<n)(hs:∀p∈ps,sz p.2<=A)(u:∀q∈f,sz q<=2)(O:f.length=n)(P:∃j,j<n/\(f.getD j 0).num≠0) :
  ∃a,a<n/\(f.getD a 0).num≠0/\fQ.p [.int (n:Int),pD ps,lD f] s=.ok (pD (aP ky (cG ps f a))) s:=by
 have ai:ps.length<=n:=by
  have:=List.Nodup.length_le_of_subset (l₁:=ps.map (·.1)) (l₂:=List.range n) (by exact G.imp λh=>s_ h) λj C=>by
   obtain⟨p,u,rfl⟩:=mu.mp C;exact pa.mpr (J p u)
  simpa using this
 generalize M:(List.range n).filter (λj=>!decide ((f.getD j 0).num=0))=S;have S0:0<S.length:=by
  obtain⟨j,C,z⟩:=P
  have:j∈S:=by rw[<-M];exact y6.mpr ⟨pa.mpr C,by simpa using z⟩
  exact List.length_pos_of_mem this
 have hk:ps.length % S.length<S.length:=Nat.mod_lt _ S0;have hm:∀a∈S,a<n/\(f.getD a 0).num≠0:=λa Q=>by
  rw[<-M] at Q;obtain⟨h1,h2⟩:=y6.mp Q;exact⟨pa.mp h1,by simpa using h2⟩
 obtain⟨I,H⟩:=hm _ (CF hk);have Y:nk (S.map λ(j:Nat)=>D.int (j:Int)) (((ps.length % S.length:Nat)):Int)=some (.int ((S[ps.length % S.length]:Nat):Int)):=L2.cW (by rw[tt,p_ hk];rfl);refine⟨S[ps.length % S.length],I,H,?_⟩;generalize S[ps.length % S.length]=a at I H Y ⊢;have Z:=bN (ws:=[]) (ws':=[]) (env:=[some (.int (n:Int)),some (pD ps),some (lD f),none,none,none,none,none]) (s:=s) (s0:=s) (fm:=[2]) (i:=be wh (aa (ab 0) a_)) (t:=xB (ac vr (ac h8 (ac h8 (ab 1) (ab 0)) (xC (.int 0))) (xC (.int 0)))) (e:=ab 0) (l:=List.range n) (λ(j:Nat)=>D.int (j:Int)) (λ(j:Nat)=>D.int (j:Int)) (λj=>!decide ((f.getD j 0).num=0))
  (by
   simp only[bB,ag,ae,Pb,ah]
   rw[cI (by lia),v_,dC];rfl) (by simp;lia) λj C=>⟨by
   have L:j<f.length:=by rw[pa] at C;lia
   show (xB _:Xt []).p [some (.int (j:Int)),some (lD f)] s=_
   simp![bO,au,bF,eU L,Pf,aL,aD,bz,z0,cg,bE,if_true,PR.bl],λ_=>rfl⟩
 rw[M] at Z;have c2:=bN (ws:=[]) (ws':=[]) (env:=[some (.int (n:Int)),some (pD ps),some (lD f),some (.lst (S.map λ(j:Nat)=>D.int (j:Int))),some (.int (a:Int)),none,none,none]) (s:=s) (s0:=s) (fm:=[4]) (i:=aV (ab 1)) (t:=xB (ac vr (ac h8 (ab 0) (xC (.int 0))) (ab 1))) (e:=ab 0) (l:=ps) rz rz (λp=>!decide (p.1=a))
  (by rfl) (by lia) λp u=>⟨by
   show (xB _:Xt []).p [some (rz p),some (.int (a:Int))] s=_;simp![bO,au,aL,aD,bz,z0,Pf,cg,bE,if_true,PR.bl];congr 2;by_cases e:p.1=a
   .simp[e]
   .have:¬(p.1:Int)=(a:Int):=by lia
    simp[e,this],λ_=>rfl⟩
 have B:=v5 G J I hs u;have fd:=sW (ap:=f) (a:=a) G;have U:=Ks (ap:=f) (a:=a) G (by lia);have hL:(ps.filter λp=>!decide (p.1=a)).length<=ps.length:=Oy _ _;have hq:∀p∈ps.filter (λp=>!decide (p.1=a)),p.1<f.length:=λp u=>by rw[O];exact J p (eN u).1
 have so:=Kq fd U.1 U.2;unfold cG at so ⊢;generalize ps.filter (λp=>!decide (p.1=a))=R at c2 B so hL hq ⊢;have al:(n - 1) * (A+3)<=11 * 103:=Gm (by lia) (by lia);have F:=mM (ps:=R) (xs:=f) (s:=s) hq (by lia);have F:bw.p [pD R,lD f] s=.ok (qD (se (oy R f))) s:=F;generalize se (oy R f)=c at F B so ⊢;have sa:=f9 u (by decide) a;have ea:=eU (xs:=f) (i:=a) (by lia);have n1:=cD c;have n2:=bC c;have X:=cD (f.getD a 0);have n4:=bC (f.getD a 0);have f0:=wB (c:=c) H;have T:=cQ (a:=c.num) (b:=((f.getD a 0).den:Int)) (k:=sz (f.getD a 0)) n1 (by rw[Hg];exact n4);have m2:=cQ (a:=(c.den:Int)) (j:=sz c) (b:=(f.getD a 0).num) (by rw[Hg];exact n2) X
 have lo:=kW (t:=0 - c.num * ((f.getD a 0).den:Int)) (b:=(c.den:Int) * (f.getD a 0).num) (k:=sz c+sz (f.getD a 0)) (s:=s) (KQ (by have:=c.den_nz;lia) H) (by
  rw[DK];exact cM (by simpa using n2) X) (by lia)
 have lo:aK.p [.int (0 - c.num * ((f.getD a 0).den:Int)),.int ((c.den:Int) * (f.getD a 0).num)] s=.ok (qD (gW c (f.getD a 0))) s:=lo;generalize gW c (f.getD a 0)=E at lo so ⊢;generalize f.getD a 0=q at ea T m2 lo;rw[vf (by rfl)];unfold fW;rw[show mh 8 [D.int (n:Int),pD ps,lD f]=[some (.int (n:Int)),some (pD ps),some (lD f),none,none,none,none,none] from rfl,av,aN,Z];dsimp![PU.ak];have fm:Int.fmod (ps.length:Int) (S.length:Int)=((ps.length % S.length:Nat):Int):=by rw[Lb _ (by lia)];rfl
 rw[av,aN];simp![au,bq,ag,ah,o9,dJ,oI,Pf,vL (show ((S.length:Nat):Int)≠0 by lia),fm,bF,Y,Pg,si,r_,PU.ak];rw[av,aN,bq,ag,c2];dsimp![Pb,ah,gh,Pf];rw[av,aN];simp![aB,ag,ah,F,Pg,si,r_,PU.ak];rw[av,aN];simp![aB,ag,au,ah,aL,aD,bz,bF,ea,z0,z1,Pf,T,m2,dR,lo,Pg,si,r_,PU.ak];rw[bA];by_cases z:E.num=0
 .rw[d_ z] at so ⊢;have r:=Og (x:=R.map rz) (y:=[]) (by simp;lia);rw[DC] at r so ⊢;simp![bq,ag,au,bH,ah,aL,aD,bz,z0,Pf,cg,bE,if_true,decide_eq_true z,C_,j3,pk,tx,show (0+1+1:Nat)<=100000 by decide,show (0+1:Nat)<=100000 by decide,su,if_false,Kv,r,so,gh,Pg,PU.bi]
 .rw[g_ z] at so ⊢;have r:=Og (x:=R.map rz) (y:=[rz (a,E)]) (by simp;lia);rw[Eg] at so;have so:lN.p [.tup (R.map rz++[rz (a,E)])]=some (.lst ((aP ky (R++[(a,E)])).map rz)):=so;simp![bq,ag,au,bH,ah,aL,aD,bz,z0,Pf,cg,bE,if_true,decide_eq_false z,OK,j3,pk,tx,show (0+1+1:Nat)<=100000 by decide,show (0+1:Nat)<=100000 by decide,Ku,r,so,gh,Pg,PU.bi]
def uO{z:Int}{k:Nat}(a:0<k)(h:z.natAbs<2 ^ k):sz (z:Rat)<=k:=yC a h (by show 1<2 ^ k;exact Nat.one_lt_two_pow (by lia))
def F4{a:List Rat}{i:Nat}{q p:Rat}(h:p∈a.set i q):p∈a\/p=q:=SW h
def F5{n:Nat}{s:hB}(h1:1<=n)(hn:n<=12):∃(u:List Rat) (Q:hB),fj.p [.pen,.int (n:Int)] s=.ok (lD u) Q/\u.length=n/\(∀q∈u,sz q<=2)/\∃j,j<n/\(u.getD j 0).num≠0:=by
 obtain⟨r1,r,q1,J,E⟩:=lA (ws:=[2]) (ws':=[]) (env:=[some .pen,some (.int (n:Int)),none,none]) (s:=s) (s0:=s) (fm:=[0]) (i:=be wh (aa (ab 1) a_))
  (e:=aU (aa (ac dS (aj aM (aa (ab 1) (aa (xC (.int 7)) a_))) (xC (.int 3))) (aa (ac bS (xC (.int 1)) (aj aM (aa (ab 1) (aa (xC (.int 2)) a_)))) a_))) (ds:=d6 0 n) (λy=>∃p:Int × Int,y=.tup [.int p.1,.int p.2]/\p.1.natAbs<=3/\1<=p.2/\p.2<=2) (by
   simp![bB,ag,ah]
   rw[cI (by lia),v_];rfl) (by rw[dh];lia) (λx hx s=>by
   obtain⟨d,U,S,M,P⟩:=bV (s:=s) (size:=7) (by decide) (by decide);obtain⟨e,Y,e0,e1,X⟩:=bV (s:=U) (size:=2) (by decide) (by decide);refine⟨.tup [.int (d - 3),.int (1+e)],Y,?_,(d - 3,1+e),rfl,by show (d - 3).natAbs<=3;lia,by show 1<=1+e;lia,by show 1+e<=2;lia⟩;show (aU _:Xe []).p [some x,some .pen] s=_
   simp![bH,ag,au,aB,ah,aL,aD,P,X,dR,cN,Pf,pk,tx,show (0+1+1:Nat)<=100000 by decide,if_true])
 obtain⟨f,rfl,L⟩:=sT E;rw[oI,dh] at J;have z:=eD (ws:=[2]) (ws':=[]) (env:=[some .pen,some (.int (n:Int)),some (.lst (f.map λp=>.tup [.int p.1,.int p.2])),none]) (s:=r) (s0:=r) (fm:=[]) (i:=aV (ab 2)) (t:=f_) (e:=aj aK (aa (ab 0) (aa (ab 1) a_))) (l:=f) (λp=>D.int p.1) (λp=>D.int p.2) (λp=>qD (Rat.divInt p.1 p.2)) (λ_=>true)
  (by rfl) (by lia) λp F=>⟨rfl,λ_=>by
   obtain⟨a1,Z,T⟩:=L p F;have lo:=kW (t:=p.1) (b:=p.2) (k:=2) (s:=r) (by lia) (by lia) (by decide);show (aj aK _:Xe []).p [some (.int p.1),some (.int p.2)] r=_
   simp![aB,ag,ah,lo]⟩
 rw[aT] at z;obtain⟨k,s2,O,k1,q2⟩:=bV (s:=r) (size:=(n:Int)) (by lia) (by lia);obtain⟨k,rfl⟩:=j4 O;obtain⟨d,B,S,M,R⟩:=bV (s:=s2) (size:=3) (by decide) (by decide);have H:(D.tup [.int (1+d),.int 1])=qD (((1+d:Int)):Rat):=rfl;have I:∀q∈f.map (λp=>Rat.divInt p.1 p.2),sz q<=2:=λq G=>by
  obtain⟨p,F,rfl⟩:=mu.mp G;obtain⟨a1,Z,T⟩:=L p F;exact jZ (by lia) (by decide) (by lia) (by lia)
 have el:(f.map λp=>qD (Rat.divInt p.1 p.2))=(f.map λp=>Rat.divInt p.1 p.2).map qD:=by rw[oF];rfl
 have a:(f.map λp=>Rat.divInt p.1 p.2).length=n:=by simpa using J
 rw[el] at z;generalize (f.map λp=>Rat.divInt p.1 p.2)=C at z I a;refine⟨C.set k ((1+d:Int):Rat),B,?_,by simpa using a,λq G=>?_,k,by lia,?_⟩
 .rw[w5 (by rfl)];unfold gK;rw[show mh 4 [D.pen,.int (n:Int)]=[some .pen,some (.int (n:Int)),none,none] from rfl,av,dQ,q1];dsimp![fD,if_true];rw[av,dQ,z];dsimp![fD,if_true];rw[av,aN];simp![aB,ag,ah,q2,Pg,si,r_,PU.ak]
  rw[av,lU,iw (v:=qD (((1+d:Int)):Rat)) (s1:=B) (j:=(k:Int)) (s2:=B) (ds:=C.map qD) (n:=k) (by
   simp![bH,ag,au,aB,ah,aL,aD,R,cN,Pf,pk,tx,show (0+1+1:Nat)<=100000 by decide,if_true,H]) (by simp only[ae,af]) rfl (fZ (by rw[oI];lia)),xh]
  rw[PU.ak,l0 (d:=lD (C.set k ((1+d:Int):Rat))) rfl,PU.bi]
 .rcases F4 G with h|rfl
  .exact I q h
  .exact uO (by decide) (by show (1+d).natAbs<4;lia)
 .rw[o_,Cw (by lia),Es];show (1+d)≠0;lia
def Sy(f:0<=d)(a:d<3):∃k:Nat,0<k/\k<=100/\nk [D.int 2,.int 3,.int 9] d=some (.int (k:Int)):=by
 have:d=0\/d=1\/d=2:=by lia
 rcases this with rfl|rfl|rfl
 .exact⟨2,by decide,by decide,rfl⟩
 .exact⟨3,by decide,by decide,rfl⟩
 .exact⟨9,by decide,by decide,rfl⟩
def Aa(n:Nat):Nat:=if n<=7 then 20 else 3
structure Fr (n:Nat) (ap:List Rat) (r:Rw):Prop where
 ok:jp n r
 rt:r.2=0
 ki:se (oy r.1 ap)=0
 bd:∃a,a<n/\∀j,sz (e_ r.1 j)<=if j=a then 3+(n - 1) * (Aa n+3) else Aa n
def dG(nd:(ps.map (·.1)).Nodup)(lt:∀p∈ps,p.1<n):se (oy ps xs)=sQ (List.range n) λj=>e_ ps j * xs.getD j 0:=by
 have:=oA (n:=n) (xs:=xs) ps 0 nd lt
 rw[Rat.zero_add] at this;exact this
def F6(z:(ps.map (·.1)).Pairwise (·<·))(y:∀p∈ps,p.1<n)(C:∀p∈ps,sz p.2<=Aa n)(i:∀q∈f,sz q<=2)(u:a<n)(B:(f.getD a 0).num≠0):Fr n f (aP ky (cG ps f a),0):=by
 have r:=c9 ky (cG ps f a);have nd:=sW (ap:=f) (a:=a) z;have l:((aP ky (cG ps f a)).map (·.1)).Nodup:=((r.map (·.1)).nodup_iff).mpr nd;have lt:∀p∈cG ps f a,p.1<n:=λp i=>by
  unfold cG at i;rcases CZ.mp i with q|q
  .exact y p (eN q).1
  .split at q
   .cases q
   .rw[C9.mp q];exact u
 have lt':∀p∈aP ky (cG ps f a),p.1<n:=λp i=>lt p (r.mem_iff.mp i);refine⟨⟨l,lt'⟩,rfl,?_,a,u,λj=>?_⟩
 .show se (oy (aP ky (cG ps f a)) f)=0;rw[dG l lt',bP _ λj _=>by rw[qV r nd],<-dG nd lt];exact Of B
 .show sz (e_ (aP ky (cG ps f a)) j)<=_;rw[qV r nd];exact Kt (by unfold Aa;split <;> decide) z y u B C i j
def Oh{n:Nat}{env:aG}:∀(ps:List Pt) (v:aG) (s:hB),(∃z1 l,v=[z1,l,some .pen])->∃(a:List Pt) (z:hB),cv (w_ (n7 (ia 0) (n7 (ia 1) w9)) 2:Xg []).p (f_:Xt []).p (aU (aa (ab 0) (aa (aU (aa (ac bS (xC (.int 1)) (aj aM (aa (ab 2) (aa (xC (.int 4)) a_)))) (aa (xC (.int 1)) a_))) a_)):Xe []).p (ps.map rz) v s=.ok (a.map rz) z/\a.map (·.1)=ps.map (·.1)/\∀p∈a,sz p.2<=3
 | [],v,s,_=>⟨[],s,rfl,rfl,by simp⟩
 | p::ps,v,s,⟨z1,l,hv⟩=>by
  subst hv;obtain⟨d,j,F,E,q1⟩:=bV (s:=s) (size:=4) (by decide) (by decide);obtain⟨a,i,e2,B,C⟩:=Oh (n:=n) (env:=env) ps [some (.int (p.1:Int)),some (qD p.2),some .pen] j ⟨_,_,rfl⟩;refine⟨(p.1,((1+d:Int):Rat))::a,i,?_,by simp[B],λq f=>?_⟩
  .rw[m3,cv];have t:(aU (aa (ab 0) (aa (aU (aa (ac bS (xC (.int 1)) (aj aM (aa (ab 2) (aa (xC (.int 4)) a_)))) (aa (xC (.int 1)) a_))) a_)):Xe []).p [some (.int (p.1:Int)),some (qD p.2),some .pen] s=.ok (rz (p.1,((1+d:Int):Rat))) j:=by
    simp![bH,ag,au,aB,ah,aL,aD,q1,cN,Pf,pk,tx,show (0+1+1:Nat)<=100000 by decide,if_true];rfl
   show ((aU (aa (ab 0) (aa (aU (aa (ac bS (xC (.int 1)) (aj aM (aa (ab 2) (aa (xC (.int 4)) a_)))) (aa (xC (.int 1)) a_))) a_)):Xe []).p [some (.int (p.1:Int)),some (qD p.2),some .pen] s).bind (λy i=>(cv (w_ (n7 (ia 0) (n7 (ia 1) w9)) 2:Xg []).p (f_:Xt []).p _ (ps.map rz) [some (.int (p.1:Int)),some (qD p.2),some .pen] i).bind λr u=>.ok (y::r) u)=_;rw[t,Pb,e2];rfl
  .rcases ml.mp f with rfl|f
   .exact uO (by decide) (by show (1+d).natAbs<8;lia)
   .exact C q f
def F7{n:Nat}{xs f:List Rat}{rs:List Rw}{x5 x6 x7:Option D}{s:hB}(T:n<=12)(l:∀q∈f,sz q<=2)(E:f.length=n)(G:∃j,j<n/\(f.getD j 0).num≠0)(hl:rs.length<=900):∃(r:Rw) (I:Option D) (S:hB),Fr n f r /\
  Sm.p [some .pen,some (.int (n:Int)),some (lD xs),some (lD f),some (k_ rs),x5,x6,x7] s=.nx [some .pen,some (.int (n:Int)),some (lD xs),some (lD f),some (k_ (rs++[r])),x5,I,x7] S:=by
 obtain⟨d,L,X,M,q1⟩:=bV (s:=s) (size:=3) (by decide) (by decide);obtain⟨k,O,P,R⟩:=Sy X M;obtain⟨ps,C,H,ok⟩:=FI (s:=L) (n:=n) (k:=k) (by lia) O P;have H:fv.p [.pen,.int (n:Int),.int (k:Int)] L=.ok (pD ps) C:=H;have F:∃(i:List Pt) (u:hB),(va (xB (ac Jb (ab 1) (xC (.int 7)))) (aQ 6 (n_ fF (aa (aO 2 [0] (aV (ab 6)) (ws':=[]) (w_ (n7 (ia 0) (n7 (ia 1) w9)) 2) f_ (aU (aa (ab 0) (aa (aU (aa (ac bS (xC (.int 1)) (aj aM (aa (ab 2) (aa (xC (.int 4)) a_)))) (aa (xC (.int 1)) a_))) a_)))) a_))) i_:Xd [4]).p [some .pen,some (.int (n:Int)),some (lD xs),some (lD f),some (k_ rs),x5,some (pD ps),x7] C=.nx [some .pen,some (.int (n:Int)),some (lD xs),some (lD f),some (k_ rs),x5,some (pD i),x7] u /\
   (i.map (·.1)).Pairwise (·<·)/\(∀p∈i,p.1<n)/\∀p∈i,sz p.2<=Aa n:=by
  by_cases z:n<=7
  .refine⟨ps,C,?_,ok.rise,ok.lt,λp l=>by unfold Aa;rw[d_ z];exact ok.sz p l⟩
   have:decide ((7:Int)<(n:Int))=false:=decide_eq_false (by lia)
   simp![ca,bO,au,aL,aD,o3,Pf,PR.bl,this,Pg,su,if_false,ce]
  .obtain⟨i,u,e3,y,B⟩:=Oh (n:=n) (env:=[]) ps [none,none,some .pen] C ⟨_,_,rfl⟩;refine⟨i,u,?_,by rw[y];exact ok.rise,λp l=>?_,λp l=>by unfold Aa;rw[g_ z];exact B p l⟩
   .have:decide ((7:Int)<(n:Int))=true:=decide_eq_true (by lia)
    rw[ca];simp![bO,au,aL,aD,o3,Pf,PR.bl,this,Pg,if_true];rw[aN,bq,ag,j5];simp![bI,qY,Pf];rw[d_ (by have:=ok.len;simp;lia),show xg 2 [0] [some D.pen,some (.int (n:Int)),some (lD xs),some (lD f),some (k_ rs),x5,some (pD ps),x7]=[none,none,some .pen] from rfl,e3];simp only[Pb,ah,gh,Pf,Pg,si,r_]
   .have:p.1∈ps.map (·.1):=by rw[<-y];exact mu.mpr ⟨p,l,rfl⟩
    obtain⟨q,Y,e⟩:=mu.mp this;rw[<-e];exact ok.lt q Y
 obtain⟨i,u,U,y,B,J⟩:=F;obtain⟨a,Q,a0,Z⟩:=AL (s:=u) (A:=Aa n) T (by unfold Aa;split <;> decide) y B J l E G;refine⟨(aP ky (cG i f a),0),some (pD i),u,F6 y B J l Q a0,?_⟩;show ((aA _ _:Xd [4]).p _ _)=_;rw[av,aN];simp![aB,ag,au,eE,aL,aD,ah,pk,tx,show (0+1+1+1:Nat)<=100000 by decide,if_true,q1,bF,R,Pf,H,Pg,si,r_,PU.ak];rw[av,U,PU.ak]
 rw[mV (s1:=u) (as:=[CW (aP ky (cG i f a),0)]) (ds:=rs.map CW) (ds':=(rs++[(aP ky (cG i f a),0)]).map CW) (r:=.non) (by
  simp![ag,bH,aB,aL,aD,ah,Z,pk,tx,show (0+1+1:Nat)<=100000 by decide,if_true]
  rfl) rfl (by rw[qW (by simp;lia)];simp)]
 rfl
def bX:Nat->(Nat->Nat)->Nat
 | 0,_=>0
 | n+1,f=>bX n f+f n
def vY:∀n,(∀j,f j<=g j)->bX n f<=bX n g
 | 0,_=>j_ _
 | n+1,h=>Nat.add_le_add (vY n h) (h n)
def wp:∀n,(∀j,j<n->f j<=g j)->bX n f<=bX n g
 | 0,_=>j_ _
 | n+1,h=>Nat.add_le_add (wp n λj a=>h j (by lia)) (h n (by lia))
def iJ:∀n,bX n (λj=>f j+g j)=bX n f+bX n g
 | 0=>rfl
 | n+1=>by simp only[bX];rw[iJ n];lia
def jM:∀n,bX n (λ_=>c)=n * c
 | 0=>by simp[bX]
 | n+1=>by simp only[bX];rw[jM n,Eh]
def wz:∀n,za ((List.range n).map f)=bX n λj=>sz (f j)
 | 0=>rfl
 | n+1=>by
  rw[List.range_succ,Eg,wZ,wz n];simp[bX,za]
def vy(h:∀j,f j<=if j=a then B else A):∀n,(a<n->bX n f+A<=n * A+B)/\(n<=a->bX n f<=n * A)
 | 0=>⟨λz=>by lia,λ_=>Cz _⟩
 | n+1=>by
  obtain⟨r,l⟩:=vy h n;have i:=h n;simp only[bX];rw[Eh];constructor
  .intro z;by_cases e:n=a
   .rw[d_ e] at i
    have:=l (by lia)
    lia
   .rw[g_ e] at i
    have:=r (by lia)
    lia
  .intro z;rw[g_ (by lia)] at i
   have:=l (by lia)
   lia
def Sn(n:Nat):Nat:=(n - 1) * Aa n+(3+(n - 1) * (Aa n+3))
def Tn(n:Nat):Nat:=n+8 * (Sn n+3 * n)
def Fr.sum(h:Fr n ap r):bX n (λj=>sz (e_ r.1 j))<=Sn n:=by
 obtain⟨a,i,l⟩:=h.bd
 have:=(vy (f:=λj=>sz (e_ r.1 j)) l n).1 i
 obtain⟨m,rfl⟩:∃m,n=m+1:=⟨n - 1,by lia⟩;rw[Eh] at this;unfold Sn;rw[Nat.add_sub_cancel] at this ⊢;lia
def AH:∀(bs:List Rw) (a:List Rat),(∀r∈bs,bX n (λj=>sz (e_ r.1 j))<=S)->(∀q∈a,sz q<=2)->bX n (λj=>tot (mx bs a j))<=bs.length * (S+3 * n)
 | [],a,_,_=>by
  have:(λj=>tot (mx [] a j))=λ_=>0:=by funext j;simp[mx,tot]
  rw[this,jM];lia
 | b::bs,[],_,_=>by
  have:(λj=>tot (mx (b::bs) [] j))=λ_=>0:=by funext j;simp[mx,tot]
  rw[this,jM];lia
 | b::bs,u::a,h,f=>by
  have z:=AH bs a (λr i=>h r (m1 _ i)) λq y=>f q (m1 _ y);have e:(λj=>tot (mx (b::bs) (u::a) j))=λj=>(sz (e_ b.1 j)+(sz u+1))+tot (mx bs a j):=by
   funext j;simp[mx,tot,wt];lia
  have B:=h b (by simp);have l:=f u (by simp);rw[e,iJ,iJ,jM,pk,Eh]
  have:n * (sz u+1)<=n * 3:=Nat.mul_le_mul_left _ (by lia)
  lia
abbrev Wh(u:Nat)(q:Rat):Prop:=∃z:Int,q=(z:Rat)/\z.natAbs<=u
def G9(h:Wh u q)(a:u<=2):sz q<=2:=by
 obtain⟨z,rfl,f⟩:=h;exact uO (by decide) (by lia)
def Mxd(n:Nat)(bs:List Rw)(u:Nat)(r:Rw):Prop:=∃a:List Rat,a.length=bs.length/\(∀q∈a,Wh u q)/\∀j,j<n->e_ r.1 j=se (mx bs a j)
def Mxd.sum(h:Mxd n bs u r)(z:u<=2)(C:∀b∈bs,Fr n ap b)(G:bs.length<=8):bX n (λj=>sz (e_ r.1 j))<=Tn n:=by
 obtain⟨i,_,l,B⟩:=h;have a:=wp (f:=λj=>sz (e_ r.1 j)) (g:=λj=>1+tot (mx bs i j)) n λj F=>by
  show sz (e_ r.1 j)<=_;rw[B j F];exact zN _
 rw[iJ,jM] at a;have b:=AH (n:=n) (S:=Sn n) bs i (λr y=>(C r y).sum) λq E=>G9 (l q E) z;have c:bs.length * (Sn n+3 * n)<=8 * (Sn n+3 * n):=Hf _ G;unfold Tn;lia
def zI:∀(bs:List Rw) (i f:List Rat) (a b:Rat),i.length=bs.length->f.length=bs.length->bT a (mx bs i j)+bT b (mx bs f j) * v=bT (a+b * v) (mx bs (List.zipWith (λx y=>x+y * v) i f) j)
 | [],[],[],a,b,_,_=>rfl
 | r::bs,x::i,y::f,a,b,l,u=>by
  have:=zI (j:=j) (v:=v) bs i f (a+e_ r.1 j * x) (b+e_ r.1 j * y) (by simpa using l) (by simpa using u)
  show bT (a+e_ r.1 j * x) (mx bs i j)+bT (b+e_ r.1 j * y) (mx bs f j) * v=bT (a+b * v+e_ r.1 j * (x+y * v)) (mx bs (List.zipWith (λx y=>x+y * v) i f) j);rw[this];congr 1
  grind
def Wh.comb(j:Wh 1 x)(f:Wh 1 y)(hv:Wh 1 v):Wh 2 (x+y * v):=by
 obtain⟨a,rfl,r⟩:=j;obtain⟨b,rfl,i⟩:=f;obtain⟨c,rfl,l⟩:=hv;refine⟨a+b * c,by rw[Rat.intCast_add,Rat.intCast_mul],?_⟩
 have:(b * c).natAbs<=1 * 1:=by rw[DK];exact Gm i l
 lia
def Mxd.two(h:Mxd n bs 1 r1)(F:a.length=bs.length+1)(z:∀q∈a,Wh 1 q)(E:∀j,j<n->e_ r2.1 j=se (mx (bs++[r1]) a j)):Mxd n bs 2 r2:=by
 obtain⟨u,G,C,B⟩:=h;have f:a≠[]:=by rintro rfl;simp at F
 have H:a=a.dropLast++[a.getLast f]:=(List.dropLast_concat_getLast f).symm;have hd:a.dropLast.length=bs.length:=by rw[List.length_dropLast];lia
 refine⟨List.zipWith (λx y=>x+y * a.getLast f) a.dropLast u,by rw[List.length_zipWith];lia,λq l=>?_,λj r=>?_⟩
 .rw[P8] at l;obtain⟨i,I,rfl⟩:=l;rw[List.getElem_zipWith];exact Wh.comb (z _ ((List.dropLast_sublist _).subset (CF _))) (C _ (CF _)) (z _ (List.getLast_mem f))
 .rw[E j r];have em:mx (bs++[r1]) a j=mx bs a.dropLast j++[(e_ r1.1 j,a.getLast f)]:=by
   conv=>lhs;rw[H]
   unfold mx;rw[List.zip_append hd.symm];simp
  rw[em];refine ui.trans ?_
  have:=zI (j:=j) (v:=a.getLast f) bs a.dropLast u 0 0 hd G
  rw[B j r];show bT 0 _+bT 0 _ * _=bT 0 _;rw[this];congr 1
  grind
def qe:∀P:List Nat,(sQ P λp=>f p * c)=sQ P f * c
 | []=>by show (0:Rat)=0 * c;grind
 | p::P=>by rw[bg,bg,qe P];grind
def vA{n:Nat}{y:Nat->Rat}:∀(l:List (Rw × Rat)) (x:Nat->Rat),(∀p∈l,sQ (List.range n) (λj=>e_ p.1.1 j * y j)=0)->sQ (List.range n) (λj=>bT (x j) (l.map λp=>(e_ p.1.1 j,p.2)) * y j)=sQ (List.range n) λj=>x j * y j
 | [],x,_=>rfl
 | p::l,x,h=>by
  have a:=vA (n:=n) (y:=y) l (λj=>x j+e_ p.1.1 j * p.2) λq f=>h q (m1 _ f);have e:(sQ (List.range n) λj=>(x j+e_ p.1.1 j * p.2) * y j)=sQ (List.range n) λj=>x j * y j:=by
   rw[bP _ (g:=λj=>x j * y j+e_ p.1.1 j * y j * p.2) λj _=>by grind,tF,qe,h p (by simp)]
   grind
  exact a.trans e
def Ck(ok:jp n r)(u:∀c∈f,jp n c/\se (oy c.1 ap)=0)(y:∀j,j<n->e_ r.1 j=se (mx f us j)):se (oy r.1 ap)=0:=by
 rw[dG ok.nd ok.lt,bP _ (g:=λj=>bT ((λ_=>(0:Rat)) j) ((f.zip us).map λp=>(e_ p.1.1 j,p.2)) * ap.getD j 0) λj z=>by rw[y j (pa.mp z)];rfl,vA]
 .rw[bP _ (g:=λ_=>(0:Rat) * 0) λj _=>by grind,qe];grind
 .intro p l;obtain⟨i,_⟩:=DI l;obtain⟨a,b⟩:=u _ i;rw[<-dG a.nd a.lt];exact b
def G_:∀n,sz (sQ (List.range n) f)<=1+bX n λj=>sz (f j)+1
 | 0=>by show sz 0<=_;rw[DW];lia
 | n+1=>by
  rw[List.range_succ,pV]
  have:=G_ (f:=f) n
  have:=iX (sQ (List.range n) f) (f n)
  simp only[bX];lia
def tX:∀n,n<13->2+2 * Tn n+4 * n<=mm n/\Sn n<=Tn n:=by decide +kernel
def rw_sz(l:n<=12)(ok:jp n (ps,se (oy ps xs)))(i:∀q∈xs,sz q<=3)(h:bX n (λj=>sz (e_ ps j))<=Tn n):1+za (kr n (ps,se (oy ps xs)))<=mm n:=by
 have t:=(tX n (by lia)).1;unfold kr;rw[wZ,wz,show za [se (oy ps xs)]=sz (se (oy ps xs)) by simp[za]];have e:se (oy ps xs)=_:=dG (n:=n) (ps:=ps) (xs:=xs) ok.nd ok.lt;rw[e];have a:=G_ (f:=λj=>e_ ps j * xs.getD j 0) n;have b:=vY (f:=λj=>sz (e_ ps j * xs.getD j 0)+1) (g:=λj=>sz (e_ ps j)+4) n λj=>by
  have:=eA (e_ ps j) (xs.getD j 0)
  have:=f9 i (by decide) j
  show sz (e_ ps j * xs.getD j 0)+1<=_;lia
 rw[show (bX n λj=>sz (e_ ps j)+4)=(bX n λj=>sz (e_ ps j))+n * 4 by rw[iJ,jM]] at b;show 1+(bX n (λj=>sz (e_ ps j))+_)<=_;lia
def Kw{α:Type}{f:α->D}{l:List α}{s:hB}(O:l.length<=1000):∃(C:List α) (B:hB),cR.p [.pen,.lst (l.map f)] s=.ok (.lst (C.map f)) B/\C.Perm l:=by
 rw[rE (by rfl)];unfold d4;rw[show mh 4 [D.pen,.lst (l.map f)]=[some .pen,some (.lst (l.map f)),none,none] from rfl];obtain⟨E,B,F,a,y,u,rfl⟩:=dA (g:=(ia 3:Xg [2]).p) (b:=(Fd A_ 2 (aa (aj aM (aa (ab 0) (aa (ac bS (n_ cr (aa (ab 2) a_)) (xC (.int 1))) a_))) (aa (ab 3) a_)):Xd [2]).p)
  (λj env s=>∃(a:List α) (y:Option D),a.Perm (l.take j)/\env=[some .pen,some (.lst (l.map f)),some (.lst (a.map f)),y]) (l.map f) 0 [some .pen,some (.lst (l.map f)),some (.lst []),none] s ⟨[],none,by simp,rfl⟩ λj env s d ⟨a,y,u,G⟩ hd=>by
   subst G;rw[C0] at u ⊢;rw[tt,Bv] at hd;obtain⟨r,L,rfl⟩:=hd;obtain⟨I,rfl⟩:=tr.mp L;have M:a.length=j:=by rw[u.length_eq,Er];lia
   obtain⟨i,J,H,P,q⟩:=bV (s:=s) (size:=(a.length:Int)+1) (by lia) (by lia);obtain⟨i,rfl⟩:=j4 H
   refine⟨_,_,J,rfl,mV (as:=[.int (i:Int),f l[j]]) (ds:=a.map f) (ds':=(a.take i++l[j]::a.drop i).map f) (r:=.non) (by
    simp![si,r_,ag,aB,au,bq,ah,dJ,oI,Pf,aL,aD,cN,q]) rfl (by
    rw[yO (by simp;lia) (by simp;lia)];simp),a.take i++l[j]::a.drop i,some (f l[j]),?_,rfl⟩
   rw[P0 I];refine Qe.trans ?_;rw[Ox];exact (List.Perm.cons _ u).trans (SQ _ _).symm
 refine⟨a,B,?_,by simpa using u⟩;simp![av,dQ,eE,ah,tx,Cz,if_true,Pg,fD,si,r_,PU.ak,cF,bI,bn,Pf];refine (congrArg (λz:PS=>(z.then _).fin) F).trans ?_;rw[PU.ak,l0 (d:=.lst (a.map f)) rfl,PU.bi]
def nY:∀a:List Rw,qp (a.map CW)=true
 | []=>rfl
 | r::a=>by
  have i:∀ps:List Pt,qp (ps.map rz)=true:=λps=>by
   induction ps with
   | nil=>rfl
   | cons p ps f=>rw[m3,qp,f];rfl
  rw[m3,qp,nY a];simp[CW,flat,qp,i]
def F8:DT (k_ rs)=true:=nY rs
def wD:∀{n:Nat},j<n->f j<=bX n f
 | n+1,h=>by
  simp only[bX];by_cases e:j=n
  .subst e;lia
  .have:=wD (f:=f) (n:=n) (j:=j) (by lia);lia
def Bx(ok:jp n r)(h:bX n (λj=>sz (e_ r.1 j))<=B):∀p∈r.1,sz p.2<=B:=λp a=>by
 have:=wD (f:=λj=>sz (e_ r.1 j)) (ok.lt p a)
 rw[iq ok.nd a] at this;lia
def F9(Q:n<=12)(H:cur.length<=10)(h:∀r∈cur,jp n r/\(∀p∈r.1,sz p.2<=5000)/\r.2=0):∃(a:List Rat) (C:Option D) (I:hB),a.length=cur.length/\(∀q∈a,Wh 1 q) /\
  So.p [some .pen,some (.int (n:Int)),x2,x3,some (k_ cur),x5,x6,x7] s=.nx [some .pen,some (.int (n:Int)),x2,x3,some (k_ (cur++[(CQ n ((x_ n cur a).take n),0)])),x5,x6,C] I:=by
 obtain⟨r,l,q1,E,z⟩:=lA (ws:=[4]) (ws':=[]) (env:=[some .pen,some (.int (n:Int)),x2,x3,some (k_ cur),x5,x6,x7]) (s:=s) (s0:=s) (fm:=[0]) (i:=aV (ab 4))
  (e:=aU (aa (ac dS (aj aM (aa (ab 1) (aa (xC (.int 3)) a_))) (xC (.int 1))) (aa (xC (.int 1)) a_))) (ds:=cur.map CW) (λy=>∃q:Rat,y=qD q/\Wh 1 q) (by
   simp![bI,bn,Pf]) (by simp;lia) (λx S s=>by
   obtain⟨d,L,R,O,F⟩:=bV (s:=s) (size:=3) (by decide) (by decide);refine⟨qD (((d - 1:Int):Int):Rat),L,?_,_,rfl,d - 1,rfl,by lia⟩;show (aU _:Xe []).p [some x,some .pen] s=_;simp![bH,ag,au,aB,aL,aD,ah,F,dR,Pf,pk,tx,show (0+1+1:Nat)<=100000 by decide,if_true]
   rfl)
 obtain⟨a,e,f⟩:=sT z;have j:a.length=cur.length:=by
  have:=congrArg List.length e
  rw[oI,E,oI] at this;exact this.symm
 subst e;have W:TW (cur.zip a)<=cur.length * 5003:=xl λr u q J=>cw_le (A:=5000) (B:=2) (h r u).2.1 (by rw[(h r u).2.2,DW];decide) (G9 (f q J) (by decide));have P:cur.length * 5003<=10 * 5003:=Hf _ H;have G:=oB (n:=n) (rs:=cur) (ms:=a) (s:=l) (by lia) (by lia) j.symm (λr u=>(h r u).1) (by lia);have M:=B9 (n:=n) (xs:=(x_ n cur a).take n) (s:=l) (by lia) (by rw[Er,wV];lia);refine⟨a,some (lD a),l,j,f,?_⟩;show ((aA _ _:Xd [4]).p _ _)=_;rw[av,aN,q1];dsimp![PU.ak]
 rw[mV (s1:=l) (as:=[CW (CQ n ((x_ n cur a).take n),0)]) (ds:=cur.map CW) (ds':=(cur++[(CQ n ((x_ n cur a).take n),0)]).map CW) (r:=.non) (by
  simp![ag,bH,aB,wU,GQ,GO,GP,ah,G,FK,M8,Sr,Pf,M,aL,aD,pk,tx,show (0+1+1:Nat)<=100000 by decide,if_true]
  rfl) rfl (by rw[qW (by simp;lia)];simp)]
 rfl
structure Gr (n:Nat) (ap:List Rat) (r:Rw):Prop where
 ok:jp n r
 rt:r.2=0
 ki:se (oy r.1 ap)=0
 sm:bX n (λj=>sz (e_ r.1 j))<=Tn n
def Fr.gr(a:n<=12)(h:Fr n ap r):Gr n ap r:=⟨h.ok,h.rt,h.ki,yi h.sum (tX n (by lia)).2⟩
def Gr.parts(f:n<=12)(h:Gr n ap r):∀p∈r.1,sz p.2<=5000:=λp a=>by
 have:=Bx h.ok h.sm p a
 have:=(tX n (by lia)).1
 have:mm n<=4740:=by unfold mm;split <;> lia
 lia
def Kx(f:∀c∈a,Gr n ap c):(∀j,j<n->e_ (CQ n ((x_ n a us).take n)) j=se (mx a us j))/\se (oy (CQ n ((x_ n a us).take n)) ap)=0:=by
 have e:∀j,j<n->e_ (CQ n ((x_ n a us).take n)) j=se (mx a us j):=λj i=>by rw[Be i,FJ i,zh (λr u=>(f r u).ok) i]
 exact⟨e,Ck (r:=(CQ n ((x_ n a us).take n),0)) mS (λc l=>⟨(f c l).ok,(f c l).ki⟩) e⟩
def Mxd.gr(h:Mxd n bs u r)(a:u<=2)(f:∀b∈bs,Fr n ap b)(i:bs.length<=8)(ok:jp n r)(rt:r.2=0)(ki:se (oy r.1 ap)=0):Gr n ap r:=⟨ok,rt,ki,h.sum a f i⟩
def Ky{n:Nat}{xs ap:List Rat}{s:hB}(F:n<=12)(hx:xs.length=n)(T:∀q∈xs,sz q<=3)(hp:∀q∈ap,sz q<=2)(al:ap.length=n)(Z:∃j,j<n/\(ap.getD j 0).num≠0) :
  ∃(C:List Rw) (J:hB),f8.p [.pen,.int (n:Int),lD xs,lD ap] s=.ok (k_ C) J/\Rl n C/\∀r∈C,se (oy r.1 xs)=r.2/\se (oy r.1 ap)=0:=by
 obtain⟨c,s1,c0,c1,q1⟩:=bV (s:=s) (size:=9) (by decide) (by decide);obtain⟨c,rfl⟩:=j4 c0;obtain⟨P,s2,e2,bs,G,H,lb,U,rfl⟩:=dA (g:=(ia 5:Xg [4]).p) (b:=Sm.p) (λj env s=>∃(C:List Rw) (G H:Option D),C.length=j/\(∀r∈C,Fr n ap r)/\env=[some .pen,some (.int (n:Int)),some (lD xs),some (lD ap),some (k_ C),G,H,none]) (d6 0 c) 0
  [some .pen,some (.int (n:Int)),some (lD xs),some (lD ap),some (k_ []),none,none,none] s1 ⟨[],none,none,rfl,by simp,rfl⟩ λj env s x ⟨C,G,H,B,h,he⟩ M=>by
   subst he;rw[C0] at B ⊢;obtain⟨rfl,M⟩:=gn M;obtain⟨r,ai,J,S,q⟩:=F7 (xs:=xs) (rs:=C) (x5:=some (.int (j:Int))) (x6:=H) (x7:=none) (s:=s) F hp al Z (by lia);refine⟨_,_,J,rfl,q,C++[r],_,ai,by simp[B],λr' u=>?_,rfl⟩;rcases CZ.mp u with u|u
   .exact h r' u
   .rw[C9.mp u];exact S
 rw[C0,dh] at lb;obtain⟨c2,s3,ao,ar,q3⟩:=bV (s:=s2) (size:=3) (by decide) (by decide);obtain⟨c2,rfl⟩:=j4 ao;obtain⟨P,s4,e4,y,y5,R,lm,hm,_,rfl⟩:=dA (g:=(ia 5:Xg [4]).p) (b:=So.p) (λj env s=>∃(y:List Rw) (G R:Option D),y.length=j/\(∀r∈y,Gr n ap r)/\(j=1->∀r∈y,Mxd n bs 1 r)/\env=[some .pen,some (.int (n:Int)),some (lD xs),some (lD ap),some (k_ (bs++y)),G,H,R]) (d6 0 c2) 0
  [some .pen,some (.int (n:Int)),some (lD xs),some (lD ap),some (k_ bs),G,H,none] s3 ⟨[],G,none,rfl,by simp,λz=>by lia,by rw[DC]⟩ λj env s x ⟨y,G,R,B,h,S,he⟩ M=>by
   subst he;rw[C0] at B S ⊢;obtain⟨rfl,M⟩:=gn M;have all:∀r∈bs++y,Gr n ap r:=λr u=>(CZ.mp u).elim (λz=>(U r z).gr F) (h r);obtain⟨I,an,J,u1,u2,q⟩:=F9 (n:=n) (cur:=bs++y) (x2:=some (lD xs)) (x3:=some (lD ap)) (x5:=some (.int (j:Int))) (x6:=H) (x7:=R) (s:=s) F (by rw[Dj];lia) λr u=>⟨(all r u).ok,(all r u).parts F,(all r u).rt⟩;obtain⟨X,n2⟩:=Kx (us:=I) all;have new:Gr n ap (CQ n ((x_ n (bs++y) I).take n),0)/\(j+1=1->Mxd n bs 1 (CQ n ((x_ n (bs++y) I).take n),0)):=by
    match y,B with
    | [],B =>
     rw[DC] at X n2 u1 ⊢;have m:Mxd n bs 1 (CQ n ((x_ n bs I).take n),0):=⟨I,u1,u2,X⟩;exact⟨m.gr (by decide) U (by lia) mS rfl n2,λ_=>m⟩
    | [r1],B =>
     have B:1=j:=B;have m:Mxd n bs 2 (CQ n ((x_ n (bs++[r1]) I).take n),0):=(S B.symm r1 (by simp)).two (by rw[u1];simp) u2 X;exact⟨m.gr (by decide) U (by lia) mS rfl n2,λz=>by lia⟩
    | _::_::_,B=>simp at B;lia
   refine⟨_,_,J,rfl,q,y++[(CQ n ((x_ n (bs++y) I).take n),0)],_,an,by simp[B],λr u=>?_,λz r u=>?_,by rw[Lk]⟩
   .rcases CZ.mp u with u|u
    .exact h r u
    .rw[C9.mp u];exact new.1
   .have:y=[]:=En.mp (by lia)
    subst this;rw[C9.mp u];exact new.2 z
 rw[C0,dh] at lm;have all:∀r∈bs++y,Gr n ap r:=λr u=>(CZ.mp u).elim (λz=>(U r z).gr F) (hm r);obtain⟨l,E,q5,O⟩:=Kw (f:=CW) (l:=bs++y) (s:=s4) (by rw[Dj];lia);have ll:l.length<=10:=by rw[O.length_eq,Dj];lia
 have hc:=eD (ws:=[4]) (ws':=[]) (env:=[some .pen,some (.int (n:Int)),some (lD xs),some (lD ap),some (k_ (bs++y)),y5,H,R]) (s:=E) (s0:=s4) (fm:=[2]) (i:=aV (mn cR (aa (ab 0) (aa (ab 4) a_)))) (t:=f_) (e:=aU (aa (ab 0) (aa (aj bw (aa (ab 0) (aa (ab 2) a_))) a_))) (l:=l) (λr=>pD r.1) (λr=>qD r.2) (λr=>CW (r.1,se (oy r.1 xs))) (λ_=>true)
  (by
   have q5:cR.p [.pen,k_ (bs++y)] s4=.ok (k_ l) E:=q5
   simp![bI,wU,ag,ah,q5,F8,if_true,bn,Pf]) (by lia) λr u=>⟨rfl,λ_=>by
   have g:=all r (O.mem_iff.mp u);have t:=uB (l:=oy r.1 xs) (c:=5004) (m:=n) (by unfold oy;rw[oI];exact wY g.ok) λp Y=>by
    obtain⟨a,ha,rfl⟩:=mu.mp Y;have S:=g.parts F a ha;have h2:=f9 T (by decide) a.1;show sz a.2+sz (xs.getD a.1 0)+1<=_;lia
   have cm:=mM (ps:=r.1) (xs:=xs) (s:=E) (λp hp=>by rw[hx];exact g.ok.lt p hp) (by lia);have cm:bw.p [pD r.1,lD xs] E=.ok (qD (se (oy r.1 xs))) E:=cm;show (aU _:Xe []).p [some (pD r.1),some (qD r.2),some (lD xs)] E=_
   simp![bH,ag,aB,ah,cm,pk,tx,show (0+1+1:Nat)<=100000 by decide,if_true]⟩
 rw[aT] at hc;refine⟨l.map λr=>(r.1,se (oy r.1 xs)),E,?_,⟨F,by simpa using ll,λr u=>?_,λr u=>?_⟩,λr u=>?_⟩
 .rw[Aw (by rfl)];unfold i4;rw[show mh 8 [D.pen,.int (n:Int),lD xs,lD ap]=[some .pen,some (.int (n:Int)),some (lD xs),some (lD ap),none,none,none,none] from rfl,av,dQ];dsimp![eE,ah,Pb,tx,Cz,if_true,fD];rw[av,cF];simp![bB,ag,aB,aL,aD,ah,q1];rw[cI (by lia),v_,Pf,Pg];refine (congrArg (λz:PS=>(z.then _).fin) e2).trans ?_;rw[PU.ak,av,cF];simp![bB,ag,aB,aL,aD,ah,q3];rw[cI (by lia),v_,Pf,Pg];refine (congrArg (λz:PS=>(z.then _).fin) e4).trans ?_;rw[PU.ak,bA,hc];simp only[Pg,PU.bi];show PR.ok (D.lst _) E=PR.ok (D.lst ((l.map λr=>(r.1,se (oy r.1 xs))).map CW)) E;rw[oF];rfl
 .obtain⟨L,Q,rfl⟩:=mu.mp u;have g:=all L (O.mem_iff.mp Q);exact⟨g.ok.nd,g.ok.lt⟩
 .obtain⟨L,Q,rfl⟩:=mu.mp u;have g:=all L (O.mem_iff.mp Q);exact rw_sz F ⟨g.ok.nd,g.ok.lt⟩ T g.sm
 .obtain⟨L,Q,rfl⟩:=mu.mp u;exact⟨rfl,(all L (O.mem_iff.mp Q)).ki⟩
structure Tk (n:Nat) (xs ap ot:List Rat) (rs:List Rw):Prop where
 rl:Rl n rs
 lx:xs.length=n
 lo:ot.length=n
 sx:∀q∈xs,sz q<=3
 so:∀q∈ot,sz q<=8
 fx:∀r∈rs,se (oy r.1 xs)=r.2
 ka:∀r∈rs,se (oy r.1 ap)=0
 eo:∀j,j<n->ot.getD j 0=xs.getD j 0+ap.getD j 0
 ex:∃j,j<n/\(ap.getD j 0).num≠0
abbrev DZ(n:Nat)(rs:List Rw):D:=zj (rs.map λr=>(List.range n).map (e_ r.1))
def Tk.fits(t:Tk n xs ap ot rs):tQ n rs (λj=>xs.getD j 0)/\tQ n rs λj=>ot.getD j 0:=by
 refine⟨λr a=>?_,λr a=>?_⟩
 .have o:=t.rl.row r a;rw[<-t.fx r a,dG o.nd o.lt]
 .have o:=t.rl.row r a;rw[bP _ (g:=λj=>e_ r.1 j * xs.getD j 0+e_ r.1 j * ap.getD j 0) λj f=>by show e_ r.1 j * ot.getD j 0=_;rw[t.eo j (pa.mp f)];grind,tF,<-dG o.nd o.lt,<-dG o.nd o.lt,t.fx r a,t.ka r a]
  grind
def Tk.many(t:Tk n xs ap ot rs):∃R P L,RI (2 ^ (2 * mm n)) (q_ n rs) n R P L/\¬Kn n R P L/\frees n P≠[]/\fg.p [.int (n:Int),k_ rs] s=.ok (CT n rs.length R P) s:=by
 have y:=t.rl.n6;have C:=t.rl.l8;have hv:=t.rl.hv;obtain⟨f,B⟩:=t.fits;obtain⟨R,P,L,i,q⟩:=yF (s:=s) (m:=mm n) y (by lia) t.rl.ok (by have:2+(n+1) * (4+2 * mm n)=VV n:=rfl;lia) λR P L i a u=>Classical.byContradiction λz=>(i.inc_iff.mpr ⟨_,f⟩) ⟨a,u,z⟩;have hf:frees n P≠[]:=λz=>by
  obtain⟨j,l,r⟩:=t.ex;have a:=i.meet f l;have b:=i.meet B l;rw[z] at a b;have a:xs.getD j 0=val R P j n+0:=a;have b:ot.getD j 0=val R P j n+0:=b;have e:=t.eo j l;rw[a,b] at e
  have:ap.getD j 0=0:=by grind
  rw[this] at r;exact r rfl
 unfold Kg at q;rw[g_ hf] at q;exact⟨R,P,L,i,i.inc_iff.mpr ⟨_,f⟩,hf,q⟩
def Tk.rank(t:Tk n xs ap ot rs)(i:RI (2 ^ (2 * mm n)) (q_ n rs) n R P L):fh.p [.int (n:Int),DZ n rs] s=.ok (.int (P.length:Int)) s:=by
 have E:=t.rl.n6;have z:=t.rl.l8;have hv:=t.rl.hv;have a:(q_ n rs).length<=1000:=by simp[q_];lia
 have B:2+(n+1) * (4+2 * mm n)=VV n:=rfl;obtain⟨R2,C,F,l,q⟩:=Kj (nn:=n) (S:=mm n+(2+(n+1) * (4+2 * mm n))) (s:=s) (by lia) a (TY t.rl.ok) Kl (by lia) (by lia) λpl R P L u i=>Oa t.rl.ok (by lia) u i;rw[Km (by lia)] at q;have f:(rs.map λr=>(List.range n).map λj=>nm n j r)=rs.map λr=>(List.range n).map (e_ r.1):=B_ λr _=>B_ λj y=>oK (pa.mp y);rw[f,l.uniq i] at q;exact q
def Sz:AZ true (.str "many") (.str "many")=some (.bl false):=(kc G6 G6 rfl rfl).trans (congrArg (λb=>some (D.bl b)) (by decide +kernel))
def Tk.asked(t:Tk n xs ap ot rs)(i:RI (2 ^ (2 * mm n)) (q_ n rs) n R P L)(l:¬Kn n R P L)(hf:frees n P≠[]):jh.p [x0,x1,x2,some (.int (n:Int)),some (lD xs),x5,some (lD ot),some (k_ rs),some (DZ n rs),x9,some (CT n rs.length R P)] s=.nx [x0,x1,x2,some (.int (n:Int)),some (lD xs),x5,some (lD ot),some (k_ rs),some (DZ n rs),x9,some (CT n rs.length R P)] s:=by
 have f:=tI (s:=s) t.rl i l hf;have r:=t.rank (s:=s) i;obtain⟨u,C⟩:=t.fits;have y:=G8 (Y:=xs) (m:=nJ n rs.length R P) (s:=s) t.rl i t.lx (λq B=>by have:=t.sx q B;lia) λj a=>i.meet u a;have z:=G8 (Y:=ot) (m:=nJ n rs.length R P) (s:=s) t.rl i t.lo t.so λj a=>i.meet C a;have F:=yS i;have E:decide (((frees n P).length:Int)=(n:Int) - (P.length:Int))=true:=decide_eq_true (by lia);unfold jh;rw[av,ca];simp![g8,fy,bO,au,aB,ag,ah,aL,aD,uq,bz,Uq,Pf,cg,Sz,PR.bl,su,if_false,f,C_,Pg,ce,PU.ak];rw[ca];simp![g8,fy,bO,au,bq,aB,ag,ah,aL,aD,bz,Od,Pf,dJ,oI,r,dR,cg,bE,if_true,E,C_,PR.bl,su,if_false,y,z,Pg,ce]
def SA(t:Tk n xs ap ot rs):∃R P L,RI (2 ^ (2 * mm n)) (q_ n rs) n R P L/\¬Kn n R P L/\frees n P≠[]/\p4.p [x0,x1,x2,some (.int (n:Int)),x4,x5,x6,some (k_ rs),x8,x9,x10] s=.nx [x0,x1,x2,some (.int (n:Int)),x4,x5,x6,some (k_ rs),x8,x9,some (CT n rs.length R P)] s:=by
 obtain⟨R,P,L,i,a,hf,q⟩:=t.many (s:=s);have f:=t.rl.l8;have cl:jc.p [k_ rs]=some (k_ rs):=pM (by simp;lia);refine⟨R,P,L,i,a,hf,?_⟩;unfold p4;rw[aN];simp![aB,ag,bq,ah,cl,Pf,q,Pg,si,r_]
def Oi:∃(n:Nat) (xs f X:List Rat) (B:List Rw) (s':hB),mY.p [none,none,some .pen,none,none,none,none,none,none,none,none] s=.nx [none,none,some .pen,some (.int (n:Int)),some (lD xs),some (lD f),some (lD X),some (k_ B),some (DZ n B),none,none] s'/\Tk n xs f X B:=by
 obtain⟨a,s1,a0,a1,q1⟩:=bV (s:=s) (size:=7) (by decide) (by decide);obtain⟨a,rfl⟩:=j4 a0;obtain⟨b,Y,b0,b1,q2⟩:=bV (s:=s1) (size:=8) (by decide) (by decide);have hn:∃n:Nat,1<=n/\n<=12/\nk [D.int (1+(a:Int)),.int 12] (if decide (b=7)=true then 1 else 0)=some (.int (n:Int)):=by
  by_cases z:b=7
  .exact⟨12,by decide,by decide,by rw[decide_eq_true z];rfl⟩
  .refine⟨1+a,by lia,by lia,?_⟩;rw[decide_eq_false z,Qq];rfl
 obtain⟨n,Z,G,en⟩:=hn;obtain⟨r4,s3,q3,P,M⟩:=lA (ws:=[]) (ws':=[]) (env:=[none,none,some .pen,some (.int (n:Int)),none,none,none,none,none,none,none]) (s:=Y) (s0:=Y) (fm:=[2]) (i:=be wh (aa (ab 3) a_))
  (e:=aj aK (aa (ac dS (aj aM (aa (ab 1) (aa (xC (.int 13)) a_))) (xC (.int 6))) (aa (ac bS (xC (.int 1)) (aj aM (aa (ab 1) (aa (xC (.int 3)) a_)))) a_))) (ds:=d6 0 n) (λy=>∃q:Rat,y=qD q/\sz q<=3) (by
   simp![bB,ag,ah]
   rw[cI (by lia),v_];rfl) (by rw[dh];lia) (λx hx s=>by
   obtain⟨d,s5,d0,d1,q5⟩:=bV (s:=s) (size:=13) (by decide) (by decide);obtain⟨e,u,e0,e1,R⟩:=bV (s:=s5) (size:=3) (by decide) (by decide);have lo:=kW (t:=d - 6) (b:=1+e) (k:=3) (s:=u) (by lia) (by lia) (by decide);refine⟨qD (Rat.divInt (d - 6) (1+e)),u,?_,_,rfl,jZ (by lia) (by decide) (by lia) (by lia)⟩;show (aj aK _:Xe []).p [some x,some .pen] s=_
   simp![aB,ag,au,ah,aL,aD,q5,R,dR,cN,Pf,lo])
 obtain⟨xs,e4,C⟩:=sT M;have E:xs.length=n:=by
  have:=congrArg List.length e4
  rw[oI,P,dh] at this;exact this.symm
 subst e4;obtain⟨f,I,q4,H,F,ex⟩:=F5 (n:=n) (s:=s3) Z G;have S:=eD (ws:=[]) (ws':=[]) (env:=[none,none,some .pen,some (.int (n:Int)),some (lD xs),some (lD f),none,none,none,none,none]) (s:=I) (s0:=I) (fm:=[]) (i:=be iZ (aa (ab 4) (aa (ab 5) a_))) (t:=f_) (e:=aj aZ (aa (ab 0) (aa (ab 1) a_))) (l:=xs.zip f) (λp=>qD p.1) (λp=>qD p.2) (λp=>qD (p.1+p.2)) (λ_=>true)
  (by simp![bB,ag,ah,oW,Pf,im]) (by have:=mU (ys:=f) (show xs.length<=100 by lia);lia) λp Q=>⟨rfl,λ_=>by
   obtain⟨T,O⟩:=DI Q;have a1:=C p.1 T;have a2:=F p.2 O;have pl:=j8 (p:=p.1) (q:=p.2) (s:=I) (by lia);show (aj aZ _:Xe []).p [some (qD p.1),some (qD p.2)] I=_
   simp![aB,ag,ah,pl]⟩
 rw[aT] at S;have eo:(xs.zip f).map (λp=>qD (p.1+p.2))=((xs.zip f).map λp=>p.1+p.2).map qD:=by rw[oF];rfl
 rw[eo] at S;obtain⟨B,u,R,rl,L⟩:=Ky (n:=n) (xs:=xs) (ap:=f) (s:=I) G E C F H ex;have l8:=rl.l8;have U:=eD (ws:=[]) (ws':=[]) (env:=[none,none,some .pen,some (.int (n:Int)),some (lD xs),some (lD f),some (lD ((xs.zip f).map λp=>p.1+p.2)),some (k_ B),none,none,none]) (s:=u) (s0:=u) (fm:=[3]) (i:=aV (ab 7)) (t:=f_) (e:=aO 1 [0] (be wh (aa (ab 2) a_)) (ws':=[]) (ia 0) f_ (Fk (n_ oG (aa (ab 1) a_)) (aa (ab 0) (aa (aU (aa (xC (.int 0)) (aa (xC (.int 1)) a_))) a_)))) (l:=B) (λr=>pD r.1) (λr=>qD r.2) (λr=>lD ((List.range n).map (e_ r.1))) (λ_=>true)
  (by rfl) (by lia) λr J=>⟨rfl,λ_=>by
   show (aO 1 [0] _ _ _ _:Xe []).p [some (pD r.1),some (qD r.2),some (.int (n:Int))] u=_
   rw[bN (l:=List.range n) (λ(j:Nat)=>D.int (j:Int)) (λj=>qD (e_ r.1 j)) (λ_=>true) (s:=u) (by
    simp![bB,ag,ah]
    rw[cI (by lia),v_,dC];rfl) (by simp;lia) (λj _=>by
    refine⟨rfl,λ_=>?_⟩;show (Fk _ _:Xe []).p [some (.int (j:Int)),some (pD r.1)] u=_
    simp![GV,bq,ag,bH,ah,vD (rl.row r J).nd,Pf,aL,aD,pk,tx,show (0+1+1:Nat)<=100000 by decide,if_true,sG]),aT]
   unfold lD
   rw[oF];rfl⟩
 rw[aT,show D.lst (B.map λr=>lD ((List.range n).map (e_ r.1)))=DZ n B by unfold DZ zj;rw[oF];rfl] at U;refine⟨n,xs,f,(xs.zip f).map λp=>p.1+p.2,B,u,?_,rl,E,by simp[E,H],C,λq hq=>?_,λr J=>(L r J).1,λr J=>(L r J).2,λj hj=>?_,ex⟩
 .unfold mY;rw[av,aN];simp![au,eE,aB,ag,aL,aD,ah,q1,cN,pk,tx,show (0+1+1:Nat)<=100000 by decide,if_true,bq,q2,eM,bE,su,if_false,Pf,j3,bF,en,Pg,si,r_,PU.ak];rw[av,aN,q3];dsimp![PU.ak];rw[av,aN];simp![aB,ag,ah,q4,Pg,si,r_,PU.ak];rw[av,aN,S];dsimp![PU.ak];rw[av,aN];simp![aB,ag,ah,R,Pg,si,r_,PU.ak];rw[aN,U];simp only[Pg,si,r_]
 .obtain⟨p,Q,rfl⟩:=mu.mp hq;obtain⟨T,O⟩:=DI Q
  have:=C p.1 T
  have:=F p.2 O
  have:=iX p.1 p.2
  lia
 .have h1:j<xs.length:=by lia
  have h2:j<f.length:=by lia
  rw[o_,o_,o_,tt,p_ h1,p_ h2,p_ (by rw[Hi];lia),Qj];rfl
def xf(h:(bZ lo c)[i]?=some x):x=.int (lo+i)/\i<c:=by
 unfold bZ at h;rw[tt,Bv] at h;obtain⟨k,f,rfl⟩:=h
 have:=tr.mp f
 obtain⟨a,b⟩:=this;simp at a b;subst b;exact⟨rfl,a⟩
def xH(h:(bZ 0 c)[i]?=some x):x=.int (i:Int)/\i<c:=by
 have:=xf h;simpa using this
def vO{ns:List Int}{k:Nat}(a:k<ns.length):nk (ns.map PV.int) (k:Int)=some (.int ns[k]):=L2.cW (by simp[a])
def ux:sv (.int 10) (.int 18) h=.ok (.int (10 ^ 18)) h:=uv (by decide)
def Bc:sv (.int 10) (.int 15) h=.ok (.int (10 ^ 15)) h:=uv (by decide)
def B3{h:MH}{ns:List Int}{k:Nat}(X:k<64):∃m c:Int,jR [.frl (ns.map .int),.int k] h=.ok (.loc h.length) (h++[.lst [.int m,.int c,.int 0]]):=by
 unfold jR;have B:∀{i:Int} {h:MH},lp (.int 7919) (.int i) h=.ok (.int (7919 * i)) h:=iA (by decide);have L:∀{i:Int} {h:MH},lp (.int 48271) (.int i) h=.ok (.int (48271 * i)) h:=iA (by decide);have Q:∀{i:Int} {h:MH},lp (.int 40009) (.int i) h=.ok (.int (40009 * i)) h:=iA (by decide);have H:∀{a b c:PV} {h:MH},ql [a,b,c] h=.ok (.loc h.length) (h++[.lst [a,b,c]]):=ym (by simp)
 have fin:∀cell:Int,∃m c:Int,(bp (C6 (mB (aC DO (z6 CM (aw (az 2) h_)) (aC sv (mC (.int 10)) (mC (.int 18))))) (cB (iP (aw (mC (.int 1)) (aw (z6 CM (aw (az 2) h_)) (aw (mC (.int 0)) h_))))) ox)
   (cB (iP (aw (mC (.int 0)) (aw (aC l7 (aC ny (az 2) (mC (.int 2147483587))) (aC lp (mC (.int 40009)) (az 1))) (aw (mC (.int 0)) h_)))))) [some (.frl (ns.map .int)),some (.int k),some (.int cell)] h=.rt (.loc h.length) (h++[.lst [.int m,.int c,.int 0]]):=λcell=>by
  by_cases z:(10:Int) ^ 18<=(if cell<0 then -cell else cell)
  .exact⟨1,(if cell<0 then -cell else cell),by simp[ux,H,z,-Int.reducePow]⟩
  .exact⟨0,cell.fmod 2147483587+40009 * k,by simp[ux,H,z,Q,f7,-Int.reducePow]⟩
 have u:∀cell:Int,∃m c:Int,((bp (C6 (mB (aC DO (z6 CM (aw (az 2) h_)) (aC sv (mC (.int 10)) (mC (.int 18))))) (cB (iP (aw (mC (.int 1)) (aw (z6 CM (aw (az 2) h_)) (aw (mC (.int 0)) h_))))) ox)
   (cB (iP (aw (mC (.int 0)) (aw (aC l7 (aC ny (az 2) (mC (.int 2147483587))) (aC lp (mC (.int 40009)) (az 1))) (aw (mC (.int 0)) h_)))))) [some (.frl (ns.map .int)),some (.int k),some (.int cell)] h).fin=.ok (.loc h.length) (h++[.lst [.int m,.int c,.int 0]]):=λcell=>by
  obtain⟨m,c,q⟩:=fin cell;exact⟨m,c,by rw[q];rfl⟩
 have j:∀cell:Int,(bp (bM 2 (aC l7 (aC lp (mC (.int 7919)) (az 1)) (mC (.int 11))))
 (C6 (mB (aC DM (az 1) (z6 Df (aw (z6 vl (aw (az 0) h_)) (aw (mC (.int 63)) h_))))) (bM 2 (aC bu (az 0) (az 1))) (C6 (mB (aC DN (z6 vl (aw (az 0) h_)) (mC (.int 0)))) (bM 2 (aC l7 (aC ny (aC bu (az 0) (aC ny (az 1) (z6 Df (aw (z6 vl (aw (az 0) h_)) (aw (mC (.int 63)) h_))))) (aC sv (mC (.int 10)) (mC (.int 15)))) (aC lp (mC (.int 48271)) (az 1)))) ox))) [some (.frl (ns.map .int)),some (.int k),none] h=.nx [some (.frl (ns.map .int)),some (.int k),some (.int cell)] h ->
   ∃m c:Int,fe 3 2 Bi [.frl (ns.map .int),.int k] h=.ok (.loc h.length) (h++[.lst [.int m,.int c,.int 0]]):=λcell q=>by
  obtain⟨m,c,S⟩:=u cell;refine⟨m,c,(mH (by rfl)).trans ?_⟩;rw[<-S];unfold Bi;simp only[cV] at q ⊢;have P:cE 3 [PV.frl (ns.map .int),PV.int k]=[some (.frl (ns.map .int)),some (.int k),none]:=rfl;rw[P];generalize (bM 2 (aC l7 (aC lp (mC (.int 7919)) (az 1)) (mC (.int 11)))) [some (.frl (ns.map .int)),some (.int k),none] h=O at q ⊢
  cases O with
  | nx U E =>
   simp only[MM.ak,cV] at q ⊢;rw[q];rfl
  | _=>cases q
 have r:∃f:Nat,(if (63:Int)<(ns.length:Int) then (63:Int) else (ns.length:Int))=(f:Int)/\f<=ns.length/\(0<ns.length->0<f):=by
  by_cases z:(63:Int)<(ns.length:Int)
  .exact⟨63,by rw[d_ z];rfl,by lia,by lia⟩
  .exact⟨ns.length,by rw[g_ z],by lia,by lia⟩
 obtain⟨f,F,C,l⟩:=r;by_cases E:k<f
 .refine j (ns[k]'(by lia)) ?_;simp[B,F,E,vO (show k<ns.length by lia)]
 .by_cases y:0<ns.length
  .have G:(f:Int)≠0:=by have:=l y;lia
   have I:k % f<ns.length:=xv (Nat.mod_lt _ (l y)) C;have T:(k:Int).fmod (f:Int)=((k % f:Nat):Int):=by rw[Lb _ (by lia)];rfl
   refine j ((ns[k % f]'I).fmod (10 ^ 15)+48271 * k) ?_;have R:((10:Int) ^ 15)≠0:=by decide
   have J:=vO I;rw[Int.natCast_emod] at J;simp[B,F,E,y,f7 G,T,J,Bc,f7 R,L,-Int.reducePow]
  .have M:ns=[]:=En.mp (by lia);refine j (7919 * k+11) ?_;have z:¬((k:Int)<(f:Int)):=by lia
   simp[B,F,z,y]
def KS(Z:oe)(o:SOut):Prop:=match o with
 | .nx a _=>a.length=Z.length/\a[0]?=Z[0]?
 | .bk a _=>a.length=Z.length/\a[0]?=Z[0]?
 | .ct a _=>a.length=Z.length/\a[0]?=Z[0]?
 | _=>True
def KS.of(h:Z1.length=Z.length/\Z1[0]?=Z[0]?)(k:KS Z1 o):KS Z o:=by
 cases o with
 | nx a b=>exact⟨k.1.trans h.1,k.2.trans h.2⟩
 | bk a b=>exact⟨k.1.trans h.1,k.2.trans h.2⟩
 | ct a b=>exact⟨k.1.trans h.1,k.2.trans h.2⟩
 | _=>trivial
def K0(m:n8):Prop:=∀Z h,KS Z (m Z h)
def zZ:K0 ox:=λZ h=>⟨rfl,rfl⟩
def F_(f:∀v,K0 (k v)):K0 (y_ m k):=λZ h=>by
 unfold y_
 cases m Z h with
 | ok v a=>exact f v Z a
 | _=>trivial
def Oj:K0 (cB m):=λZ h=>by
 unfold cB
 cases m Z h with
 | ok v a=>trivial
 | _=>trivial
def rK{i:Nat}{v:PV}{Z:oe}(h:i≠0):(Z.set i (some v)).length=Z.length/\(Z.set i (some v))[0]?=Z[0]?:=⟨by simp,o0 h⟩
def Ol{i:Nat}{m:Mx PV}(h:i≠0):K0 (bM i m):=F_ λv Z a=>rK h
def oR(j:K0 a)(l:K0 b):K0 (bp a b):=λZ h=>by
 have:=j Z h
 unfold bp
 cases e:a Z h with
 | nx i f=>rw[e] at this;exact KS.of this (l i f)
 | bk i f=>rw[e] at this;exact this
 | ct i f=>rw[e] at this;exact this
 | _=>trivial
def SD(f:K0 a)(i:K0 b):K0 (C6 c a b):=F_ λx=>by
 cases x
 .exact i
 .exact f
def yX:K0 (hU m):=F_ λ_=>zZ
def SF{l:MIt}{i:Nat}{b:n8}(j:i≠0)(y:K0 b):∀xs:List PV,K0 (z5 l (CG i) b xs):=by
 intro xs
 induction xs with
 | nil =>
  intro Z h;unfold z5;split
  .exact⟨rfl,rfl⟩
  .trivial
 | cons x r u =>
  intro Z h;unfold z5;split
  .show KS Z (match b (Z.set i (some x)) h with
    | .nx f a=>z5 l (CG i) b r f a
    | .ct f a=>z5 l (CG i) b r f a
    | .bk f a=>.nx f a
    | .rt v a=>.rt v a
    | .exc e f a=>.exc e f a
    | .rse e f a=>.rse e f a
    | .bad=>.bad)
   have k:=(y (Z.set i (some x)) h)
   cases e:b (Z.set i (some x)) h with
   | nx f a=>rw[e] at k;exact KS.of (rK j) (KS.of k (u f a))
   | ct f a=>rw[e] at k;exact KS.of (rK j) (KS.of k (u f a))
   | bk f a=>rw[e] at k;exact KS.of (rK j) k
   | _=>trivial
  .trivial
def Om(j:i≠0)(f:K0 b):K0 (lh mi (CG i) b):=F_ λa=>SF j f a.xs
section
variable {ws:List Nat}
def jY(f:K0 a.m)(i:K0 b.m):K0 (aA a b).m:=oR f i
def iS(h:i≠0):K0 (aQ i e hi hz).m:=Ol h
def Ha:K0 (va t (aX e) i_).m:=SD Oj zZ
end
def yG:bp (bp a b) c=bp a (bp b c):=by
 funext Z h;rw[cV,cV,cV];cases a Z h <;> rfl
def zw:(aA a b).m=bp a.m b.m:=rfl
abbrev SG:n8:=hU (C7 gQ (aC bu (aC bu (aC bu (az 10) (mC (.int 2))) (mC (.int 0))) (mC (.int 1))) h_)
abbrev T0:n8:=hU (C7 gQ (aC bu (az 10) (mC (.int 1))) h_)
abbrev Oo:n8:=bp p4.m (bp jh.m (bp SG T0))
abbrev PY:n8:=lh (eR (aw (mC (.int 2)) h_)) (CG 9) Oo
abbrev K_:n8:=bp mY.m PY
abbrev SH:n8:=bM 2 (cz jR (aw (az 0) (aw (az 1) h_)))
def Ga(e:bM i m Z h=.nx Z' h'):∃v,Z'=Z.set i (some v):=by
 unfold bM y_ at e
 cases q:m Z h with
 | ok v a=>rw[q] at e;cases e;exact⟨v,rfl⟩
 | exc x a=>rw[q] at e;cases e
 | bad=>rw[q] at e;cases e
def Kz(e:C6 c (cB m) ox Z h=.nx Z' h'):Z'=Z:=by
 unfold C6 y_ at e
 cases q:c Z h with
 | ok v a =>
  rw[q] at e
  cases v with
  | true =>
   have e:cB m Z a=.nx Z' h':=e;unfold cB at e
   cases f:m Z a with
   | ok v i=>rw[f] at e;cases e
   | exc x i=>rw[f] at e;cases e
   | bad=>rw[f] at e;cases e
  | false=>have e:SOut.nx Z a=.nx Z' h':=e;cases e;rfl
 | exc x a=>rw[q] at e;cases e
 | bad=>rw[q] at e;cases e
def wT(e:(va c (aX a) i_).m Z h=.nx Z' h'):Z'=Z:=Kz (c:=c.m) (m:=a.m) e
def Gb(e:bp a b Z h=.nx Z' h'):∃i f,a Z h=.nx i f/\b i f=.nx Z' h':=by
 rw[cV] at e
 cases q:a Z h with
 | nx i f=>rw[q] at e;exact⟨i,f,rfl,e⟩
 | _=>rw[q] at e;cases e
def Gc(e:jh.m Z h=.nx Z' h'):Z'=Z:=by
 unfold jh at e;rw[zw] at e;obtain⟨f,a,e1,e2⟩:=Gb e
 have:=wT e1
 subst this;exact wT e2
def D_{Z:oe}(h:Z.length=11):∃O Q H G l y J F E z a,Z=[O,Q,H,G,l,y,J,F,E,z,a]:=by
 match Z,h with
 | [B,u,P,M,j,C,r,i,L,I,f],_=>exact⟨B,u,P,M,j,C,r,i,L,I,f,rfl⟩
abbrev tE(n:Nat)(xs ot:List Rat)(rs:List Rw)(d:Option D):aG:=[none,none,some .pen,some (.int (n:Int)),some (lD xs),none,some (lD ot),some (k_ rs),some (DZ n rs),none,d]
abbrev aE(n:Nat)(rs:List Rw):aG:=[none,none,some .pen,some (.int (n:Int)),none,none,none,some (k_ rs),none,none,none]
def Ge{p I:Nat}{h B:MH}{O C:List Nat}{f:List Rat}{l:List Rw}{y:List PV}(F:f≠[])(i:Rps p h O (f.map qD) y)(a:Rps I B C (l.map CW) y):False:=by
 match f,l,F,i,a with
 | q::f,[],_,i,a =>
  obtain⟨x,E,e1,_⟩:=i;have a:y=[]:=a;rw[e1] at a;cases a
 | q::f,r::l,_,i,a =>
  obtain⟨Q,M,e2,z,_⟩:=i;obtain⟨x,E,e1,j,_⟩:=a;rw[e1] at e2;cases e2;obtain⟨P,rfl,u,_,rfl,⟨_,rfl,_⟩,_⟩:=j;obtain⟨G,e,L,_,J,H,_⟩:=z;cases e;cases J;cases H
def oH(j:Z.length=11)(B:Z[2]?=some (some (.loc p)))(y:Z[3]?=some (some (.int (n:Int))))(C:Z[4]?=some (some v4))(F:Rp p h O (lD xs) v4)(z:Z[6]?=some (some v6))(H:Rp p h O (lD ot) v6)(l:Z[7]?=some (some v7))(u:Rp p h O (k_ rs) v7)(G:Z[8]?=some (some v8))(E:Rp p h O (DZ n rs) v8)(a:∀x,d=some x->∃v,Z[10]?=some (some v)/\Rp p h O x v):PU.SR p h L O [] Z (tE n xs ot rs d):=by
 refine⟨j,λi f e _=>?_,λi d e r=>by cases r⟩
 match i,e with
 | 0,e=>cases e
 | 1,e=>cases e
 | 2,e=>cases e;exact⟨_,B,rfl⟩
 | 3,e=>cases e;exact⟨_,y,rfl⟩
 | 4,e=>cases e;exact⟨_,C,F⟩
 | 5,e=>cases e
 | 6,e=>cases e;exact⟨_,z,H⟩
 | 7,e=>cases e;exact⟨_,l,u⟩
 | 8,e=>cases e;exact⟨_,G,E⟩
 | 9,e=>cases e
 | 10,e =>
  have e:some d=some (some f):=e;cases e;exact a f rfl
 | k+11,e=>simp at e
def SI(t:Tk n xs ap ot rs)(c:PU.Cx p h h.length [p] [p] [] Z (tE n xs ot rs none) s):∃Z' h',Oo Z h=.nx Z' h'/\PU.Cx p h' h'.length [p] [p] [] Z' (tE n xs ot rs none) s:=by
 have len:Z.length=11:=c.sr.len;obtain⟨v2,w2,r2⟩:=c.sr.fz 2 .pen rfl (by simp);obtain⟨v3,w3,r3⟩:=c.sr.fz 3 (.int (n:Int)) rfl (by simp);obtain⟨v4,w4,r4⟩:=c.sr.fz 4 (lD xs) rfl (by simp);obtain⟨v6,w6,r6⟩:=c.sr.fz 6 (lD ot) rfl (by simp);obtain⟨v8,w8,r8⟩:=c.sr.fz 8 (DZ n rs) rfl (by simp);obtain⟨v7,w7,r7⟩:=c.sr.fz 7 (k_ rs) rfl (by simp);have r2:v2=.loc p:=r2;have r3:v3=.int (n:Int):=r3;subst r2 r3;have a2:=r7;obtain⟨H,y7,rfl,a8,g7,ao⟩:=a2;have ay:p≠H:=λz=>a8 (by simp[z]);have a5:p<h.length:=aR c.pen;have I:∀o,o∈(List.range h.length).filter (λo=>!decide (o=H))↔o<h.length/\o≠H:=λo=>by simp
 have c0:PU.Cx p h h.length ((List.range h.length).filter λo=>!decide (o=H)) ((List.range h.length).filter λo=>!decide (o=H)) [] Z (aE n rs) s:=by
  have bd:∀o∈(List.range h.length).filter (λo=>!decide (o=H)),o<h.length:=λo C=>((I o).mp C).1;refine⟨bd,λ_ h=>h,bd,(I p).mpr ⟨a5,ay⟩,j_ _,c.pen,⟨len,λi d e _=>?_,λi d e J=>by cases J⟩⟩
  match i,e with
  | 0,e=>cases e
  | 1,e=>cases e
  | 2,e=>cases e;exact⟨_,w2,rfl⟩
  | 3,e=>cases e;exact⟨_,w3,rfl⟩
  | 4,e=>cases e
  | 5,e=>cases e
  | 6,e=>cases e
  | 7,e=>cases e;exact⟨_,w7,H,y7,rfl,λz=>((I H).mp z).2 rfl,g7,Rps.flat (nY rs) ao⟩
  | 8,e=>cases e
  | 9,e=>cases e
  | 10,e=>cases e
  | k+11,e=>simp at e
 obtain⟨R,P,L,i,J,hf,q⟩:=SA (x0:=none) (x1:=none) (x2:=some .pen) (x4:=none) (x5:=none) (x6:=none) (x8:=none) (x9:=none) (x10:=none) (s:=s) t;have k:=p4.ok c0 λi j J=>by cases J
 rw[q] at k;obtain⟨Z1,E,e1,O1,st,cx,_⟩:=k;obtain⟨v,rfl⟩:=Ga (show bM 10 _ _ _=.nx Z1 E from e1);obtain⟨a4,T,al⟩:=cx.sr.fz 10 (CT n rs.length R P) rfl (by simp);have base:∀m,m<h.length->m≠p->E[m]?=h[m]?:=st.base;have M1:Mv [p] h [p] E:=⟨λm hm no=>base m hm (by simpa using no),λo C=>.inl C⟩;have an:p∈O1:=cx.pO;have M2:Mv O1 E [p] E:=⟨λ_ _ _=>rfl,λo C=>.inl (by rw[C9.mp C];exact an)⟩;have ev:a4=v:=by
  rw[Cw (by lia)] at T;cases T;rfl
 subst ev;have n1:1<=n:=by obtain⟨j,hj,_⟩:=t.ex;lia
 have new:∀(a:Nat) (y:List PV) (qs:List Rat),qs.length=n->a∉O1->E[a]?=some (.lst y)->Rps p E O1 (qs.map qD) y->h.length<=a:=λa y qs hq ha hg hr=>by
  refine Nat.le_of_not_lt λz=>?_;have e7:a=H:=Classical.byContradiction λne=>ha (cx.sub a ((I a).mpr ⟨z,ne⟩));rw[e7,base H (e7▸z) λq=>ay q.symm,g7] at hg;cases hg;exact Ge (λe=>by rw[e] at hq;simp at hq;lia) hr ao
 have ax:=al;obtain⟨zs,rfl,O,zt,rfl,_,u1,zu,rfl,⟨q1,y1,rfl,o1,g1,a3⟩,u2,zv,rfl,⟨G,yw,rfl,ow,gw,ar⟩,M,zx,rfl,_,rfl⟩:=ax;have br:=new q1 y1 (bD n R P) (by simp[bD]) o1 g1 a3;generalize a0:frees n P=F at hf ar
 cases F with
 | nil=>exact absurd rfl hf
 | cons f fs =>
 obtain⟨xw,tw,rfl,⟨bL,rfl,uf,zf,rfl,_,ul,zl,rfl,⟨B,y2,rfl,o2,g2,bc⟩,rfl⟩,_⟩:=ar;have cd:=new B y2 (aY n R P f) iz o2 g2 bc;have ai:q1≠p:=by lia
 have as:B≠p:=by lia
 have a1:G≠p:=λz=>ow (z▸an);have Q:(Z.set 10 (some (.tup [O,.loc q1,.loc G,M]))).length=11:=by rw[Ql];exact len
 have l:∀{i:Nat} {x:Option PV},i≠10->Z[i]?=some x->(Z.set 10 (some (.tup [O,.loc q1,.loc G,M])))[i]?=some x:=λJ e=>(o0 λz=>J z.symm).trans e;have c2:PU.Cx p E E.length [p] [p] [] (Z.set 10 (some (.tup [O,.loc q1,.loc G,M]))) (tE n xs ot rs (some (CT n rs.length R P))) s:=by
  have bd:∀o∈[p],o<E.length:=λo C=>by rw[C9.mp C];exact aR cx.pen
  exact⟨bd,λ_ h=>h,bd,by simp,j_ _,cx.pen,oH Q (l (by decide) w2) (l (by decide) w3) (l (by decide) w4) (r4.mv M1) (l (by decide) w6) (r6.mv M1) (l (by decide) w7) (r7.mv M1) (l (by decide) w8) (r8.mv M1) λx hx=>by
   cases hx
   exact⟨_,T,al.mv M2⟩⟩
 have a6:frees n P≠[]:=by rw[a0];simp
 have k2:=jh.ok c2 λi j J=>by cases J
 rw[t.asked i J a6] at k2;obtain⟨Z2,u,e2,O2,bm,c3,_⟩:=k2
 have:=Gc e2
 subst this;have r:∀m,m<E.length->m≠p->u[m]?=E[m]?:=bm.base;have a7:=(r q1 (aR g1) ai).trans g1;have X:=(r B (aR g2) as).trans g2;have a9:=(r G (aR gw) a1).trans gw;have cm:h.length<=E.length:=st.len;have bf:∃w1,(u.set B (.lst []))[q1]?=some (.lst w1):=by
  by_cases z:B=q1
  .subst z;exact⟨_,Cw (aR X)⟩
  .exact⟨y1,(o0 z).trans a7⟩
 obtain⟨w1,S⟩:=bf;have old:∀m,m<h.length->m≠p->((u.set B (.lst [])).set q1 (.lst []))[m]?=h[m]?:=λm hm hp=>by
  rw[o0 (by lia),o0 (by lia),r m (by lia) hp,base m hm hp]
 have M3:Mv [p] h [p] ((u.set B (.lst [])).set q1 (.lst [])):=⟨λm hm no=>old m hm (by simpa using no),λo C=>.inl C⟩;have U:ci ((u.set B (.lst [])).set q1 (.lst [])) p s:=(o0 ai).trans ((o0 as).trans c3.pen);refine⟨_,(u.set B (.lst [])).set q1 (.lst []),?_,⟨λo C=>by rw[C9.mp C];exact aR U,λ_ h=>h,λo C=>by rw[C9.mp C];exact aR U,by simp,j_ _,U,oH Q (l (by decide) w2) (l (by decide) w3) (l (by decide) w4) (r4.mv M3) (l (by decide) w6) (r6.mv M3) (l (by decide) w7) (r7.mv M3) (l (by decide) w8) (r8.mv M3) λx hx=>by cases hx⟩⟩;obtain⟨b0,b1,b2,b3,b4,b5,b6,Y,b8,b9,ch,rfl⟩:=D_ len;have PP:aC bu (aC bu (aC bu (az 10) (mC (.int 2))) (mC (.int 0))) (mC (.int 1)) [b0,b1,b2,b3,b4,b5,b6,Y,b8,b9,some (.tup [O,.loc q1,.loc G,M])] u=.ok (.loc B) u:=by
  have e1:aC bu (az 10) (mC (.int 2)) [b0,b1,b2,b3,b4,b5,b6,Y,b8,b9,some (.tup [O,.loc q1,.loc G,M])] u=.ok (.loc G) u:=rfl;have e2:aC bu (aC bu (az 10) (mC (.int 2))) (mC (.int 0)) [b0,b1,b2,b3,b4,b5,b6,Y,b8,b9,some (.tup [O,.loc q1,.loc G,M])] u=.ok (.tup [uf,.loc B]) u:=by
   rw[wk,e1,Out.bind_ok,Mc,Out.bind_ok];have e0:nk (PV.tup [uf,.loc B]::tw) 0=some (.tup [uf,.loc B]):=L2.cW (j:=0) rfl;simp only[bu,a9,e0];rfl
  rw[wk,e2];rfl
 have Sf:aC bu (az 10) (mC (.int 1)) [b0,b1,b2,b3,b4,b5,b6,Y,b8,b9,some (.tup [O,.loc q1,.loc G,M])] (u.set B (.lst []))=.ok (.loc q1) (u.set B (.lst [])):=rfl;unfold Oo;rw[cV,e1,MM.ak,cV,e2,MM.ak,cV];show (SG [b0,b1,b2,b3,b4,b5,b6,Y,b8,b9,some (.tup [O,.loc q1,.loc G,M])] u).then _=_
 unfold SG T0;rw[uU,vR PP X];simp only[vt,Out.bind_ok,qw X,Out.ne_ok,am,tJ,MM.ak];rw[uU,vR Sf S];simp only[vt,Out.bind_ok,qw S,Out.ne_ok,am,tJ];rfl
def KA(c:PU.Cx p h h.length [p] [p] [] Z (tE n xs ot rs none) s):PU.Cx p h h.length [p] [p] [] (Z.set 9 (some x)) (tE n xs ot rs none) s:=by
 obtain⟨L,B,f⟩:=c.sr.fz 2 .pen rfl (by simp);obtain⟨r,l,a⟩:=c.sr.fz 3 (.int (n:Int)) rfl (by simp);obtain⟨R,G,J⟩:=c.sr.fz 4 (lD xs) rfl (by simp);obtain⟨Q,C,M⟩:=c.sr.fz 6 (lD ot) rfl (by simp);obtain⟨O,j,F⟩:=c.sr.fz 7 (k_ rs) rfl (by simp);obtain⟨P,u,H⟩:=c.sr.fz 8 (DZ n rs) rfl (by simp);have f:L=.loc p:=f;have a:r=.int (n:Int):=a;subst f a;have ne:∀{i:Nat} {y:Option PV},i≠9->Z[i]?=some y->(Z.set 9 (some x))[i]?=some y:=λE e=>(o0 λz=>E z.symm).trans e;exact⟨c.bd,c.sub,c.bb,c.pb,c.hL,c.pen,oH (by rw[Ql];exact c.sr.len) (ne (by decide) B) (ne (by decide) l) (ne (by decide) G) J (ne (by decide) C) M (ne (by decide) j) F (ne (by decide) u) H λx I=>by cases I⟩
def KC(t:Tk n xs ap ot rs)(c:PU.Cx p h h.length [p] [p] [] Z (tE n xs ot rs none) s):∃f a,PY Z h=.nx f a/\ci a p s:=by
 have l:eR (aw (mC (.int 2)) h_) Z h=.ok ⟨bZ 0 2,[]⟩ h:=MD (n:=2) rfl (by lia)
 obtain⟨f,a,e,i⟩:=pG (it:=⟨bZ 0 2,[]⟩) (g:=CG 9) (b:=Oo) (λj Z h=>PU.Cx p h h.length [p] [p] [] Z (tE n xs ot rs none) s) (bZ 0 2) 0 Z h c (λ_ _ _ _=>vw.mpr trivial) (λm Z h x c r=>by
  obtain⟨f,a,e,i⟩:=SI t (KA (x:=x) c)
  exact⟨_,_,f,a,rfl,e,i⟩)
 refine⟨f,a,?_,i.pen⟩;unfold PY;rw[vx,l,am];exact e
def KD{h:MH}{a b:Int}{z0 z1 a3 a4 a5 a6 a7 a8 a9 a10:Option PV}:∃Z' H,K_ [z0,z1,some (.loc h.length),a3,a4,a5,a6,a7,a8,a9,a10] (h++[.lst [.int a,.int b,.int 0]])=.nx Z' H/\∃q s,ci H q s:=by
 have pn:ci (h++[.lst [.int a,.int b,.int 0]]) h.length (a,b,0):=Mr;obtain⟨n,xs,ap,G,E,Y,q,t⟩:=Oi (s:=(a,b,0));have c:PU.Cx h.length (h++[.lst [.int a,.int b,.int 0]]) (h++[MO.lst [.int a,.int b,.int 0]]).length [h.length] [h.length] [] [z0,z1,some (.loc h.length),a3,a4,a5,a6,a7,a8,a9,a10] [none,none,some .pen,none,none,none,none,none,none,none,none] (a,b,0):=by
  refine⟨λo l=>?_,λ_ h=>h,λo l=>?_,by simp,j_ _,pn,⟨rfl,λi d e _=>?_,λi d e z=>by cases z⟩⟩
  .rw[C9.mp l];simp
  .rw[C9.mp l];simp
  .match i,e with
   | 0,e=>cases e
   | 1,e=>cases e
   | 2,e=>cases e;exact⟨_,rfl,rfl⟩
   | 3,e=>cases e
   | 4,e=>cases e
   | 5,e=>cases e
   | 6,e=>cases e
   | 7,e=>cases e
   | 8,e=>cases e
   | 9,e=>cases e
   | 10,e=>cases e
   | n+11,e=>simp at e
 have k:=mY.ok c λi j z=>by cases z
 rw[q] at k;obtain⟨Q,r,e1,F,_,f,_⟩:=k;obtain⟨v2,P,C⟩:=f.sr.fz 2 .pen rfl (by simp);obtain⟨L,J,B⟩:=f.sr.fz 3 (.int (n:Int)) rfl (by simp);obtain⟨v4,w4,r4⟩:=f.sr.fz 4 (lD xs) rfl (by simp);obtain⟨v6,S,R⟩:=f.sr.fz 6 (lD G) rfl (by simp);obtain⟨v7,I,U⟩:=f.sr.fz 7 (k_ E) rfl (by simp);obtain⟨v8,O,r8⟩:=f.sr.fz 8 (DZ n E) rfl (by simp);have C:v2=.loc h.length:=C;have B:L=.int (n:Int):=B;subst C B;have y:h.length∈F:=f.pO;have M:Mv F r [h.length] r:=⟨λ_ _ _=>rfl,λo l=>.inl (by rw[C9.mp l];exact y)⟩;have bd:∀o∈[h.length],o<r.length:=λo l=>by rw[C9.mp l];exact aR f.pen
 have T:PU.Cx h.length r r.length [h.length] [h.length] [] Q (tE n xs G E none) Y:=⟨bd,λ_ h=>h,bd,by simp,j_ _,f.pen,oH f.sr.len P J w4 (r4.mv M) S (R.mv M) I (U.mv M) O (r8.mv M) λx hx=>by cases hx⟩;obtain⟨Z,X,e3,u⟩:=KC t T;refine⟨Z,X,?_,_,_,u⟩;unfold K_;rw[cV,e1,MM.ak,e3]
def AO:Ds=bp (lh (eR (aw (mC (.int 3)) h_)) (CG 1) (bp SH K_)) yZ.m:=by
 unfold K_ PY Oo mY jh p4 yZ Ds;simp only[zw,yG];rw[<-xG];rfl
def SJ:K0 K_:=by
 refine oR ?_ (Om (by decide) (oR ?_ (oR ?_ (oR yX yX))))
 .unfold mY;exact jY (iS (by decide)) (jY (iS (by decide)) (jY (iS (by decide)) (jY (iS (by decide)) (jY (iS (by decide)) (iS (by decide))))))
 .unfold p4;exact iS (by decide)
 .unfold jh;exact jY Ha Ha
def Ea(ns:List Int)(U:ns.length<=63):∃E,Du [.frl (ns.map .int)] []=.ok (.bl true) E:=by
 unfold Du;rw[mH (by rfl),AO];have L:cE 11 [PV.frl (ns.map .int)]=[some (.frl (ns.map .int)),none,none,none,none,none,none,none,none,none,none]:=rfl;have H:eR (aw (mC (.int 3)) h_) [some (.frl (ns.map .int)),none,none,none,none,none,none,none,none,none,none] []=.ok ⟨bZ 0 3,[]⟩ []:=MD (n:=3) rfl (by lia);obtain⟨Z',E,e,O,G⟩:=pG (it:=⟨bZ 0 3,[]⟩) (g:=CG 1) (b:=bp SH K_)
  (λj Z h=>Z.length=11/\Z[0]?=some (some (.frl (ns.map .int)))) (bZ 0 3) 0 [some (.frl (ns.map .int)),none,none,none,none,none,none,none,none,none,none] [] ⟨rfl,rfl⟩ (λ_ _ _ _=>vw.mpr trivial) (λm Z h x ⟨I,R⟩ S=>by
   obtain⟨T,a1,P,B,i,l,C,y,u,r,f,rfl⟩:=D_ I;cases R;obtain⟨rfl,X⟩:=xH S;obtain⟨a,b,M⟩:=B3 (h:=h) (ns:=ns) (k:=m) (by lia);obtain⟨J,Q,e2,Y⟩:=KD (h:=h) (a:=a) (b:=b) (z0:=some (.frl (ns.map .int))) (z1:=some (.int (m:Int))) (a3:=B) (a4:=i) (a5:=l) (a6:=C) (a7:=y) (a8:=u) (a9:=r) (a10:=f);have F:=SJ [some (.frl (ns.map .int)),some (.int (m:Int)),some (.loc h.length),B,i,l,C,y,u,r,f] (h++[.lst [.int a,.int b,.int 0]]);rw[e2] at F;refine⟨_,_,J,Q,rfl,?_,F.1,F.2⟩;rw[cV];have e1:SH [some (.frl (ns.map .int)),some (.int (m:Int)),P,B,i,l,C,y,u,r,f] h=.nx [some (.frl (ns.map .int)),some (.int (m:Int)),some (.loc h.length),B,i,l,C,y,u,r,f] (h++[.lst [.int a,.int b,.int 0]]):=by
    simp -implicitDefEqProofs [M]
   refine (congrArg (λz:SOut=>z.then _) e1).trans ?_;rw[MM.ak]
   exact e2)
 refine⟨E,?_⟩;rw[L,cV,vx,H,am,e,MM.ak];rfl
end Law
namespace Law
open PySem.Spec PyProof.Rows L2 MM
set_option maxHeartbeats 4000000
def top(i:Nat):Stmt:=PySem.Challenge.pw_fewfills_k40_many_answers.main.body.getD i (.Pass ⟨0,0,0,0⟩)
local macro_rules | `(tactic| contradiction)=>`(tactic| (first | assumption | ((with_reducible apply JQ);assumption;(intro env h;cases env;cases h;rfl)) | ((with_reducible apply JT);assumption;(intro env h;cases env;cases h;rfl)) | ((with_reducible apply Fx);assumption;(intro env h;cases env;cases h;rfl)) | ((with_reducible apply Fy);assumption;(intro env h;cases env;cases h;rfl)) | ((with_reducible apply NT);assumption;(intro env h;cases env;cases h;rfl)) | with_reducible (first | apply w_var | apply Nf | apply RJ | apply Ng | apply Nq | apply JD | apply RK | apply JF | apply JG | apply RW | apply RZ | apply Nv | apply NF | apply ND | apply Nh | apply Ni | apply Nj | apply JB | apply Nk | apply JC | apply Nl | apply Nm | apply No | apply Np | apply RL | apply RM | apply RN | apply JP | apply NK | apply NL | apply RX | apply Ny | apply JM | apply JN | apply R0 | apply JO | apply w_and | apply NH | apply w_or | apply NI | apply NJ | apply R4 | apply R1 | apply R3 | apply R5 | apply R6 | apply R7 | apply NO | apply NM | apply NN | apply R8 | apply R9 | apply NP | apply jG | apply cS | apply NQ | apply JS | apply R_ | apply NS | apply Sa | apply w_set | apply w_setO | apply JR | apply w_sub | apply RY | apply NG | apply Bl | apply By | apply JL | apply Ae | apply w_pass | apply NR | apply Nr | apply Nt | apply Nu | apply RT | apply Nw | apply Nx | apply RQ | apply RR | apply RU | apply RV | apply JX | apply JY | apply Nz | apply JE | apply NA | apply NB | apply NC | apply JH | apply Ft | apply Fv | apply JI | apply FA | apply NE | apply JJ | apply Fw | apply JK) | exact rfl | decide +kernel | refine λY c=>⟨?_,?_,?_⟩ | (intro _;rfl) | exact λ_ _=>rfl | exact Dc _ | omega | exact⟨⟨rfl,rfl⟩,rfl,rfl,rfl⟩ | with_unfolding_all rfl) <;> contradiction)
abbrev ib:Stmt:=top 6
abbrev dy:Stmt:=top 7
abbrev gA:Stmt:=top 8
abbrev mW:Stmt:=top 9
abbrev dX:Stmt:=top 11
abbrev gF:Stmt:=top 12
abbrev jo:Stmt:=top 13
abbrev jt:Stmt:=top 14
abbrev hG:Stmt:=top 15
abbrev hX:Stmt:=top 16
abbrev gB:Stmt:=top 17
abbrev kF:Stmt:=top 18
abbrev my:Stmt:=top 20
abbrev wJ:List Str:=["_law_script","_law_k","_law_cell"]
abbrev vK:List Str:=["min","len","abs"]
abbrev Gf:List Str:=["_law_script","_law_k"]
def Gg(i:Sc X my)(g:Gd X wJ vK k)(j:iy X)(f:Nn X "abs")(n6:Nn X "len")(a:Nn X "min"):C1 X (aI my) Bi :=
 (nw.h (Cs (DU g 2 (z7 (aW dz (aW gR aH (kV g 1)) aH)))
 (Cs (Dh (k4 (K7 Gx (kV g 1) (GU g 0 (zR g) a Ai (aF (GU g 1 lR n6 lI (aF (kV g 0) ba)) (aF aH ba)))) (nw.h (DA (DU g 2 (z7 (Dg (kV g 0) (kV g 1)))))) (nw.h (DA (Dh (k4 (K7 Gy (GU g 1 lR n6 lI (aF (kV g 0) ba)) aH) (nw.h (DA (DU g 2 (z7 (aW dz (aW d5 (Dg (kV g 0) (aW d5 (kV g 1) (GU g 0 (zR g) a Ai (aF (GU g 1 lR n6 lI (aF (kV g 0) ba)) (aF aH ba))))) (aW sL aH aH)) (aW gR aH (kV g 1))))))) ip))))))
 (Cs (Dh (k4 (K7 Ma (GU g 2 u4 f tu (aF (kV g 2) ba)) (aW sL aH aH)) (nw.h (DA (Fo (PK (d9 (z7 aH) (d9 (z7 (GU g 2 u4 f tu (aF (kV g 2) ba))) (d9 (z7 aH) lj))))))) ip))
 (DA (Fo (PK (d9 (z7 aH) (d9 (z7 (aW dz (aW d5 (kV g 2) aH) (aW gR aH (kV g 1)))) (d9 (z7 aH) lj))))))))))
abbrev kN:Stmt:=top 21
abbrev tq:List Str:=["_law_pen_here","_law_size","_law_number_here","_law_drawn"]
abbrev uc:List Str:=[]
abbrev A6:List Str:=["_law_pen_here","_law_size"]
def Bb(a:Sc X kN)(g:Gd X tq uc k)(f:iy X):C1 X (aI kN) yy :=
 (nw.h (Cs (Dh (uy (aW dz (Dg (kV g 0) aH) aH) (sC (kV g 0) aH)))
 (Cs (Dh (k4 (K7 (yA g.room) (Dg (kV g 0) aH) aH) (nw.h (Cs (DU g 3 (z7 (aW d5 (Dg (kV g 0) aH) (kV g 1))))
 (Cs (Dh (uy (aW (xR g.room) (Dg (kV g 0) aH) (kV g 1)) (sC (kV g 0) aH)))
 (DA (Fo (z7 (kV g 3))))))) ip))
 (Cs (DU g 2 (z7 (aW d5 (aW gR (aW dz (aW dz (Dg (kV g 0) aH) (aW gR aH (Dg (kV g 0) aH))) aH) aH) aH)))
 (Cs (DU g 2 (z7 (aW d5 (aW gR (kV g 2) (aW dz (aW dz (aW d5 (kV g 2) aH) (Dg (kV g 0) aH)) aH)) aH)))
 (DA (Fo (z7 (aW d5 (aW (xR g.room) (aW d5 (aW gR (kV g 2) (aW dz (aW d5 (kV g 2) aH) aH)) aH) aH) (kV g 1))))))))))
abbrev ik:Stmt:=top 22
abbrev hJ:Stmt:=top 23
abbrev kh:Stmt:=top 24
abbrev kG:Stmt:=top 25
abbrev js:Stmt:=top 26
abbrev ja:Stmt:=top 27
abbrev je:Stmt:=top 28
abbrev g9:Stmt:=top 29
abbrev fw:Stmt:=top 30
abbrev e9:Stmt:=top 31
abbrev gC:Stmt:=top 32
abbrev dW:Stmt:=top 33
abbrev kj:Stmt:=top 34
abbrev fT:Stmt:=top 35
abbrev eK:Stmt:=top 36
abbrev mI:Stmt:=top 37
abbrev ij:Stmt:=top 38
abbrev i9:Stmt:=top 39
abbrev kq:Stmt:=top 40
abbrev pe:Stmt:=top 41
abbrev Hb:List Str:=["_law_script","_law_k","_law_pen_here","_law_n","_law_x","_law_apart_here","_law_other","_law_rows_here","_law_full","_law_turn","_law_found"]
abbrev Hc:List Str:=["range","_law_pen","_law_draw","int","_law_apart","zip","_law_rows","answer","list","_law_many_right","len","_law_rank","_law_met"]
abbrev Eb:List Str:=["_law_script"]
def Op(a:Sc X pe)(g:Gd X Hb Hc k)(O:iy X)(i:Cal X "_law_met" ["_law_found","_law_other"] fk.m k)(r:Cal X "_law_rank" ["_law_n","_law_rows_here"] fh.m k)(I:Cal X "_law_many_right" ["_law_n","_law_rows_here","_law_found"] cO.m k)(F:Cal X "answer" ["n","rows"] fg.m k)(u:Cal X "_law_rows" ["_law_pen_here","_law_n","_law_x","_law_apart_here"] f8.m k)(G:Cal X "_law_plus" ["_law_a","_law_b"] aZ.m k)(C:Cal X "_law_apart" ["_law_pen_here","_law_n"] fj.m k)(f:Cal X "_law_draw" ["_law_pen_here","_law_size"] bR k)(H:Cal X "_law_lowest" ["_law_top","_law_bottom"] aK.m k)(B:Cal X "_law_pen" ["_law_script","_law_k"] jR k)(l:Nn X "range")(n6:Nn X "len")(M:Nn X "list")(L:Nn X "dict")(E:Nn X "zip")(J:Nn X "int"):C1 X (aI pe) Ds :=
 (nw.h (Cs (Dh (t7 g (PH g 0 l (aF aH ba)) (GS g 1) (nw.h (Cs (DU g 2 (z7 (Dq g 1 B (aF (kV g 0) (aF (kV g 1) ba)))))
 (Cs (DU g 3 (Uj (PK (d9 (z7 (aW dz aH (Dq g 2 f (aF (kV g 2) (aF aH ba))))) (d9 (z7 aH) lj))) (z7 (RE g 3 Ao J uz (aF (Ug (yA g.room) (Dq g 2 f (aF (kV g 2) (aF aH ba))) aH) ba)))))
 (Cs (Dh (TK g a 4 ["_law_j"] ["_law_pen_here"] ["_law_lowest","_law_draw"] [2] (PH g 0 l (aF (kV g 3) ba)) λY y g=>⟨(GS g 0),j7,(Dq g 0 (y.c H) (aF (aW ue (Dq g 1 (y.c f) (aF (kV g 1) (aF aH ba))) aH) (aF (aW dz aH (Dq g 1 (y.c f) (aF (kV g 1) (aF aH ba)))) ba)))⟩))
 (Cs (DU g 5 (z7 (Dq g 4 C (aF (kV g 2) (aF (kV g 3) ba)))))
 (Cs (Dh (TK g a 6 ["_law_a","_law_b"] [] ["_law_plus"] [] (zp g (j:=5) rfl E (aF (kV g 4) (aF (kV g 5) ba))) λY y g=>⟨(uL g (iK (GS g 0) (iK (GS g 1) qo))),j7,(Dq g 0 (y.c G) (aF (kV g 0) (aF (kV g 1) ba)))⟩))
 (Cs (DU g 7 (z7 (Dq g 6 u (aF (kV g 2) (aF (kV g 3) (aF (kV g 4) (aF (kV g 5) ba)))))))
 (Cs (Dh (Ui g a 8 ["_law_parts_here","_law_right"] ["_law_n"] ["range"] [3] (zd (kV g 7)) λY y a g=>⟨(uL g (iK (GS g 0) (iK (GS g 1) qo))),j7,(Uh g a ["_law_j"] ["_law_parts_here"] ["dict"] [0] (PH g 0 (y.n l) (aF (kV g 2) ba)) λY z g=>⟨(GS g 0),j7,(GF (RE g 0 (wC g) (z.n (y.n L)) wF (aF (kV g 1) ba)) (aF (kV g 0) (aF (lw.h (TL (d9 (z7 aH) (d9 (z7 aH) lj)))) ba)))⟩)⟩))
 (DA (Dh (t7 g (PH g 0 l (aF aH ba)) (GS g 9) (nw.h (Cs (DU g 10 (z7 (Dq g 7 F (aF (kV g 3) (aF (RE g 8 vB M mQ (aF (kV g 7) ba)) ba)))))
 (Cs (Dh (k4 (MW.mt (rP (K7 (yj g.room) (Dg (kV g 10) aH) zr) (sF (oQ (pg (Dq g 9 I (aF (kV g 3) (aF (kV g 7) (aF (kV g 10) ba))))))))) (nw.h (DA (Fo (z7 rO)))) ip))
 (Cs (Dh (k4 (MW.mt (rP (K7 (yj g.room) (GU g 10 lR n6 lI (aF (Dg (kV g 10) aH) ba)) (aW ue (kV g 3) (Dq g 11 r (aF (kV g 3) (aF (kV g 8) ba))))) (rP (oQ (pg (Dq g 12 i (aF (kV g 10) (aF (kV g 4) ba))))) (sF (oQ (pg (Dq g 12 i (aF (kV g 10) (aF (kV g 6) ba))))))))) (nw.h (DA (Fo (z7 rO)))) ip))
 (Cs (Dh (pI (zM uW sE tH (Dg (Dg (Dg (kV g 10) aH) aH) aH))))
 (DA (Dh (pI (zM uW sE tH (Dg (kV g 10) aH)))))))))))))))))))))))
 (DA (Fo (z7 rO)))))
def KG:jS "law" pe Eb:=λ_ _ _ _ _ _=>RC λ_=>rfl
abbrev kJ:List Str:=["thing"]
def yh{K:hR}(c:Wc X P w K mg base kJ kJ 0 (aq ib))(d:iy X)(a:Zn K "isinstance")(z1:Zn K "bool")(f:Zn K "int"):nw X (aI ib) fS.m:=by unfold fS;apply jG <;> contradiction
abbrev eS:List Str:=["a","b","rest"]
def m5{K:hR}(c:Wc X P w K mg base eS eS 0 (aq dy))(d:iy X):nw X (aI dy) cC.m:=by unfold cC;apply cS <;> contradiction
abbrev jA:List Str:=["top","bottom","shared"]
def vg{K:hR}(c:Wc X P w K mg base jA jA 1 (aq gA))(d:iy X)(z0:Zn K "abs")(f:FnAt P w K mg base "greatest_shared" Ps1 bQ.m 1)(a:FnAt P w K mg base "is_whole" Ps0 eO.m 1):nw X (aI gA) eZ.m:=by unfold eZ;apply cS <;> contradiction
abbrev pC:List Str:=["a","b"]
def Gh{K:hR}(c:Wc X P w K mg base pC pC 2 (aq mW))(d:iy X)(a:FnAt P w K mg base "number_of" Ps2 bW.m 2):nw X (aI mW) jK.m:=by unfold jK;apply jG <;> contradiction
abbrev fC:List Str:=["numbers","bottom","number"]
def pf{K:hR}(c:Wc X P w K mg base fC fC 1 (aq dX))(d:iy X)(a:FnAt P w K mg base "greatest_shared" Ps1 bQ.m 1):nw X (aI dX) cY.m:=by unfold cY;apply cS <;> contradiction
abbrev jH:List Str:=["n","rows","k","parts","numbers","often","marks"]
def ve{K:hR}(c:Wc X P w K mg base jH jH 2 (aq gF))(d:iy X)(i:Zn K "range")(f:Zn K "len")(j:Zn K "dict")(a:nN K mg "NOUGHT" 0 1)(l:FnAt P w K mg base "shared_bottom" Ps4 c6.m 2):nw X (aI gF) eX.m:=by unfold eX;apply cS <;> contradiction
abbrev lP:List Str:=["row","chosen","place","before"]
def yQ{K:hR}(c:Wc X P w K mg base lP lP 0 (aq jo))(d:iy X)(a:Zn K "zip"):nw X (aI jo) gH.m:=by unfold gH;apply jG <;> contradiction
abbrev lM:List Str:=["n","rows","held","left","before","place","fit","chosen","other"]
def zo{K:hR}(c:Wc X P w K mg base lM lM 3 (aq jt))(d:iy X)(j:Zn K "range")(a:Zn K "list")(r:Zn K "enumerate")(f:Zn K "len")(i:FnAt P w K mg base "cleared" Ps6 cL.m 1)(l:FnAt P w K mg base "whole_row" Ps5 dm.m 3):nw X (aI jt) gL.m:=by unfold gL;apply cS <;> contradiction
abbrev kE:List Str:=["wholes","bottom"]
def yg{K:hR}(c:Wc X P w K mg base kE kE 2 (aq hG))(d:iy X)(a:FnAt P w K mg base "number_of" Ps2 bW.m 2):nw X (aI hG) fG.m:=by unfold fG;apply jG <;> contradiction
abbrev kT:List Str:=["held","place","column"]
def xc{K:hR}(c:Wc X P w K mg base kT kT 2 (aq hX))(d:iy X)(a:nN K mg "NOUGHT" 0 1)(f:FnAt P w K mg base "number_of" Ps2 bW.m 2):nw X (aI hX) eL.m:=by unfold eL;apply cS <;> contradiction
abbrev jD:List Str:=["n","held","free","way"]
def u6{K:hR}(c:Wc X P w K mg base jD jD 3 (aq gB))(d:iy X)(j:Zn K "range")(f:nN K mg "ONE" 1 1)(a:nN K mg "NOUGHT" 0 1)(i:FnAt P w K mg base "value_at" Ps9 cb.m 3)(l:FnAt P w K mg base "minus" Ps3 fX.m 3):nw X (aI gB) e8.m:=by unfold e8;apply cS <;> contradiction
abbrev nF:List Str:=["n","rows","told","held","row","x","mixes","ways"]
def Cq{K:hR}(c:Wc X P w K mg base nF nF 4 (aq kF))(d:iy X)(i:Zn K "range")(a:FnAt P w K mg base "way_along" Ps10 dP.m 4)(j:FnAt P w K mg base "all_over" Ps8 c8.m 3)(f:FnAt P w K mg base "value_at" Ps9 cb.m 3)(l:FnAt P w K mg base "reduced" Ps7 gI.m 4):nw X (aI kF) i5.m:=by unfold i5;apply cS <;> contradiction
abbrev kD:List Str:=["_law_top","_law_bottom","_law_one","_law_other"]
def xM{K:hR}(c:Wc X P w K mg base kD kD 0 (aq ik))(d:iy X)(z0:Zn K "abs"):nw X (aI ik) eJ.m:=by unfold eJ;apply cS <;> contradiction
abbrev kL:List Str:=["_law_pen_here","_law_way"]
def xA{K:hR}(c:Wc X P w K mg base kL kL 1 (aq hJ))(d:iy X)(a:FnAt P w K mg base "_law_draw" Ps13 bR 1)(f:FnAt P w K mg base "_law_lowest" Ps14 aK.m 1):nw X (aI hJ) fL.m:=by unfold fL;apply cS <;> contradiction
abbrev nC:List Str:=["_law_pen_here","_law_number_here"]
def Bu{K:hR}(c:Wc X P w K mg base nC nC 2 (aq kh))(d:iy X)(i:Zn K "int")(a:FnAt P w K mg base "_law_draw" Ps13 bR 1)(f:FnAt P w K mg base "_law_number" Ps15 fH.m 2):nw X (aI kh) iC.m:=by unfold iC;apply cS <;> contradiction
abbrev nR:List Str:=["_law_a","_law_b"]
def A9{K:hR}(c:Wc X P w K mg base nR nR 1 (aq kG))(d:iy X)(a:FnAt P w K mg base "_law_lowest" Ps14 aK.m 1):nw X (aI kG) iL.m:=by unfold iL;apply jG <;> contradiction
abbrev lv:List Str:=["_law_a","_law_b"]
def zT{K:hR}(c:Wc X P w K mg base lv lv 1 (aq js))(d:iy X)(a:FnAt P w K mg base "_law_lowest" Ps14 aK.m 1):nw X (aI js) gN.m:=by unfold gN;apply jG <;> contradiction
abbrev lB:List Str:=["_law_parts_here","_law_some","_law_found","_law_j","_law_number_here"]
def Ah{K:hR}(c:Wc X P w K mg base lB lB 2 (aq ja))(d:iy X)(f:FnAt P w K mg base "_law_times" Ps18 bv.m 2)(a:FnAt P w K mg base "_law_plus" Ps17 aZ.m 2):nw X (aI ja) gJ.m:=by unfold gJ;apply cS <;> contradiction
abbrev ln:List Str:=["_law_pen_here","_law_n","_law_some"]
def zW{K:hR}(c:Wc X P w K mg base ln ln 3 (aq je))(d:iy X)(j:Zn K "range")(i:Zn K "tuple")(a:FnAt P w K mg base "_law_draw" Ps13 bR 1)(f:FnAt P w K mg base "_law_more" Ps16 iQ.m 3):nw X (aI je) gP.m:=by unfold gP;apply jG <;> contradiction
abbrev kU:List Str:=["_law_n","_law_numbers_here"]
def yz{K:hR}(c:Wc X P w K mg base kU kU 0 (aq g9))(d:iy X)(f:Zn K "range")(a:Zn K "tuple"):nw X (aI g9) fK.m:=by unfold fK;apply jG <;> contradiction
abbrev iR:List Str:=["_law_n","_law_rows_here","_law_mix","_law_found","_law_k","_law_j","_law_number_here"]
def sO{K:hR}(c:Wc X P w K mg base iR iR 2 (aq fw))(d:iy X)(j:Zn K "range")(i:Zn K "len")(f:FnAt P w K mg base "_law_times" Ps18 bv.m 2)(a:FnAt P w K mg base "_law_plus" Ps17 aZ.m 2):nw X (aI fw) eB.m:=by unfold eB;apply cS <;> contradiction
abbrev gS:List Str:=["_law_thing","_law_one"]
def q0{K:hR}(c:Wc X P w K mg base gS gS 1 (aq e9))(d:iy X)(j:Zn K "isinstance")(z1:Zn K "bool")(l:Zn K "int")(i:Zn K "len")(a:Zn K "tuple")(f:FnAt P w K mg base "_law_lowest" Ps14 aK.m 1):nw X (aI e9) dM.m:=by unfold dM;apply cS <;> contradiction
abbrev jC:List Str:=["_law_found","_law_many"]
def vn{K:hR}(c:Wc X P w K mg base jC jC 2 (aq gC))(d:iy X)(i:Zn K "len")(j:Zn K "isinstance")(f:Zn K "list")(a:FnAt P w K mg base "_law_is_number" Ps23 cA.m 2):nw X (aI gC) eW.m:=by unfold eW;apply jG <;> contradiction
abbrev fB:List Str:=["_law_n","_law_rows_here","_law_free","_law_mixes","_law_places","_law_place","_law_mix","_law_come"]
def oJ{K:hR}(c:Wc X P w K mg base fB fB 3 (aq dW))(d:iy X)(f:Zn K "zip")(r:Zn K "int")(l:Zn K "len")(u:Zn K "isinstance")(j:Zn K "list")(y:Zn K "range")(i:FnAt P w K mg base "_law_together" Ps22 cU.m 3)(a:FnAt P w K mg base "_law_numbers" Ps24 cK.m 3):nw X (aI dW) cZ.m:=by unfold cZ;apply cS <;> contradiction
abbrev oi:List Str:=["_law_n","_law_rows_here","_law_left","_law_rank_here","_law_j","_law_some","_law_lead","_law_k","_law_part"]
def BF{K:hR}(c:Wc X P w K mg base oi oi 2 (aq kj))(d:iy X)(u:Zn K "range")(r:Zn K "len")(a:Zn K "zip")(l:Zn K "list")(i:FnAt P w K mg base "_law_times" Ps18 bv.m 2)(f:FnAt P w K mg base "_law_plus" Ps17 aZ.m 2)(j:FnAt P w K mg base "_law_lowest" Ps14 aK.m 1):nw X (aI kj) iU.m:=by unfold iU;apply cS <;> contradiction
abbrev iV:List Str:=["_law_pen_here","_law_some","_law_found","_law_one"]
def uj{K:hR}(c:Wc X P w K mg base iV iV 1 (aq fT))(d:iy X)(f:Zn K "len")(a:FnAt P w K mg base "_law_draw" Ps13 bR 1):nw X (aI fT) d4.m:=by unfold d4;apply cS <;> contradiction
abbrev gg:List Str:=["_law_n","_law_rows_here","_law_found","_law_free","_law_place","_law_way","_law_apart_here"]
def pF{K:hR}(c:Wc X P w K mg base gg gg 4 (aq eK))(d:iy X)(y:Zn K "len")(z:Zn K "int")(B:Zn K "isinstance")(z1:Zn K "bool")(r:Zn K "sorted")(l:Zn K "set")(u:Zn K "list")(a:Zn K "tuple")(j:FnAt P w K mg base "_law_mixes_right" Ps25 cy.m 4)(i:FnAt P w K mg base "_law_comes" Ps19 bw.m 3)(f:FnAt P w K mg base "_law_numbers" Ps24 cK.m 3):nw X (aI eK) dB.m:=by unfold dB;apply cS <;> contradiction
abbrev pB:List Str:=["_law_found","_law_other","_law_come","_law_place","_law_way"]
def Gi{K:hR}(c:Wc X P w K mg base pB pB 2 (aq mI))(d:iy X)(a:Zn K "zip")(j:Zn K "list")(i:FnAt P w K mg base "_law_times" Ps18 bv.m 2)(f:FnAt P w K mg base "_law_plus" Ps17 aZ.m 2):nw X (aI mI) jO.m:=by unfold jO;apply cS <;> contradiction
abbrev kS:List Str:=["_law_n","_law_parts_here","_law_apart_here","_law_some","_law_at","_law_rest","_law_come","_law_number_here"]
def yu{K:hR}(c:Wc X P w K mg base kS kS 3 (aq ij))(d:iy X)(r:Zn K "int")(j:Zn K "sorted")(a:Zn K "tuple")(l:Zn K "len")(u:Zn K "range")(i:FnAt P w K mg base "_law_lowest" Ps14 aK.m 1)(f:FnAt P w K mg base "_law_comes" Ps19 bw.m 3):nw X (aI ij) fW.m:=by unfold fW;apply cS <;> contradiction
abbrev lO:List Str:=["_law_pen_here","_law_n","_law_found","_law_at"]
def yT{K:hR}(c:Wc X P w K mg base lO lO 1 (aq i9))(d:iy X)(i:Zn K "range")(a:FnAt P w K mg base "_law_draw" Ps13 bR 1)(f:FnAt P w K mg base "_law_lowest" Ps14 aK.m 1):nw X (aI i9) gK.m:=by unfold gK;apply cS <;> contradiction
abbrev nT:List Str:=["_law_pen_here","_law_n","_law_x","_law_apart_here","_law_rows_here","_law_row","_law_parts_here","_law_mix"]
def Bh{K:hR}(c:Wc X P w K mg base nT nT 4 (aq kq))(d:iy X)(z:Zn K "range")(r:Zn K "tuple")(f:FnAt P w K mg base "_law_shuffled" Ps27 cR.m 2)(a:FnAt P w K mg base "_law_comes" Ps19 bw.m 3)(i:FnAt P w K mg base "_law_draw" Ps13 bR 1)(l:FnAt P w K mg base "_law_together" Ps22 cU.m 3)(j:FnAt P w K mg base "_law_of_all" Ps21 fN.m 1)(y:FnAt P w K mg base "_law_fitted" Ps30 fQ.m 4)(u:FnAt P w K mg base "_law_parts" Ps20 fv.m 4):nw X (aI kq) i4.m:=by unfold i4;apply cS <;> contradiction
def KH{K:hR}(b:Ba P w K mg base)
  (D0:c_ K "is_whole" ib)
  (D1:c_ K "greatest_shared" dy)
  (D2:c_ K "number_of" gA)
  (D3:c_ K "minus" mW)
  (D4:c_ K "shared_bottom" dX)
  (D5:c_ K "whole_row" gF)
  (D6:c_ K "cleared" jo)
  (D7:c_ K "reduced" jt)
  (D8:c_ K "all_over" hG)
  (D9:c_ K "value_at" hX)
  (b6:c_ K "way_along" gB)
  (cs:c_ K "answer" kF)
  (b4:c_ K "_law_pen" my)
  (c4:c_ K "_law_draw" kN)
  (ax:c_ K "_law_lowest" ik)
  (b0:c_ K "_law_number" hJ)
  (b5:c_ K "_law_more" kh)
  (b1:c_ K "_law_plus" kG)
  (ai:c_ K "_law_times" js)
  (ar:c_ K "_law_comes" ja)
  (c1:c_ K "_law_parts" je)
  (cm:c_ K "_law_of_all" g9)
  (as:c_ K "_law_together" fw)
  (c3:c_ K "_law_is_number" e9)
  (ch:c_ K "_law_numbers" gC)
  (cd:c_ K "_law_mixes_right" dW)
  (b2:c_ K "_law_rank" kj)
  (b8:c_ K "_law_shuffled" fT)
  (Y:c_ K "_law_many_right" eK)
  (b3:c_ K "_law_met" mI)
  (T:c_ K "_law_fitted" ij)
  (br:c_ K "_law_apart" i9)
  (cx:c_ K "_law_rows" kq)
  (bm:c_ K "law" pe)
  (z0:Zn K "abs")
  (z1:Zn K "bool")
  (z2:Zn K "dict")
  (z3:Zn K "enumerate")
  (C:Zn K "int")
  (L:Zn K "isinstance")
  (u:Zn K "len")
  (I:Zn K "list")
  (z8:Zn K "min")
  (r:Zn K "range")
  (cn:Zn K "set")
  (O:Zn K "sorted")
  (l:Zn K "tuple")
  (z:Zn K "zip")
  (j:kA K "NOUGHT" 0 1)
  (J:kA K "ONE" 1 1)
   :FnAt P w K mg base "law" Eb Du 6:=by
 have a:=j.mg b.kin b.ns;have E:=J.mg b.kin b.ns;have a0:=xo (F:=eO) kJ b D0 λX c d=>yh c d L z1 C;have a1:=xo (F:=bQ) eS b D1 λX c d=>m5 c d;have a2:=xo (F:=bW) jA b D2 λX c d=>vg c d z0 a1 a0;have a3:=xo (F:=fX) pC b D3 λX c d=>Gh c d  a2;have a4:=xo (F:=c6) fC b D4 λX c d=>pf c d  a1;have a5:=xo (F:=dm) jH b D5 λX c d=>ve c d r u z2 a a4;have a6:=xo (F:=cL) lP b D6 λX c d=>yQ c d z;have a7:=xo (F:=gI) lM b D7 λX c d=>zo c d r I z3 u a6 a5;have a8:=xo (F:=c8) kE b D8 λX c d=>yg c d  a2;have a9:=xo (F:=cb) kT b D9 λX c d=>xc c d a a2;have S:=xo (F:=dP) jD b b6 λX c d=>u6 c d r E a a9 a3;have R:=xo (F:=fg) nF b cs λX c d=>Cq c d r S a8 a9 a7;have ay:=RD (k:=0) (N:=wJ) (G:=vK) (ps:=Gf) b b4 λX e h g d=>Gg h g d (e.n z0) (e.n u) (e.n z8);have i:=RD (k:=0) (N:=tq) (G:=uc) (ps:=A6) b c4 λX e h g d=>Bb h g d;have f:=xo (F:=aK) kD b ax λX c d=>xM c d z0;have b7:=xo (F:=fH) kL b b0 λX c d=>xA c d  i f;have ap:=xo (F:=iQ) nC b b5 λX c d=>Bu c d C i b7;have y:=xo (F:=aZ) nR b b1 λX c d=>A9 c d  f;have B:=xo (F:=bv) lv b ai λX c d=>zT c d  f;have H:=xo (F:=bw) lB b ar λX c d=>Ah c d  B y;have c5:=xo (F:=fv) ln b c1 λX c d=>zW c d r l i ap;have b9:=xo (F:=fN) kU b cm λX c d=>yz c d r l;have M:=xo (F:=cU) iR b as λX c d=>sO c d r u B y;have Z:=xo (F:=cA) gS b c3 λX c d=>q0 c d L z1 C u l f;have Q:=xo (F:=cK) jC b ch λX c d=>vn c d u L I Z;have c0:=xo (F:=cy) fB b cd λX c d=>oJ c d z C u L I r M Q;have U:=xo (F:=fh) oi b b2 λX c d=>BF c d r u z I B y f;have bf:=xo (F:=cR) iV b b8 λX c d=>uj c d u i;have bL:=xo (F:=cO) gg b Y λX c d=>pF c d u C L z1 O cn I l c0 H Q;have c2:=xo (F:=fk) pB b b3 λX c d=>Gi c d z I B y;have bc:=xo (F:=fQ) kS b T λX c d=>yu c d C O l u r f H;have ao:=xo (F:=fj) lO b br λX c d=>yT c d r i f;have an:=xo (F:=f8) nT b cx λX c d=>Bh c d r l bf H i M b9 bc c5;have al:=RD (k:=5) (N:=Hb) (G:=Hc) (ps:=Eb) b bm λX e h g d=>Op h g d (c2.c e) (U.c e) (bL.c e) (R.c e) (an.c e) (y.c e) (ao.c e) (i.c e) (f.c e) (ay.c e) (e.n r) (e.n u) (e.n I) (e.n z2) (e.n z) (e.n C);exact al
end Law
namespace PySem.W.Fast
def tw11232496094263860158:=0
def tw16211879822605441873:=0
def tw4190461026566022822:=0
def tw13034069897815267907:=0
def tw14834374695134669016:=0
def tw16819686170906659622:=0
def tw14435577859193550717:=0
def tw14930176570842854416:=0
def tw17170478082240945675:=0
def tw4395081293564665715:=0
def tw6058898585175202224:=0
def tw18404367180484331700:=0
def tw5774193730869467498:=0
def tw13924208320417934945:=0
def tw18313410686782552617:=0
def tw12157033699217917494:=0
def tw15424884412957227635:=0
def tw9556336474760621189:=0
def tw15474862120720083493:=0
def tw8291736979861279874:=0
def tw11059154245380065732:=0
def tw1171454075774972430:=0
def tw15243536368167913724:=0
def tw6383843737123121459:=0
def tw15830270310012178422:=0
def tw3909928004487946529:=0
def tw3655873698425110770:=0
def tw3408269624119515986:=0
def tw6891456407451662834:=0
def tw2816522769847003786:=0
def tw13824934911873732830:=0
def tw12331790201974508075:=0
def tw7517458831034500078:=0
def tw17043863945574487652:=0
def tw7963129679625012686:=0
def tw13004604777071119528:=0
def tw8647854819685076409:=0
def tw946079798203069842:=0
def tw17309204122275891849:=0
def tw12408034848636838390:=0
def tw131500999359503717:=0
def tw10650697255865555158:=0
def tw4321256725851605629:=0
def tw18162520327893988283:=0
def tw8114791585979524620:=0
def tw10546973311486732758:=0
def tw9710402632268940200:=0
def tw3584534141154518382:=0
def tw4405429889020150848:=0
def tw12978525231279005266:=0
def tw7590521053018656898:=0
def tw3249807222124873032:=0
def tw12332931029611842091:=0
def tw1156003665496447667:=0
def tw8544635043630644087:=0
def tw1902875557400123241:=0
def tw10854748219104692051:=0
def tw1273982468839194331:=0
def tw9125603044980648795:=0
def tw3272304129765987077:=0
def tw13365246911611417057:=0
def tw13372585454000687621:=0
def tw12683387507509323834:=0
def tw12871312076001411758:=0
def tw5034681625550151117:=0
def tw725469104557442892:=0
def tw10151630993544179946:=0
def tw2617428119292961015:=0
def tw16794178133334120704:=0
def tw871407553080915841:=0
def tw12977950434282630252:=0
def tw1302792745220351221:=0
def tw16149254651439398531:=0
def tw9037577681232215398:=0
def tw14665024683720468159:=0
def tw15967186562398352747:=0
def tw14125015368636117428:=0
def tw5544548881401989576:=0
def tw5172046990615482703:=0
def tw17044939097471133230:=0
def tw8765076394599779919:=0
def tw12650377553926255483:=0
def tw4324551880233340019:=0
def tw15120973977697388704:=0
def tw15178620586996780493:=0
end PySem.W.Fast
open PySem PySem.W PyProof.Rows
local macro_rules | `(tactic| and_intros) => `(tactic| (dsimp only [L2.oh]; first | k_is | (refine' MM.DR ?a ?l ?c ?k; (case a => k_is); (case l => k_is); (case c => k_is); (case k => k_is))))
set_option maxRecDepth 100000 in
set_option maxHeartbeats 0 in
theorem PySem.Challenge.cw_fewfills_k40_many_answers_holds : PySem.Challenge.rw_fewfills_k40_many_answers.Holds := by
  w_on; o_law; k_head; (case hw=>w_witness2)
  k_fill
  refine MM.IF (l:=PySem.Challenge.rw_fewfills_k40_many_answers) (k:=6) (x:="_law_script") (F:=Law.Du) rfl rfl ⟨rfl,by decide,by decide,rfl⟩ (by decide +kernel) rfl (fun w h Y=>PySem.W.kIn_of Y) ?F Law.Ea
  case F=>
    intro w mg fa h KX G hmg
    have Dlaw:MM.c_ (L2.oh KX) "law" Law.pe:=by and_intros
    have D0:MM.c_ (L2.oh KX) "is_whole" Law.ib:=by and_intros
    have D1:MM.c_ (L2.oh KX) "greatest_shared" Law.dy:=by and_intros
    have D2:MM.c_ (L2.oh KX) "number_of" Law.gA:=by and_intros
    have D3:MM.c_ (L2.oh KX) "minus" Law.mW:=by and_intros
    have D4:MM.c_ (L2.oh KX) "shared_bottom" Law.dX:=by and_intros
    have D5:MM.c_ (L2.oh KX) "whole_row" Law.gF:=by and_intros
    have D6:MM.c_ (L2.oh KX) "cleared" Law.jo:=by and_intros
    have D7:MM.c_ (L2.oh KX) "reduced" Law.jt:=by and_intros
    have D8:MM.c_ (L2.oh KX) "all_over" Law.hG:=by and_intros
    have D9:MM.c_ (L2.oh KX) "value_at" Law.hX:=by and_intros
    have D10:MM.c_ (L2.oh KX) "way_along" Law.gB:=by and_intros
    have D11:MM.c_ (L2.oh KX) "answer" Law.kF:=by and_intros
    have D12:MM.c_ (L2.oh KX) "_law_pen" Law.my:=by and_intros
    have D13:MM.c_ (L2.oh KX) "_law_draw" Law.kN:=by and_intros
    have D14:MM.c_ (L2.oh KX) "_law_lowest" Law.ik:=by and_intros
    have D15:MM.c_ (L2.oh KX) "_law_number" Law.hJ:=by and_intros
    have D16:MM.c_ (L2.oh KX) "_law_more" Law.kh:=by and_intros
    have D17:MM.c_ (L2.oh KX) "_law_plus" Law.kG:=by and_intros
    have D18:MM.c_ (L2.oh KX) "_law_times" Law.js:=by and_intros
    have D19:MM.c_ (L2.oh KX) "_law_comes" Law.ja:=by and_intros
    have D20:MM.c_ (L2.oh KX) "_law_parts" Law.je:=by and_intros
    have D21:MM.c_ (L2.oh KX) "_law_of_all" Law.g9:=by and_intros
    have D22:MM.c_ (L2.oh KX) "_law_together" Law.fw:=by and_intros
    have D23:MM.c_ (L2.oh KX) "_law_is_number" Law.e9:=by and_intros
    have D24:MM.c_ (L2.oh KX) "_law_numbers" Law.gC:=by and_intros
    have D25:MM.c_ (L2.oh KX) "_law_mixes_right" Law.dW:=by and_intros
    have D26:MM.c_ (L2.oh KX) "_law_rank" Law.kj:=by and_intros
    have D27:MM.c_ (L2.oh KX) "_law_shuffled" Law.fT:=by and_intros
    have D28:MM.c_ (L2.oh KX) "_law_many_right" Law.eK:=by and_intros
    have D29:MM.c_ (L2.oh KX) "_law_met" Law.mI:=by and_intros
    have D30:MM.c_ (L2.oh KX) "_law_fitted" Law.ij:=by and_intros
    have D31:MM.c_ (L2.oh KX) "_law_apart" Law.i9:=by and_intros
    have D32:MM.c_ (L2.oh KX) "_law_rows" Law.kq:=by and_intros
    have Z33:PySem.W.nsIn (L2.oh KX) mainGlobals "abs" = some none:=by and_intros
    have Z34:PySem.W.nsIn (L2.oh KX) mainGlobals "bool" = some none:=by and_intros
    have Z35:PySem.W.nsIn (L2.oh KX) mainGlobals "dict" = some none:=by and_intros
    have Z36:PySem.W.nsIn (L2.oh KX) mainGlobals "enumerate" = some none:=by and_intros
    have Z37:PySem.W.nsIn (L2.oh KX) mainGlobals "int" = some none:=by and_intros
    have Z38:PySem.W.nsIn (L2.oh KX) mainGlobals "isinstance" = some none:=by and_intros
    have Z39:PySem.W.nsIn (L2.oh KX) mainGlobals "len" = some none:=by and_intros
    have Z40:PySem.W.nsIn (L2.oh KX) mainGlobals "list" = some none:=by and_intros
    have Z41:PySem.W.nsIn (L2.oh KX) mainGlobals "min" = some none:=by and_intros
    have Z42:PySem.W.nsIn (L2.oh KX) mainGlobals "range" = some none:=by and_intros
    have Z43:PySem.W.nsIn (L2.oh KX) mainGlobals "set" = some none:=by and_intros
    have Z44:PySem.W.nsIn (L2.oh KX) mainGlobals "sorted" = some none:=by and_intros
    have Z45:PySem.W.nsIn (L2.oh KX) mainGlobals "tuple" = some none:=by and_intros
    have Z46:PySem.W.nsIn (L2.oh KX) mainGlobals "zip" = some none:=by and_intros
    have YNOUGHT:MM.kA (L2.oh KX) "NOUGHT" 0 1:=by
      dsimp only [L2.oh]
      refine' MM.wj ?h ?l
      (case h=>k_is)
      (case l=>k_is)
    have YONE:MM.kA (L2.oh KX) "ONE" 1 1:=by
      dsimp only [L2.oh]
      refine' MM.wj ?h ?l
      (case h=>k_is)
      (case l=>k_is)
    exact MM.IE Dlaw Law.KG hmg KX G fun base kb nb=>Law.KH ⟨kb,nb⟩ D0 D1 D2 D3 D4 D5 D6 D7 D8 D9 D10 D11 D12 D13 D14 D15 D16 D17 D18 D19 D20 D21 D22 D23 D24 D25 D26 D27 D28 D29 D30 D31 D32 Dlaw Z33 Z34 Z35 Z36 Z37 Z38 Z39 Z40 Z41 Z42 Z43 Z44 Z45 Z46 YNOUGHT YONE
